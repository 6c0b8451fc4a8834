import PyProof.Rows.All
import Wide.All
import OpenK.AllK
import Wide.FinOn
import HandS.ForMost
import HandS.Evl
import HandS.Walk
import HandS.Zip
import HandS.IsInst
import HandS.Style
import HandS.FStr
import HandS.Strs
import HandS.TupAny
import HandS.Deep
import HandS.Exc
import HandS.TryOnly
import HandS.ExcOwn
import HandS.WordsExc
import KE.GoesMore
import KE.GoesEnum
import KE.DataMinMax
import KE.SortData
import HandS.SortKw
import HandS.TupSets
import HandS.SetBool
import KE.KeyNested
import PyProof.Transfer
import HandS.DictComp
import HandS.Conv
import KE.KDictKeyed
import HandS.ExcField
import HandS.ExcInit
import HandS.TryMany
import HandS.HeadHook4
import HandS.HeadHook3
import HandS.HeadHook2
import HandS.HeadHook1
import HandS.HeadEnd
import HandS.Head2
import HandS.Head1
import HandS.Head0
import KE.KStateDown
import HandS.Flow
import KE.KUnpackStar
import KE.GoesEnumKw
import KE.KTupSum
import PySem.Challenge.RW_earmarks_k52_whole_told_at_the_gathering
set_option Elab.async false
set_option linter.all false
set_option maxRecDepth 100000
set_option maxHeartbeats 2000000
abbrev aqY:=@Option.bind_eq_some_iff
abbrev aqZ:=@PySem.W.Frag
abbrev aq0:=@Bool.and_eq_true
abbrev aq1:=@List.getElem?_eq_some_iff
abbrev aq2:=@List.getElem?_eq_getElem
abbrev aq3:=@List.map_cons
abbrev aq4:=@List.mem_cons_self
abbrev aq5:=@List.mem_cons_of_mem
abbrev aq6:=@List.mem_of_getElem?
abbrev aq7:=@List.mem_singleton
abbrev aq8:=@List.getElem?_set_ne
abbrev aq9:=@List.length_map
abbrev ara:=@List.getElem?_append_left
abbrev arb:=@List.mem_append
abbrev ard:=@List.getElem?_map
abbrev arf:=@List.mem_map
abbrev arh:=@List.mem_cons
abbrev ari:=@List.length_cons
abbrev arj:=@List.length_filter_le
abbrev ark:=@Bool.not_eq_true'
abbrev arl:=@List.getElem?_set_self
abbrev arn:=@Option.some.inj
abbrev aro:=@List.getElem?_append_right
abbrev arp:=@List.mem_filter
abbrev arq:=@Function.comp_def
abbrev ars:=@List.all_eq_true
abbrev aru:=@Nat.le_refl
abbrev arv:=@Nat.le_trans
abbrev arw:=@List.length_set
abbrev arx:=@List.ext_getElem?
abbrev arz:=@Bool.false_eq_true
abbrev arA:=@List.map_map
abbrev arB:=@List.lookup_cons
abbrev arC:=@List.getElem?_eq_none
abbrev arD:=@List.not_mem_nil
abbrev arE:=@List.filter_cons
abbrev arF:=@Nat.ne_of_lt
abbrev arG:=@List.map_append
abbrev arH:=@Array.length_toList
abbrev arI:=@Option.map_eq_some_iff
abbrev arJ:=@List.mem_append_left
abbrev arK:=@List.all_cons
abbrev arL:=@List.mem_append_right
abbrev arM:=@List.getElem?_mapIdx
abbrev arN:=@List.getElem?_zip_eq_some
abbrev arO:=@Nat.zero_le
abbrev arP:=@List.zip_cons_cons
abbrev arQ:=@List.append_nil
abbrev arR:=@List.drop_eq_getElem_cons
abbrev arS:=@Array.getElem?_toList
abbrev arT:=@List.length_append
abbrev arU:=@List.getElem_mem
abbrev arV:=@List.nodup_append
abbrev arW:=@List.length_reverse
abbrev arX:=@Nat.succ.inj
abbrev arY:=@List.drop_length
abbrev arZ:=@List.filter_filter
abbrev ar0:=@List.nodup_cons
abbrev ar3:=@Nat.lt_succ_of_lt
abbrev ar4:=@List.getElem?_set
abbrev ar5:=@List.any_cons
abbrev ar6:=@List.pairwise_mergeSort
abbrev ar7:=@Bool.eq_iff_iff
abbrev ar8:=@Bool.or_eq_true
abbrev ar9:=@List.reverse_cons
abbrev ase:=@List.mem_of_mem_take
abbrev asf:=@List.map_nil
abbrev ash:=@List.mergeSort_perm
abbrev asi:=@List.eraseDups_cons
abbrev asj:=@List.filter_eq_self
abbrev asl:=@List.foldl_cons
abbrev asn:=@List.Pairwise.imp
abbrev aso:=@List.size_toArray
abbrev asp:=@List.nodup_nil
abbrev asq:=@List.drop_zero
abbrev asr:=@List.any_map
abbrev asu:=@List.length_drop
abbrev asv:=@PySem.W.AllAlike.of
abbrev asw:=@Nat.add_sub_cancel'
abbrev asx:=@Nat.add_left_cancel
namespace Rf
open PySem PySem.Spec PyProof.Rows L2 HandSHeadRun
abbrev Dat:=PyData
abbrev Ft:=List (Str×List Str)
structure MK(fa:List He.Fa)(fn:List He.DefD)(tb:List He.Tab)(ex:aqZ->Bool)(w:World)(K:aqZ):Prop where
 t:He.SaysT fa fn tb w K
 more:ex K=true
def acG(as:List Addr)(fa:List He.Fa)(fn:List He.DefD)(tb:List He.Tab)(ex:aqZ->Bool)(g:Addr->Option Obj):He.AlX:=(He.obsT fa fn tb (He.frG g as),ex (He.frG g as))
def abS(as:List Addr)(fa:List He.Fa)(fn:List He.DefD)(tb:List He.Tab)(ex:aqZ->Bool):PySem.W.Hook where
 α:=He.AlX
 obs:=fun s=>acG as fa fn tb ex s.heap.get?
 val:=fun w=>He.valX fn tb w
 says:=fun w h=>∃K:aqZ,K.In h/\MK fa fn tb ex w K
 of:=fun w s e=>⟨_,He.frG_in,⟨congrArg (fun z:He.AlX=>z.1) e,congrArg (fun z:He.AlX=>z.2) e⟩⟩
 keeps:=fun _ _ _ ⟨K,hK,c⟩ k=>⟨K,PySem.W.Frag.In.keeps hK k,c⟩
theorem ah9{as:List Addr}{fa:List He.Fa}{fn:List He.DefD}{tb:List He.Tab}{ex:aqZ->Bool}{g:Addr->Option Obj}{s:Shared}(h:∀a,g a=s.heap.get? a):acG as fa fn tb ex g=(abS as fa fn tb ex).obs s:=by
 rw[show g=s.heap.get? from funext h]
 rfl
def Kf(K:aqZ)(ft:Ft):Bool:=ft.all fun p=>(He.Fa.cls p.1).ok K&&p.2.all fun f=>(He.Fa.noat p.1 f).ok K
def xmB(K:aqZ)(xm:List (Str×List (Str×Bool))):Bool:=xm.all fun p=>p.2.all fun q=>(He.Fa.exm q.1 p.1 q.2).ok K
def ai3(K:aqZ)(C:Addr):Bool:=(match K.lookup C with
 |some ⟨.type t,_,.cls cd,sl⟩=>decide (t="type")&&(match cd.mro,sl.toList with
  |.ref C'::bm,[_,_,_,_,some (.builtin n),_]=>decide (C'=C)&&(decide (n="ValueError.__new__")&&(!cd.hasDel&&(cd.hasDict&&PySem.HandSPX.refsVE bm)))
  |_,_=>false)
 |_=>false)&&(He.eqO (PySem.W.findIn K (.ref C) "__setattr__") (some (some (.builtin "object.__setattr__")))&&(decide (PySem.W.subIn K (.ref C) (.type "BaseException")=some true)&&(decide (PySem.W.typeIn K (.ref C)=some (.type "type"))&&PySem.W.keepIn K (.ref C))))
def Uw(K:aqZ)(x:Str)(fs:List Str):Bool:=ai3 K (He.ga K x)&&(He.eqO (PySem.W.findIn K (.ref (He.ga K x)) "__init__") (some (some (.ref (He.ma K (He.ga K x) "__init__"))))&&(decide (PySem.W.typeIn K (.ref (He.ma K (He.ga K x) "__init__"))=some (.type "function"))&&(xfB K (He.ga K x)&&fs.all fun f=>He.eqO (PySem.W.findIn K (.ref (He.ga K x)) f) (some none))))
def Xy(K:aqZ)(a:Addr)(xs:List Str):Bool:=match K.lookup a with
 |some ⟨.type c,_,.seq its _,_⟩=>decide (c="tuple")&&(decide (its.size<=sizeLine)&&He.relAll (xs.map V.str) its.toList)
 |_=>false
def ae4(K:aqZ)(x:Str)(kvs:List (Str×List Str)):Bool:=(match K.lookup (He.ga K x) with
 |some ⟨_,_,.dict es _,_⟩=>es.toList.all (fun e=>(match e.key with
   |.str y _=>(kvs.map (·.1)).contains y
   |_=>false)&&!e.refKey)
 |_=>false)&&(decide ((kvs.map (·.1)).Nodup)&&kvs.all fun q=>match PySem.W.nsIn K (He.ga K x) q.1 with
  |some (some (.ref a))=>Xy K a q.2
  |_=>false)
section
open PySem.W PySem.Calls
noncomputable abbrev ajI (r:PySem.W.OpenRow) (M:Nat) (w:World) (os:PySem.OsState):Option PySem.W.SharedT:=endF (stepQ (denQ tabQ) r.prog w) M r.prog w os
def aeR(r:PySem.W.OpenRow)(q:Program)(as:List Addr)(ex:aqZ->Bool)(M:Nat)(loose:List Str)(w:World):Prop:=∀os,(ajI r M w os).map (fun s=>(looksF r.prog (boot_heap w.params) s.abs,HandSHeadRun.seenQ q loose (importedModules r.prog.main.body) (fun s=>PySem.W.xlAt q [] s&&PySem.W.recOk r.toRowW.records s) s.abs,ex (He.frG (getT s) as)))=some (true,PySem.W.openGood q loose,true)
def af2(r:PySem.W.OpenRow)(as:List Addr)(fa:List He.Fa)(fn:List He.DefD)(tb:List He.Tab)(M:Nat)(w:World):Prop:=∀os,(ajI r M w os).map (fun s=>He.obsT fa fn tb (He.frG (getT s) as))=some (He.valT fn tb w)
theorem VL{r:PySem.W.OpenRow}{q:Program}{as:List Addr}{fa:List He.Fa}{fn:List He.DefD}{tb:List He.Tab}{ex:aqZ->Bool}{M:Nat}{loose:List Str}{w:World}
  (a:aeR r q as ex M loose w) (c:af2 r as fa fn tb M w):RunEq r q (abS as fa fn tb ex) (fun s=>acG as fa fn tb ex (getT s)) M loose w:=fun os=>by
 obtain⟨s,hs,h1⟩:=arI.mp (a os)
 obtain⟨h1,h2⟩:=Prod.mk.inj h1
 obtain⟨h2,h4⟩:=Prod.mk.inj h2
 have h3:=c os
 have hs':endF (stepQ (denQ tabQ) r.prog w) M r.prog w os=some s:=hs
 rw[hs,Option.map_some]at h3
 have h3:=arn h3
 rw[hs',Option.map_some]
 exact congrArg some (Prod.ext h1 (Prod.ext h2 (Prod.ext h3 h4)))
end
end Rf
namespace Pr
open PySem PySem.Spec PyProof.Rows L2 Evl Rf
def cR:Dat:=.int 9
def ju:Dat:=.int 1
def kJ:Dat:=.int 3
def ig:Dat:=.int 9
def jc:Dat:=.tuple [.str "lt",.str "lf",.str "lh",.str "rt",.str "rf",.str "rh"]
def jB:Dat:=.tuple [.int 0,.int 0,.int 0,.int 0,.int 0,.int 0]
def oM:Dat:=.int 999999999
def zp:List (Str×List Str):=[("owner",[]),("ground",["number"]),("enrol",["number","number","ear"]),("leave",["number","number"]),("bring",["number","number","ear"]),("bear",["number"]),("cut",["number"]),("tear",["number","place"]),("sell",["number","number"]),("move",["number","number"]),("die",["number"]),("unite",["number","number"]),("part",["number"]),("pass",["number","number"]),("heir",["number","number","number"])]
def j6:Ft:=[("Beast",["story","mother","owner","ground","due","ear","alive"]),("Herd",["beasts"]),("Grounds",["allowances","circles"]),("Rights",["held"]),("Commons",["owner_count","holders","grounds","rights","herd"])]
def uZ:List (Str×Bool):=[("NoGround",true),("NoOwner",true),("NoRight",true),("HasRight",true),("NoneFree",true),("BadExtra",true),("BadAllowance",true),("Clash",true),("BadEar",true),("Bare",true),("StillThere",true),("NoBeast",true),("Dead",true),("Unmarked",true),("Deepest",true),("NoPlace",true),("SameOwner",true),("SameGround",true),("Together",true),("Alone",true),("BadDeed",true)]
def xmH:List (Str×List (Str×Bool)):=[("CommonError",uZ)]
def dfH:List (Str×Bool):=[("held",true),("holders",false)]
def Wh:List (Str×List Str):=[("Clash",["ones","others","ear"])]
def aY(i:Nat):Stmt:=PySem.Challenge.pw_earmarks_k52_whole_told_at_the_gathering.main.body.getD i (.Pass ⟨0,0,0,0⟩)
abbrev Gm:Stmt:=inClass (aY 50) 0
abbrev JM:Stmt:=inClass (aY 55) 0
abbrev N6:Stmt:=inClass (aY 35) 0
abbrev Gu:Stmt:=inClass (aY 66) 0
abbrev JK:Stmt:=inClass (aY 34) 2
abbrev Lg:Stmt:=inClass (aY 34) 4
abbrev Cz:Stmt:=inClass (aY 66) 17
abbrev BL:Stmt:=inClass (aY 55) 1
abbrev FZ:Stmt:=inClass (aY 50) 3
abbrev JF:Stmt:=inClass (aY 50) 2
abbrev Hl:Stmt:=inClass (aY 50) 4
abbrev yK:Stmt:=inClass (aY 50) 5
abbrev Aq:Stmt:=inClass (aY 50) 6
abbrev Ao:Stmt:=inClass (aY 66) 19
abbrev HJ:Stmt:=inClass (aY 66) 32
abbrev s_row:Stmt:=aY 68
abbrev Z8:Stmt:=aY 69
abbrev agx:Stmt:=aY 70
abbrev Oh:Stmt:=aY 71
abbrev Ww:Stmt:=aY 72
abbrev xY:Stmt:=inClass (aY 66) 33
abbrev Fw:Stmt:=inClass (aY 55) 3
abbrev Ay:Stmt:=inClass (aY 55) 4
abbrev xR:Stmt:=inClass (aY 66) 34
abbrev yL:Stmt:=inClass (aY 66) 1
abbrev Ah:Stmt:=inClass (aY 55) 2
abbrev adf:Stmt:=aY 47
abbrev aaT:Stmt:=aY 44
abbrev NP:Stmt:=aY 52
abbrev abH:Stmt:=aY 45
abbrev adq:Stmt:=aY 46
abbrev Ks:Stmt:=aY 53
abbrev yx:Stmt:=inClass (aY 66) 35
abbrev Yv:Stmt:=aY 57
abbrev Bv:Stmt:=inClass (aY 35) 5
abbrev Gv:Stmt:=inClass (aY 35) 6
abbrev yJ:Stmt:=inClass (aY 55) 7
abbrev vB:Stmt:=inClass (aY 66) 22
abbrev Aa:Stmt:=inClass (aY 66) 21
abbrev Gx:Stmt:=inClass (aY 50) 7
abbrev GP:Stmt:=inClass (aY 66) 18
abbrev Ak:Stmt:=inClass (aY 66) 15
abbrev xP:Stmt:=inClass (aY 50) 1
abbrev yG:Stmt:=inClass (aY 66) 2
abbrev Wq:Stmt:=aY 58
abbrev abh:Stmt:=aY 43
abbrev RL:Stmt:=aY 59
abbrev yu:Stmt:=inClass (aY 66) 36
abbrev Z0:Stmt:=aY 28
abbrev RN:Stmt:=aY 65
abbrev Ds:Stmt:=inClass (aY 66) 3
abbrev JQ:Stmt:=inClass (aY 55) 5
abbrev Ei:Stmt:=inClass (aY 66) 4
abbrev CG:Stmt:=inClass (aY 34) 1
abbrev aa4:Stmt:=aY 30
abbrev Lr:Stmt:=inClass (aY 34) 0
abbrev CW:Stmt:=inClass (aY 35) 1
abbrev Eh:Stmt:=inClass (aY 66) 5
abbrev Mg:Stmt:=inClass (aY 35) 2
abbrev JR:Stmt:=inClass (aY 35) 3
abbrev JD:Stmt:=inClass (aY 35) 4
abbrev G4:Stmt:=inClass (aY 66) 6
abbrev QL:Stmt:=aY 32
abbrev Vj:Stmt:=aY 31
abbrev Gi:Stmt:=inClass (aY 34) 3
abbrev JH:Stmt:=inClass (aY 66) 7
abbrev Hw:Stmt:=inClass (aY 66) 8
abbrev JT:Stmt:=inClass (aY 35) 8
abbrev Ag:Stmt:=inClass (aY 35) 9
abbrev Gn:Stmt:=inClass (aY 66) 9
abbrev Hg:Stmt:=inClass (aY 66) 10
abbrev JC:Stmt:=inClass (aY 66) 11
abbrev R7:Stmt:=aY 60
abbrev Az:Stmt:=inClass (aY 66) 24
abbrev BK:Stmt:=inClass (aY 50) 10
abbrev Eo:Stmt:=inClass (aY 50) 8
abbrev Eb:Stmt:=inClass (aY 66) 12
abbrev Ho:Stmt:=inClass (aY 50) 9
abbrev Hv:Stmt:=inClass (aY 66) 13
abbrev Av:Stmt:=inClass (aY 55) 6
abbrev Kg:Stmt:=inClass (aY 35) 7
abbrev Bx:Stmt:=inClass (aY 66) 14
abbrev Oe:Stmt:=aY 40
abbrev aeO:Stmt:=aY 39
abbrev K8:Stmt:=inClass (aY 66) 16
abbrev aed:Stmt:=aY 73
abbrev acO:Stmt:=aY 74
abbrev Wn:Stmt:=aY 75
abbrev agv:Stmt:=aY 76
abbrev aev:Stmt:=aY 77
abbrev acW:Stmt:=aY 78
abbrev Ze:Stmt:=aY 42
abbrev Og:Stmt:=aY 61
abbrev Dq:Stmt:=inClass (aY 66) 26
abbrev VN:Stmt:=aY 80
abbrev adx:Stmt:=aY 79
abbrev abm:Stmt:=aY 81
abbrev aa1:Stmt:=aY 82
abbrev Rx:Stmt:=aY 83
abbrev FT:Stmt:=inClass (aY 66) 27
abbrev aaY:Stmt:=aY 84
abbrev Nf:Stmt:=aY 85
abbrev Ke:Stmt:=inClass (aY 23) 0
abbrev dM(c m q:Str)(s:Stmt):He.DefD:=⟨(c,some m),m,q,defArgs s,defBody s,defScope s,[],[]⟩
abbrev dF(x:Str)(s:Stmt):He.DefD:=⟨(x,none),x,x,defArgs s,defBody s,defScope s,[],[]⟩
def xsH:List Str:=["Grounds","Rights","Herd","Commons","Beast","NoGround","NoOwner","NoRight","HasRight","NoneFree","BadExtra","BadAllowance","Clash","BadEar","Bare","StillThere","NoBeast","Dead","Unmarked","Deepest","NoPlace","SameOwner","SameGround","Together","Alone","BadDeed","CommonError"]
def tbs:List He.Tab:=[(fun K=>He.ga K "SHAPES",["owner","ground","enrol","leave","bring","bear","cut","tear","sell","move","die","unite","part","pass","heir"])]
def nm0:List PySem.Str:=["_wall","CommonError","BadEar","Bare","BadAllowance","BadExtra","NoPlace","Deepest","NoOwner","NoGround","NoBeast","NoRight"]
def nm1:List PySem.Str:=["HasRight","StillThere","Dead","Unmarked","SameOwner","SameGround","Together","Alone","NoneFree","BadDeed","Clash","PLACES"]
def nm2:List PySem.Str:=["GREATEST_DEPTH","BARE_EAR","is_ear","begun","gone_on","deepened","Beast","Herd","SHAPES","GREATEST_PART","fits","part_fits"]
def nm3:List PySem.Str:=["deeper","joint","lacks","apart","meet","torn","GREATEST_ALLOWANCE","Grounds","offspring","first_free","Rights","tidied"]
def nm4:List PySem.Str:=["barring","ask_room","clashing","owners_of","FEWEST_EXTRA","MOST_EXTRA","need_ear","Commons","_law_row","_law_ear_by","_law_ear","_law_begun"]
def nm5:List PySem.Str:=["_law_word_by","_law_done","_law_near","_law_mark_by","_law_ref","_law_deed","_law_play","_law_cell","_law_room_of","_law_tears","_law_whole","_law_like"]
def nm6:List PySem.Str:=["_law_found"]
def nm:List PySem.Str:=nm0++nm1++nm2++nm3++nm4++nm5++nm6
def fa0:List He.Fa:=[.mkr "Grounds",.mkr "Rights",.mkr "Herd",.mkr "Commons",.meth "Beast" "stand",.meth "Beast" "told",.meth "Commons" "owners",.meth "Rights" "all_rows",.meth "Grounds" "many",.meth "Grounds" "has",.meth "Grounds" "need",.meth "Grounds" "allowance"]
def fa1:List He.Fa:=[.meth "Grounds" "together",.meth "Commons" "together",.meth "Commons" "look",.glo "_law_row",.glo "_law_ear_by",.glo "_law_ear",.glo "_law_begun",.glo "_law_word_by",.meth "Commons" "need_owner",.meth "Rights" "marks",.meth "Rights" "has_right",.meth "Commons" "need_right"]
def fa2:List He.Fa:=[.meth "Commons" "new_owner",.meth "Rights" "add_right",.glo "torn",.glo "lacks",.glo "offspring",.glo "apart",.glo "meet",.glo "first_free",.meth "Commons" "first_mark",.glo "tidied",.meth "Herd" "all_living",.meth "Herd" "grazing"]
def fa3:List He.Fa:=[.meth "Rights" "in_grounds",.meth "Commons" "standing_but",.meth "Commons" "standing",.meth "Grounds" "room",.meth "Commons" "room",.meth "Commons" "new_heir",.meth "Grounds" "add_ground",.meth "Commons" "new_ground",.glo "barring",.glo "joint",.glo "ask_room",.meth "Commons" "ask_ground"]
def fa4:List He.Fa:=[.glo "is_ear",.glo "need_ear",.meth "Commons" "enrol",.meth "Rights" "drop",.meth "Commons" "leave",.meth "Beast" "stand_so",.glo "begun",.mkr "Beast",.meth "Herd" "add_beast",.meth "Commons" "bring",.meth "Herd" "known",.meth "Herd" "living"]
def fa5:List He.Fa:=[.meth "Herd" "marked",.meth "Commons" "bear",.glo "deepened",.glo "gone_on",.meth "Beast" "befall",.meth "Commons" "cut",.meth "Commons" "tear",.meth "Herd" "calves",.meth "Herd" "lead_calves",.meth "Commons" "sell",.meth "Commons" "move",.meth "Commons" "die"]
def fa6:List He.Fa:=[.glo "clashing",.meth "Commons" "quarrels",.meth "Grounds" "enclose",.meth "Grounds" "unite",.meth "Commons" "unite",.meth "Grounds" "part",.meth "Commons" "part",.meth "Rights" "hand_over",.meth "Herd" "owned",.meth "Commons" "pass_on",.glo "part_fits",.glo "fits"]
def fa7:List He.Fa:=[.meth "Commons" "do",.glo "_law_done",.glo "_law_near",.glo "_law_mark_by",.glo "_law_ref",.glo "_law_deed",.glo "_law_play",.glo "deeper",.glo "owners_of",.meth "Commons" "gather",.glo "_law_room_of",.glo "_law_cell"]
def fa8:List He.Fa:=[.glo "_law_tears",.glo "_law_whole",.glo "_law_like",.meth "Commons" "worn",.glo "_law_found",.glo "law",.glo "Grounds",.glo "Rights",.glo "Herd",.glo "Commons",.glo "Beast",.glo "NoGround"]
def fa9:List He.Fa:=[.exc "NoGround",.glo "NoOwner",.exc "NoOwner",.glo "NoRight",.exc "NoRight",.glo "HasRight",.exc "HasRight",.glo "NoneFree",.exc "NoneFree",.glo "BadExtra",.exc "BadExtra",.glo "BadAllowance"]
def ana:List He.Fa:=[.exc "BadAllowance",.glo "Clash",.glo "BadEar",.exc "BadEar",.glo "Bare",.exc "Bare",.glo "StillThere",.exc "StillThere",.glo "NoBeast",.exc "NoBeast",.glo "Dead",.exc "Dead"]
def anb:List He.Fa:=[.glo "Unmarked",.exc "Unmarked",.glo "Deepest",.exc "Deepest",.glo "NoPlace",.exc "NoPlace",.glo "SameOwner",.exc "SameOwner",.glo "SameGround",.exc "SameGround",.glo "Together",.exc "Together"]
def anx:List He.Fa:=[.glo "Alone",.exc "Alone",.glo "BadDeed",.exc "BadDeed",.glo "CommonError",.exc "CommonError",.glo "SHAPES",.int "GREATEST_DEPTH" 9,.int "FEWEST_EXTRA" 1,.int "MOST_EXTRA" 3,.int "GREATEST_ALLOWANCE" 9,.glo "PLACES"]
def anp:List He.Fa:=[.glo "BARE_EAR",.int "GREATEST_PART" 999999999,.free "tuple",.free "list",.free "len",.free "range",.free "abs",.free "max",.free "min",.free "sum",.free "zip",.free "any"]
def anF:List He.Fa:=[.free "sorted",.free "set",.free "enumerate",.free "all",.free "isinstance",.free "int",.free "bool",.free "str"]
def fa:List He.Fa:=fa0++fa1++fa2++fa3++fa4++fa5++fa6++fa7++fa8++fa9++ana++anb++anx++anp++anF
def fn0:List He.DefD:=[dM "Grounds" "__init__" "Grounds.__init__" Gm,dM "Rights" "__init__" "Rights.__init__" JM,dM "Herd" "__init__" "Herd.__init__" N6,dM "Commons" "__init__" "Commons.__init__" Gu,dM "Beast" "stand" "Beast.stand" JK,dM "Beast" "told" "Beast.told" Lg,dM "Commons" "owners" "Commons.owners" Cz,dM "Rights" "all_rows" "Rights.all_rows" BL,dM "Grounds" "many" "Grounds.many" FZ,dM "Grounds" "has" "Grounds.has" JF,dM "Grounds" "need" "Grounds.need" Hl,dM "Grounds" "allowance" "Grounds.allowance" yK]
def fn1:List He.DefD:=[dM "Grounds" "together" "Grounds.together" Aq,dM "Commons" "together" "Commons.together" Ao,dM "Commons" "look" "Commons.look" HJ,dF "_law_row" s_row,dF "_law_ear_by" Z8,dF "_law_ear" agx,dF "_law_begun" Oh,dF "_law_word_by" Ww,dM "Commons" "need_owner" "Commons.need_owner" xY,dM "Rights" "marks" "Rights.marks" Fw,dM "Rights" "has_right" "Rights.has_right" Ay,dM "Commons" "need_right" "Commons.need_right" xR]
def fn2:List He.DefD:=[dM "Commons" "new_owner" "Commons.new_owner" yL,dM "Rights" "add_right" "Rights.add_right" Ah,dF "torn" adf,dF "lacks" aaT,dF "offspring" NP,dF "apart" abH,dF "meet" adq,dF "first_free" Ks,dM "Commons" "first_mark" "Commons.first_mark" yx,dF "tidied" Yv,dM "Herd" "all_living" "Herd.all_living" Bv,dM "Herd" "grazing" "Herd.grazing" Gv]
def fn3:List He.DefD:=[dM "Rights" "in_grounds" "Rights.in_grounds" yJ,dM "Commons" "standing_but" "Commons.standing_but" vB,dM "Commons" "standing" "Commons.standing" Aa,dM "Grounds" "room" "Grounds.room" Gx,dM "Commons" "room" "Commons.room" GP,dM "Commons" "new_heir" "Commons.new_heir" Ak,dM "Grounds" "add_ground" "Grounds.add_ground" xP,dM "Commons" "new_ground" "Commons.new_ground" yG,dF "barring" Wq,dF "joint" abh,dF "ask_room" RL,dM "Commons" "ask_ground" "Commons.ask_ground" yu]
def fn4:List He.DefD:=[dF "is_ear" Z0,dF "need_ear" RN,dM "Commons" "enrol" "Commons.enrol" Ds,dM "Rights" "drop" "Rights.drop" JQ,dM "Commons" "leave" "Commons.leave" Ei,dM "Beast" "stand_so" "Beast.stand_so" CG,dF "begun" aa4,dM "Beast" "__init__" "Beast.__init__" Lr,dM "Herd" "add_beast" "Herd.add_beast" CW,dM "Commons" "bring" "Commons.bring" Eh,dM "Herd" "known" "Herd.known" Mg,dM "Herd" "living" "Herd.living" JR]
def fn5:List He.DefD:=[dM "Herd" "marked" "Herd.marked" JD,dM "Commons" "bear" "Commons.bear" G4,dF "deepened" QL,dF "gone_on" Vj,dM "Beast" "befall" "Beast.befall" Gi,dM "Commons" "cut" "Commons.cut" JH,dM "Commons" "tear" "Commons.tear" Hw,dM "Herd" "calves" "Herd.calves" JT,dM "Herd" "lead_calves" "Herd.lead_calves" Ag,dM "Commons" "sell" "Commons.sell" Gn,dM "Commons" "move" "Commons.move" Hg,dM "Commons" "die" "Commons.die" JC]
def fn6:List He.DefD:=[dF "clashing" R7,dM "Commons" "quarrels" "Commons.quarrels" Az,dM "Grounds" "enclose" "Grounds.enclose" BK,dM "Grounds" "unite" "Grounds.unite" Eo,dM "Commons" "unite" "Commons.unite" Eb,dM "Grounds" "part" "Grounds.part" Ho,dM "Commons" "part" "Commons.part" Hv,dM "Rights" "hand_over" "Rights.hand_over" Av,dM "Herd" "owned" "Herd.owned" Kg,dM "Commons" "pass_on" "Commons.pass_on" Bx,dF "part_fits" Oe,dF "fits" aeO]
def fn7:List He.DefD:=[dM "Commons" "do" "Commons.do" K8,dF "_law_done" aed,dF "_law_near" acO,dF "_law_mark_by" Wn,dF "_law_ref" agv,dF "_law_deed" aev,dF "_law_play" acW,dF "deeper" Ze,dF "owners_of" Og,dM "Commons" "gather" "Commons.gather" Dq,dF "_law_room_of" VN,dF "_law_cell" adx]
def fn8:List He.DefD:=[dF "_law_tears" abm,dF "_law_whole" aa1,dF "_law_like" Rx,dM "Commons" "worn" "Commons.worn" FT,dF "_law_found" aaY,dF "law" Nf,dM "Clash" "__init__" "Clash.__init__" Ke]
def fn:List He.DefD:=fn0++fn1++fn2++fn3++fn4++fn5++fn6++fn7++fn8
def exB(K:aqZ):Bool:=true&&Kf K j6&&xmB K xmH&&(Wh.all fun p=>xsH.contains p.1&&Uw K p.1 p.2)&&ae4 K "SHAPES" zp&&He.tupB K "PLACES" [.str "lt",.str "lf",.str "lh",.str "rt",.str "rf",.str "rh"]&&He.tupB K "BARE_EAR" [.int 0,.int 0,.int 0,.int 0,.int 0,.int 0]
def ad0:List Addr:=[3,31,44,56,68,80,92,104,116,128,140,152,164,176,188,200,212,224,236,248,260,272,291,294]
def ad1:List Addr:=[295,300,307,314,319,364,447,452,472,479,484,489,494,501,508,513,596,605,610,670,681,686,693,698]
def ad2:List Addr:=[703,710,967,978,983,990,997,1004,1011,1018,1025,1032,1039,1046,1053,1058,1063,1070,1077,1082,1087,30,43,55]
def ad3:List Addr:=[67,79,91,103,115,127,139,151,163,175,187,199,211,223,235,247,259,271,290,299,306,313,318,363]
def ad4:List Addr:=[446,453,454,455,456,457,458,459,460,461,462,463,464,465,466,467,471,478,483,488,493,500,507,512]
def ad5:List Addr:=[595,604,609,669,680,685,692,697,702,709,966,977,982,989,996,1003,1010,1017,1024,1031,1038,1045,1052,1057]
def ad6:List Addr:=[1062,1069,1076,1081,1086,29,32,42,54,66,78,90,102,114,126,138,150,162,174,186,198,210,222,234]
def ad7:List Addr:=[246,258,270,288,289,333,340,347,354,361,362,365,366,382,389,396,403,410,415,420,425,430,437,444]
def ad8:List Addr:=[445,448,449,527,534,541,548,555,562,569,574,581,586,593,594,597,598,624,631,638,643,650,657,662]
def ad9:List Addr:=[667,668,671,672,724,731,738,745,750,757,764,771,778,785,792,799,806,813,818,825,832,839,846,853]
def ang:List Addr:=[860,867,872,879,886,893,898,905,912,917,924,931,936,943,950,957,964,965,968,969,287,332,339,346]
def anB:List Addr:=[353,360,381,388,395,402,409,414,419,424,429,436,443,526,533,540,547,554,561,568,573,580,585,592]
def anr:List Addr:=[623,630,637,642,649,656,661,666,723,730,737,744,749,756,763,770,777,784,791,798,805,812,817,824]
def amQ:List Addr:=[831,838,845,852,859,866,871,878,885,892,897,904,911,916,923,930,935,942,949,956,963]
def ad:List Addr:=ad0++ad1++ad2++ad3++ad4++ad5++ad6++ad7++ad8++ad9++ang++anB++anr++amQ
abbrev R:PySem.W.OpenRow:=PySem.W.OpenLaw.row PySem.Challenge.rw_earmarks_k52_whole_told_at_the_gathering
abbrev hkE:PySem.W.Hook:=abS ad fa fn tbs exB
def obE(s:PySem.W.SharedT):He.AlX:=acG ad fa fn tbs exB (HandSHeadRun.getT s)
theorem aks(s:PySem.W.SharedT):obE s=hkE.obs s.abs:=ah9 (HandSHeadRun.getT_eq s)
abbrev wR(w:World)(b:Bool):World:=w.withFollow "special-get-raises" b
theorem amf(w:World):aeR R (PySem.W.view R.prog [85]) ad exB 40000 nm (wR w false):=by
 intro os
 kernel_rfl
theorem al1(w:World):af2 R ad fa fn tbs 40000 (wR w false):=by
 intro os
 kernel_rfl
theorem runAt(w:World):aeR R (PySem.W.view R.prog [85]) ad exB 40000 nm (wR w true):=by
 intro os
 kernel_rfl
theorem alA(w:World):af2 R ad fa fn tbs 40000 (wR w true):=by
 intro os
 kernel_rfl
theorem run(w:World):HandSHeadRun.RunEq R (PySem.W.view R.prog [85]) hkE obE 40000 nm w:=PySem.W.byRow2 "special-get-raises" (P:=fun w=>HandSHeadRun.RunEq R (PySem.W.view R.prog [85]) hkE obE 40000 nm w) (fun w=>VL (amf w) (al1 w)) (fun w=>VL (runAt w) (alA w)) w
end Pr
namespace Ear
open PySem PySem.Spec PyProof.Rows L2 Evl RZ
section
variable{X:Cx}{C:Addr}{bmB:List Value}{B newId initId:String}
theorem aft{x:Str}{p pos:Pos}(F:ExcBaseFacts B newId initId bmB)(q:PySem.W.excIn X.K C bmB newId=true)(gC:X.mg x=some (.ref C))(kC:PySem.W.keepIn X.K (.ref C)=true)(r:Raises X (.ref C))(hg:Gl X x)
  (hn:(x==("__debug__" : Str))=false:=by decide):PMk X (.Call (.Name x p) [] [] pos) (fun _ H Q=>Q (.ref C) none H):=by
 intro pins s σ H Q I h
 refine wpAny_Call_Name_kw (ld_glob I hg gC ?_ hn)
 refine PySem.W.callWith_K0 I.kIn kC ?_
 show wpAny _ _ (call (.ref C) []) _ _ _
 obtain⟨bm,N,nm,qn,bs,hdct,sn,sub,ab,col,dd,k0,k1,k2,k3,k5,mN,hC,hN,hni,T⟩:=exc_obj I.kIn q
 refine wpAny_call_exc_subT F T hC hN hni (fun h' e hm=>?_) (arO _)
 exact mk_of I hm r h (I.hok.gone hm.new)
end
theorem exm_one{K:aqZ}{S:Addr}(h1:PySem.W.subIn K (.ref S) (.type "BaseException")=some true)(h2:PySem.W.isClsIn K S=true)(h3:PySem.W.typeIn K (.ref S)=some (.type "type"))(h4:PySem.W.subIn K (.ref S) (.ref S)=some true) :
  PySem.W.exmOne K (.ref S) (.ref S)=some true:=by
 have e1:(PySem.W.subIn K (.ref S) (.type "BaseException")==some true)=true:=by rw[h1] <;> rfl
 have e2:((PySem.W.clsIn K S).isSome&&PySem.W.typeIn K (.ref S)==some (.type "type"))=true:=by
  rw[h3,aq0]
  exact⟨h2,rfl⟩
 show(if (PySem.W.subIn K (.ref S) (.type "BaseException")==some true)=true then(if ((PySem.W.clsIn K S).isSome&&PySem.W.typeIn K (.ref S)==some (.type "type"))=true then PySem.W.subIn K (.ref S) (.ref S) else none) else none)=some true
 rw[if_pos e1,if_pos e2]
 exact h4
def anA(xs:List Int):Prop:=xs.length=6/\∀x∈xs,0<=x/\x<=9
section
variable{K:aqZ}{σ:L2.St}{H:Hp}{te tl:TE}{tt:TT}{vs:List Nat}
def EvS(te:TE)(σ:L2.St)(H:Hp)(P:V->Hp->Prop):Prop:=∀H1,Ex H H1->∀Q:VK,(∀v H2,Ex H1 H2->P v H2->Q v H2)->te σ H1 Q
end
section
variable{K:aqZ}{σ:L2.St}{H H':Hp}{te ta tb:TE}{t:TT}{P R:V->Hp->Prop}{v:V}
theorem EvS.mono(e:Ex H H')(h:EvS te σ H P):EvS te σ H' P:=fun H1 a Q q=>h H1 (e.trans a) Q q
theorem EvS.imp(h:EvS te σ H P)(k:∀v H',P v H'->R v H'):EvS te σ H R:=fun H1 e Q q=>h H1 e Q fun v H2 e2 p=>q v H2 e2 (k v H2 p)
end
end Ear
namespace Ear
open PySem PySem.Spec PyProof.Rows L2 Evl RZ
def fB{α:Type}(R:V->α->Prop)(ws:List V)(L:List α):Prop:=ws.length=L.length/\∀(i:Nat) (v:V) (x:α),ws[i]?=some v->L[i]?=some x->R v x
theorem fB.imp{α:Type}{R S:V->α->Prop}{ws:List V}{L:List α}(h:fB R ws L)(k:∀v x,R v x->S v x):fB S ws L:=⟨h.1,fun i v x a b=>k v x (h.2 i v x a b)⟩
theorem fB.nil{α:Type}{R:V->α->Prop}:fB R [] []:=⟨rfl,fun i v x a _=>by simp at a⟩
theorem fB.snoc{α:Type}{R:V->α->Prop}{ws:List V}{L:List α}{v:V}{x:α}(h:fB R ws L)(k:R v x):fB R (ws++[v]) (L++[x]):=by
 refine⟨by rw[arT,arT,h.1];rfl,fun i u y a b=>?_⟩
 by_cases hi:i < ws.length
 ·rw[ara hi]at a
  rw[ara (by rw[←h.1];exact hi)]at b
  exact h.2 i u y a b
 ·rw[aro (by omega)]at a
  rw[aro (by rw[←h.1];omega),←h.1]at b
  have hj:i - ws.length=0:=by
   have:=(aq1.mp a).1
   simp only[ari,List.length_nil]at this
   omega
  rw[hj]at a b
  cases a
  cases b
  exact k
def Jk(H:Hp)(v:V)(l:List Int):Prop:=∃h:Addr,v=.ref h/\H h=some (.tup (l.map V.int))
theorem Jk.mono{H H':Hp}(e:Ex H H'){v:V}{l:List Int}(h:Jk H v l):Jk H' v l:=by
 obtain⟨a,e1,h1⟩:=h
 exact⟨a,e1,e _ _ h1⟩
theorem Jk.upd{H:Hp}{D:Addr}{acc:List V}{o:HO}(hD:H D=some (.lst acc)){v:V}{l:List Int}(h:Jk H v l):Jk (upd H D o) v l:=by
 obtain⟨a,e1,h1⟩:=h
 refine⟨a,e1,?_⟩
 rw[upd_ne (fun z=>by rw[z,hD]at h1;cases h1)]
 exact h1
abbrev Rw:Type:=Int×List Int
def M4(H:Hp)(v:V)(r:Rw):Prop:=∃t m:Addr,v=.ref t/\H t=some (.tup [.int r.1,.ref m])/\H m=some (.tup (r.2.map V.int))
theorem M4.mono{H H':Hp}(e:Ex H H'){v:V}{r:Rw}(h:M4 H v r):M4 H' v r:=by
 obtain⟨t,m,e1,h1,h2⟩:=h
 exact⟨t,m,e1,e _ _ h1,e _ _ h2⟩
theorem M4.upd{H:Hp}{D:Addr}{acc:List V}{o:HO}(hD:H D=some (.lst acc)){v:V}{r:Rw}(h:M4 H v r):M4 (upd H D o) v r:=by
 obtain⟨t,m,e1,h1,h2⟩:=h
 refine⟨t,m,e1,?_,?_⟩
 ·rw[upd_ne (fun z=>by rw[z,hD]at h1;cases h1)]
  exact h1
 ·rw[upd_ne (fun z=>by rw[z,hD]at h2;cases h2)]
  exact h2
def ame(r:Rw):Prop:=1<=r.1/\anA r.2
structure Tab(R:List Rw):Prop where
 len:R.length<=128
 ok:∀r∈R,ame r
 few:∃D:List Rw,D.length<=64/\∀r∈R,r∈D
theorem Tab.sub{R S:List Rw}(h:Tab R)(hs:∀r∈S,r∈R)(hl:S.length<=128):Tab S:=by
 obtain⟨D,d1,d2⟩:=h.few
 exact⟨hl,fun r hr=>h.ok r (hs r hr),D,d1,fun r hr=>d2 r (hs r hr)⟩
theorem fB.get{α:Type}{R:V->α->Prop}{ws:List V}{L:List α}(h:fB R ws L){i:Nat}{v:V}(g:ws[i]?=some v):∃x,L[i]?=some x/\R v x:=by
 have hi:=(aq1.mp g).1
 have hi':i < L.length:=by
  rw[←h.1]
  exact hi
 exact⟨L[i],aq2 hi',h.2 i v _ g (aq2 hi')⟩
theorem fB.mem{α:Type}{R:V->α->Prop}{ws:List V}{L:List α}(h:fB R ws L){v:V}(m:v∈ws):∃x,x∈L/\R v x:=by
 obtain⟨i,hi,e⟩:=List.getElem_of_mem m
 obtain⟨x,g,r⟩:=h.get (aq1.mpr ⟨hi,e⟩)
 exact⟨x,aq6 g,r⟩
theorem fB.take{α:Type}{R:V->α->Prop}{ws:List V}{L:List α}(h:fB R ws L)(n:Nat):fB R (ws.take n) (L.take n):=by
 refine⟨by rw[List.length_take,List.length_take,h.1],fun i v x a b=>?_⟩
 rw[List.getElem?_take]at a b
 by_cases c:i < n
 ·rw[if_pos c]at a b
  exact h.2 i v x a b
 ·rw[if_neg c]at a
  cases a
theorem fB.drop{α:Type}{R:V->α->Prop}{ws:List V}{L:List α}(h:fB R ws L)(n:Nat):fB R (ws.drop n) (L.drop n):=by
 refine⟨by rw[asu,asu,h.1],fun i v x a b=>?_⟩
 rw[List.getElem?_drop]at a b
 exact h.2 _ v x a b
section
variable{X:Cx}
def afP(xs:List V)(ds:List PyData)(x:V)(d:PyData):Prop:=∃i:Nat,xs[i]?=some x/\ds[i]?=some d
@[irreducible]def Jz (K:aqZ):List V->Hp->VK->Prop:=fun vs H Q=>∃(a:Addr) (xs:List V) (ds:List PyData),vs=[V.ref a]/\SqL K H a xs/\DpAll K H xs ds/\PySem.W.AllAlike ds/\PySem.W.Sortable ds/\(∀d∈ds,d.depth<=60)/\
 ∀(ys:List V) (p:Addr),fB (afP xs ds) ys (ds.mergeSort (PySem.W.dataLe false id))->H p=none->Q (.ref p) (upd H p (.lst ys))
theorem Yo:∀(xs:List V) (ds:List PyData) (its:List Value) (P:Value->PyData->Prop),Vals xs its->PySem.W.EachIs P its ds->
  PySem.W.EachIs (fun v d=>∃(i:Nat) (x:V),RelV x v/\xs[i]?=some x/\ds[i]?=some d) its ds
 |[],_,_,_,.nil,.nil=>.nil
 |_::_,[],_,_,.cons _ _,k=>nomatch k
 |x::xs,d::ds,u::us,P,.cons r t,.cons _ k=>.cons ⟨0,x,r,rfl,rfl⟩ ((Yo xs ds us P t k).mono fun v d ⟨i,y,a,b,c⟩=>⟨i+1,y,a,b,c⟩)
theorem Wd{xs:List V}{ds:List PyData}:∀(out:List Value) (L:List PyData),PySem.W.EachIs (fun v d=>∃(i:Nat) (x:V),RelV x v/\xs[i]?=some x/\ds[i]?=some d) out L->∃ys,Vals ys out/\fB (afP xs ds) ys L
 |[],[],.nil=>⟨[],.nil,fB.nil⟩
 |v::out,d::L,.cons ⟨i,x,r,a,b⟩ k=>by
  obtain⟨ys,h1,h2⟩:=Wd out L k
  refine⟨x::ys,.cons r h1,by rw[ari,ari,h2.1],fun j u y g1 g2=>?_⟩
  cases j with
  |zero=>
   cases g1
   cases g2
   exact⟨i,a,b⟩
  |succ j=>exact h2.2 j u y g1 g2
theorem acE(hu:X.A.units+65 < cLine):CallR X (.builtin "sorted") (Jz X.K):=by
 intro pins s σ H vs us Q I r h
 unfold Jz at h
 obtain⟨a,xs,ds,rfl,hs,hd,hal,hk,hz,q⟩:=h
 obtain⟨u,rfl,ru⟩:=vals1 r
 obtain rfl:u=Value.ref a:=ru
 obtain⟨its,rv,hl,hsz⟩:=I.list hs
 obtain⟨as,hr⟩:=Dp.readsAll I ds xs its hd rv
 have er:PySem.W.EachIs (fun v d=>∃as,Reads s.heap v (id d) as) its ds:=PySem.W.readsAll_each id (by rw[List.map_id];exact hr)
 have hn:=SeqAt.ReadsAll.length ds its as hr
 have hl2:=rv.length
 refine PySem.W.sorted_data (enc:=id) hl.isList (Yo xs ds its _ rv er) er (by rw[List.map_id];exact hal) (by rw[List.map_id];exact hk) (by omega) (fun d m=>?_) fun out hlen hout=>?_
 ·have:=hz d m
  show X.A.units+2+d.depth < cLine
  omega
 ·obtain⟨ys,v1,v2⟩:=Wd out _ hout
  obtain⟨ep,he'⟩:=PyProof.Rows.sortedAll_at s.heap its out.toArray
  have hy:ys.length=ds.length:=by
   rw[v2.1,List.length_mergeSort]
  refine⟨.ref _,upd H (s.heap.objs.size+1) (.lst ys),I.laid (t':=s.toks) (fun _ _=>PyProof.Rows.sortedAll_old) (Nat.le_succ _) ⟨by omega,out,ep,v1,by simpa using he'⟩,rfl,q ys _ v2 (I.hok.fresh (Nat.le_succ _))⟩
end
@[irreducible]def Rb (K:aqZ):R2:=fun x y H Q=>∃d e:PyData,Dp K H x d/\Dp K H y e/\PySem.W.alike d e=true/\d≠.none/\d.depth<=60/\Q (.bl (PySem.W.dataLt d e)) H
theorem aeU{X:Cx}(hu:X.A.units+65 < cLine):OpR X (compareOp .Lt) (Rb X.K):=by
 intro pins s σ H x y v u Q I rx ry h
 unfold Rb at h
 obtain⟨d,e,hd,he,ha,hn,hz,q⟩:=h
 obtain⟨as,r1⟩:=Dp.reads I d x v hd rx
 obtain⟨bs,r2⟩:=Dp.reads I e y u he ry
 exact PySem.W.lt_data r1 r2 ha hn (by omega) ⟨.bl _,H,I,rfl,q⟩
def EvR(te:TE)(σ:L2.St)(H:Hp)(P:List V->Hp->Prop):Prop:=∀H1,Ex H H1->∀Q:VK,(∀p H2 us,Ex H1 H2->H2 p=some (.lst us)->P us H2->Q (.ref p) H2)->te σ H1 Q
def EvM(te:TE)(σ:L2.St)(H:Hp)(P:List V->Hp->Prop):Prop:=∀H1,Ex H H1->∀Q:VK,(∀p H2 us,H1 p=none->Ex H1 H2->H2 p=some (.lst us)->P us H2->Q (.ref p) H2)->te σ H1 Q
structure ai9{α:Type}(Rel:Hp->V->α->Prop):Prop where
 mono:∀{H H':Hp} {v:V} {x:α},Ex H H'->Rel H v x->Rel H' v x
 upd:∀{H:Hp} {D:Addr} {acc:List V} {o:HO} {v:V} {x:α},H D=some (.lst acc)->Rel H v x->Rel (upd H D o) v x
theorem fB.mono{α:Type}{Rel:Hp->V->α->Prop}(S:ai9 Rel){H H':Hp}(e:Ex H H'){ws:List V}{L:List α}(h:fB (Rel H) ws L):fB (Rel H') ws L:=h.imp fun _ _ r=>S.mono e r
theorem fB.upd{α:Type}{Rel:Hp->V->α->Prop}(S:ai9 Rel){H:Hp}{D:Addr}{acc:List V}{o:HO}(hD:H D=some (.lst acc)){ws:List V}{L:List α}(h:fB (Rel H) ws L):fB (Rel (upd H D o)) ws L:=h.imp fun _ _ r=>S.upd hD r
section
variable{K:aqZ}{σ:L2.St}{H:Hp}{te tl:TE}{tt:TT}{vs:List Nat}{α:Type}
theorem EvM.r{P:List V->Hp->Prop}(h:EvM te σ H P):EvR te σ H P:=fun H1 e Q q=>h H1 e Q fun p H2 us _ a b c=>q p H2 us a b c
theorem EvM.imp{P R:List V->Hp->Prop}(h:EvM te σ H P)(k:∀us H',P us H'->R us H'):EvM te σ H R:=fun H1 e Q q=>h H1 e Q fun p H2 us n a b c=>q p H2 us n a b (k us H2 c)
end
theorem Yn:∀a b:List Int,PyData.eqvAll (a.map PyData.int) (b.map PyData.int)=decide (a=b)
 |[],[]=>by rw[asf,PyData.eqvAll];rfl
 |[],y::ys=>by rw[asf,aq3,PyData.eqvAll];rfl
 |x::xs,[]=>by rw[asf,aq3,PyData.eqvAll];rfl
 |x::xs,y::ys=>by
  rw[aq3,aq3,PyData.eqvAll,Yn xs ys,PyData.eqv,ar7]
  simp
def dT(l:List Int):PyData:=.tuple (l.map PyData.int)
theorem lay_ints:∀l:List Int,PyData.canLayAll0 (l.map PyData.int)=true/\PyData.depthAll (l.map PyData.int)=0
 |[]=>⟨by rw[asf,PyData.canLayAll0],by rw[asf,PyData.depthAll]⟩
 |x::xs=>by
  have ih:=lay_ints xs
  refine⟨?_,?_⟩
  ·rw[aq3,PyData.canLayAll0,PyData.canLay0,ih.1]
   rfl
  ·rw[aq3,PyData.depthAll,PyData.depth,ih.2]
   rfl
def rD(r:Rw):PyData:=.tuple [.int r.1,dT r.2]
theorem adJ(r:Rw):(rD r).canLay0=true/\(rD r).depth=2:=by
 have h:=lay_ints r.2
 unfold rD dT
 refine⟨?_,?_⟩
 ·rw[PyData.canLay0,PyData.canLayAll0,PyData.canLayAll0,PyData.canLayAll0,PyData.canLay0,PyData.canLay0,h.1]
  rfl
 ·rw[PyData.depth,PyData.depthAll,PyData.depthAll,PyData.depthAll,PyData.depth,PyData.depth,h.2]
  rfl
def rk(r:Rw):List Int:=r.1::r.2
theorem adA:PySem.W.rowLt [] []=false:=PyProof.Rows.lex_irrefl _
theorem ahw(l m:List Int):PySem.W.rowLt [dT l] [dT m]=decide (l < m):=by
 have al:PySem.W.alike (dT l) (dT m)=true:=by
  unfold dT
  rw[PySem.W.alike]
  exact PySem.W.alike_ints l m
 have ev:PyData.eqv (dT l) (dT m)=decide (l=m):=by
  unfold dT
  rw[PyData.eqv,Yn]
 have h:PySem.W.rowLt [dT l] [dT m]=if PyData.eqv (dT l) (dT m)=true then PySem.W.rowLt [] [] else PySem.W.dataLt (dT l) (dT m):=PySem.W.dataLt_cons al [] []
 rw[h,ev,adA]
 by_cases c:l=m
 ·rw[if_pos (decide_eq_true c),c]
  exact(decide_eq_false (List.lt_irrefl _)).symm
 ·rw[if_neg (by rw[decide_eq_true_eq];exact c)]
  show PySem.W.dataLt (.tuple (l.map PyData.int)) (.tuple (m.map PyData.int))=_
  rw[PySem.W.dataLt_tuple]
  exact PySem.W.dataLt_ints l m
theorem aaE(x y:Int)(ds es:List PyData)(l m:List Int)(h:PySem.W.rowLt ds es=decide (l < m)):PySem.W.rowLt (.int x::ds) (.int y::es)=decide (x::l < y::m):=by
 have al:PySem.W.alike (.int x) (.int y)=true:=by rw[PySem.W.alike]
 have h2:PySem.W.rowLt (.int x::ds) (.int y::es)=if PyData.eqv (.int x) (.int y)=true then PySem.W.rowLt ds es else PySem.W.dataLt (.int x) (.int y):=PySem.W.dataLt_cons al ds es
 rw[h2,h,PySem.W.dataLt_int,PyData.eqv]
 by_cases c:x=y
 ·subst c
  rw[if_pos (by simp),ar7,decide_eq_true_eq,decide_eq_true_eq,List.cons_lt_cons_iff]
  constructor
  ·exact fun k=>Or.inr ⟨rfl,k⟩
  ·rintro(k|k)
   ·omega
   ·exact k.2
 ·rw[if_neg (by simpa using c),ar7,decide_eq_true_eq,decide_eq_true_eq,List.cons_lt_cons_iff]
  constructor
  ·exact Or.inl
  ·rintro(k|k)
   ·exact k
   ·exact absurd k.1 c
theorem ajq(a b:Rw):PySem.W.dataLt (rD a) (rD b)=decide (rk a < rk b):=by
 unfold rD
 rw[PySem.W.dataLt_tuple]
 exact aaE _ _ _ _ _ _ (ahw a.2 b.2)
theorem V1(a b:Rw):PySem.W.alike (rD a) (rD b)=true:=by
 unfold rD dT
 rw[PySem.W.alike,PySem.W.alikeAll,PySem.W.alikeAll,PySem.W.alike,PySem.W.alike,PySem.W.alike_ints,PySem.W.alikeAll]
 rfl
theorem fB.map{α β:Type}{P:V->β->Prop}(f:α->β){ws:List V}{L:List α}(h:fB (fun v x=>P v (f x)) ws L):fB P ws (L.map f):=by
 refine⟨by rw[aq9,h.1],fun i v x a b=>?_⟩
 rw[ard]at b
 obtain⟨y,hy,e⟩:=arI.mp b
 rw[←e]
 exact h.2 i v y a hy
theorem adU{a b:Rw}(h:rk a=rk b):a=b:=by
 unfold rk at h
 injection h with h1 h2
 exact Prod.ext h1 h2
def Wj(S:List Rw):Prop:=S.Pairwise fun a b=>rk a < rk b
theorem Qw:∀{S T:List Rw},Wj S->Wj T->(∀r,r∈S↔r∈T)->S=T
 |[],[],_,_,_=>rfl
 |[],t::T,_,_,h=>absurd ((h t).mpr aq4) (by simp)
 |s::S,[],_,_,h=>absurd ((h s).mp aq4) (by simp)
 |s::S,t::T,hs,ht,h=>by
  obtain⟨hs1,hs2⟩:=List.pairwise_cons.mp hs
  obtain⟨ht1,ht2⟩:=List.pairwise_cons.mp ht
  have e:s=t:=by
   rcases arh.mp ((h s).mp aq4) with e|m
   ·exact e
   ·rcases arh.mp ((h t).mpr aq4) with e2|m2
    ·exact e2.symm
    ·exact absurd (ht1 s m) (List.lt_asymm (hs1 t m2))
  subst e
  have hn:∀{L:List Rw},(∀r∈L,rk s < rk r)->s∉L:=fun hL m=>List.lt_irrefl _ (hL s m)
  rw[Qw hs2 ht2 fun r=>?_]
  constructor
  ·intro m
   rcases arh.mp ((h r).mp (aq5 _ m)) with e|m2
   ·rw[e]at m
    exact absurd m (hn hs1)
   ·exact m2
  ·intro m
   rcases arh.mp ((h r).mpr (aq5 _ m)) with e|m2
   ·rw[e]at m
    exact absurd m (hn ht1)
   ·exact m2
theorem KD(a b:Rw):PySem.W.dataLe false rD a b=decide (rk a<=rk b):=by
 show(!PySem.W.dataLt (rD b) (rD a))=_
 rw[ajq,ar7,ark,decide_eq_false_iff_not,decide_eq_true_eq]
 exact List.not_lt
theorem aeN{α β:Type}{R:α->β->Prop}{as cs:List α}(p:as.Perm cs):∀{bs:List β},PySem.W.EachIs R as bs->∃ds,ds.Perm bs/\PySem.W.EachIs R cs ds:=by
 induction p with
 |nil=>
  intro bs h
  cases h
  exact⟨[],List.Perm.refl _,.nil⟩
 |cons x _ ih=>
  intro bs h
  cases h with
  |cons r t=>
   obtain⟨ds,h1,h2⟩:=ih t
   exact⟨_::ds,h1.cons _,.cons r h2⟩
 |swap x y l=>
  intro bs h
  cases h with
  |cons r t=>
   cases t with
   |cons r2 t2=>exact⟨_,List.Perm.swap _ _ _,.cons r2 (.cons r t2)⟩
 |trans _ _ ih1 ih2=>
  intro bs h
  obtain⟨ds,a1,a2⟩:=ih1 h
  obtain⟨es,b1,b2⟩:=ih2 a2
  exact⟨es,b1.trans a1,b2⟩
section
variable{P:Program}{w:World}{A:Around}{E:Value->Shared->Prop}{s:Shared}
theorem NQ{β:Type}{a:Addr}{es:Array (Int×Value)}{ep:Nat}{t:SetTable}{enc:β->PyData}{bs:List β}{R:Value->β->Prop}{Q:Value->Shared->Prop}(hh:A.handled=none)(ha:SetAt s.heap a es ep t)(hf:t.fits es.size=true)(hsz:es.size < scanBound)(hr:Ris t.place.toList)
  (hl:w.params.followText "set-order"=true∨t.led=true) (e:PySem.W.EachIs (fun v b=>R v b/\∃as,Reads s.heap v (enc b) as) (es.toList.map (·.2)) bs) (hal:PySem.W.AllAlike (bs.map enc)) (hk:PySem.W.Sortable (bs.map enc)) (hu:∀b∈bs,A.units+2+(enc b).depth < cLine)
  (hQ:∀(s':Shared) (p:Addr) (out:List Value) (c:Nat) (cs:List β),(∀b o,s.heap.get? b=some o->s'.heap.get? b=some o)->s'.gens=s.gens->s'.os=s.os->s.heap.objs.size<=p->s'.heap.get? p=some (seqObj "list" out.toArray c)->
   cs.Perm bs->PySem.W.EachIs R out (cs.mergeSort (PySem.W.dataLe false enc))->Q (.ref p) s') :
  wpAny (model P w) A (call (.builtin "sorted") [.ref a]) Q E s:=by
 refine Calls.call_function_entry kind_sorted plain_sorted entry_sorted (args_sorted1 _) ?_
 unfold Builtin.«sorted»
 refine wpAny_bind (m:=checkCount "sorted" 1 1 _) (wpAny_pure ?_)
 refine wpAny_bind (collect_set (A:=A.in1) hh ha hf hsz hr hl fun t1 vals kept grown g1 o1 pm=>?_)
 obtain⟨cs,pc,ec⟩:=aeN pm.symm e
 have lc:vals.length=cs.length:=ec.length
 have lb:cs.length=bs.length:=pc.length_eq
 have lz:vals.length<=sizeLine:=by
  rw[pm.length_eq,aq9,arH,sizeLine_eq]
  unfold scanBound at hsz
  omega
 refine wpAny_bind (wpAny_newList ?_ lz)
 have here:(t1.heap.push (seqObj "list" vals.toArray 0)).get? t1.heap.objs.size=some (seqObj "list" vals.toArray 0):=Heap.get?_push_size _ rfl
 have stays:∀b o,s.heap.get? b=some o->(t1.heap.push (seqObj "list" vals.toArray 0)).get? b=some o:=fun b o q=>Heap.get?_push_of_some _ (kept b o q)
 have al:PySem.W.AllAlike (cs.map enc):=fun d hd d' hd'=>hal d ((pc.map enc).mem_iff.mp hd) d' ((pc.map enc).mem_iff.mp hd')
 have sk:PySem.W.Sortable (cs.map enc):=by
  rcases hk with k|k
  ·exact .inl fun d hd=>k d ((pc.map enc).mem_iff.mp hd)
  ·exact .inr fun d hd=>k d ((pc.map enc).mem_iff.mp hd)
 refine wpAny_bind (wpAny_holding (PySem.W.list_sort_data (s:={ t1 with heap:=t1.heap.push (seqObj "list" vals.toArray 0) }) (enc:=enc) here (ec.mono fun v b h=>h.1) (ec.mono fun v b ⟨_,as,r⟩=>⟨as,PySem.W.reads_keeps stays r,fun m=>?rd⟩) al sk (by omega) (fun b hb=>?un) fun out lo eo=>?fin))
 case rd=>
  obtain⟨o,q⟩:=PyProof.On.reads_mem_get r _ m
  have hlt:t1.heap.objs.size < s.heap.objs.size:=Heap.lt_size q
  exact absurd grown (Nat.not_le_of_lt hlt)
 case fin=>
  obtain⟨c,hc⟩:=sortedHeap_at (vs:=vals) (out:=out.toArray) here
  refine wpAny_pure ⟨_,rfl,hQ _ t1.heap.objs.size out c cs (fun b o q=>?_) g1 o1 grown hc pc eo⟩
  have hlt:=Heap.lt_size (kept b o q)
  show(sortedHeap (t1.heap.push (seqObj "list" vals.toArray 0)) t1.heap.objs.size vals out.toArray).get? b=some o
  rw[sortedHeap_old (arF hlt) (by rw[size_push'];exact ar3 hlt)]
  exact stays b o q
 case un=>
  have:=hu b (pc.mem_iff.mp hb)
  show A.in1.units+1+_ < _
  have e1:A.in1.units=A.units+1:=rfl
  omega
end
@[irreducible]def M5 (w:World):List V->Hp->VK->Prop:=fun vs H Q=>∃(a:Addr) (S:Int->Bool) (n:Nat),vs=[V.ref a]/\H a=some (SetO w a S n)/\
 ∀(ns:List Int) (p:Addr),ns.Pairwise (· < ·)->(∀k:Int,k∈ns↔S k=true)->ns.length=n->H p=none->Q (.ref p) (upd H p (.lst (ns.map V.int)))
theorem V6:∀(out:List Value) (ns:List Int),PySem.W.EachIs (fun v (k:Int)=>∃tk,v=Value.int k tk) out ns->Vals (ns.map V.int) out
 |[],[],.nil=>.nil
 |_::out,k::ns,.cons ⟨tk,e⟩ t=>by
  subst e
  exact .cons ⟨tk,rfl⟩ (V6 out ns t)
theorem ahr{ns:List Int}(h:ns.Pairwise fun a b=>(PySem.W.dataLe false (fun k:Int=>PyData.int k)) a b=true)(nd:ns.Nodup):ns.Pairwise (· < ·):=by
 refine List.Pairwise.imp₂ (fun a b h1 h2=>?_) h nd
 rw[PySem.W.dataLe_int,decide_eq_true_eq]at h1
 omega
section
variable{X:Cx}
theorem aeI(hu:X.A.units+65 < cLine)(hc:X.calm=true):CallR X (.builtin "sorted") (M5 X.w):=by
 intro pins s σ H vs us Q I r h
 unfold M5 at h
 obtain⟨a,S,n,rfl,ha,q⟩:=h
 obtain⟨o,es,ep,t,ho,hex,hd,g,nd,hm,hb,hf,hn,hr,hl⟩:=setO_get I ha
 rw[Vals.ref1 r]
 have ev:∀l:List (Int×Value),(∀e∈l,GoodE e)->PySem.W.EachIs (fun v (k:Int)=>(∃tk,v=Value.int k tk)/\∃as,Reads s.heap v (PyData.int k) as) (l.map (·.2)) (l.map keyOf):=by
  intro l
  induction l with
  |nil=>exact fun _=>.nil
  |cons e l ih=>
   intro hg
   obtain⟨k,tk,h1,h2⟩:=hg e aq4
   have ek:keyOf e=k:=by
    unfold keyOf
    rw[h1]
   refine .cons ?_ (ih fun x hx=>hg x (aq5 _ hx))
   rw[ek]
   exact⟨⟨tk,h1⟩,[],by show Reads s.heap e.2 (PyData.int k) [];rw[h1];exact .int k tk⟩
 refine NQ (enc:=fun k:Int=>PyData.int k) (I.ok.hd hc) ⟨o,ho,hex.1,hd⟩ hf hb hr hl (ev es.toList g) (asv fun x y=>by rw[PySem.W.alike]) (PySem.W.Sortable.others fun x=>⟨(fun z=>by cases z),(fun xs z=>by cases z)⟩) (fun k _=>by rw[PyData.depth];omega) fun s' p out c cs k g' o' hp hg pc eo=>?_
 have mp:=ash cs (PySem.W.dataLe false (fun k:Int=>PyData.int k))
 have ndm:(cs.mergeSort (PySem.W.dataLe false (fun k:Int=>PyData.int k))).Nodup:=(mp.trans pc).nodup_iff.mpr nd
 have srt:=ar6 (le:=PySem.W.dataLe false (fun k:Int=>PyData.int k)) (fun a b c h1 h2=>by rw[PySem.W.dataLe_int,decide_eq_true_eq]at *;omega) (fun a b=>by rw[PySem.W.dataLe_int,ar8,decide_eq_true_eq,decide_eq_true_eq];omega) cs
 generalize cs.mergeSort (PySem.W.dataLe false (fun k:Int=>PyData.int k))=ns at mp ndm srt eo
 have hv:Vals (ns.map V.int) out:=V6 out ns eo
 have lns:ns.length=n:=by
  rw[mp.length_eq,pc.length_eq,aq9,arH,hn]
 have hlen:(ns.map V.int).length<=sizeLine:=by
  rw[aq9,lns,←hn,sizeLine_eq]
  unfold scanBound at hb
  omega
 have hfr:H p=none:=I.hok.fresh hp
 have J:Inv X pins σ (upd H p (.lst (ns.map V.int))) { s with heap:=s'.heap,gens:=s'.gens,drawn:=s'.drawn,toks:=s'.toks }:=
  I.call (ch:=[]) (Un.laid k hp hfr) (I.hok.laid k hp ⟨hlen,out,c,hv,hg⟩) (by rw[g'];exact I.bare) (fun _ z=>nomatch z)
 have es':s'={ s with heap:=s'.heap,gens:=s'.gens,drawn:=s'.drawn,toks:=s'.toks }:=by
  cases s'
  cases s
  cases o'
  rfl
 rw[es']
 exact⟨.ref p,_,J,rfl,q ns p (ahr srt ndm) (fun k=>by rw[(mp.trans pc).mem_iff,hm]) lns hfr⟩
end
section
variable{X:Cx}
def ajC(w:World)(D:Addr)(vs:List Nat)(g:TG)(tt:TT)(te:TE)(σ:L2.St)(Nx:Hp->Prop)(x:V)(H:Hp):Prop:=
 g x (wipe σ vs) H fun σ2 H2=>wipe σ2 vs=wipe σ vs/\tt σ2 H2 fun b H3=>if b=true then te σ2 H3 fun y H4=>∃(k:Int) (S:Int->Bool) (n:Nat),y=.int k/\H4 D=some (SetO w D S n)/\n+1 < scanBound/\Nx (upd H4 D (SetO w D (fun j=>S j || decide (j=k)) (if S k=true then n else n+1))) else Nx H3
def akn(w:World)(wi:TI)(g:TG)(tt:TT)(te:TE)(vs:List Nat):TE:=fun σ H Q=>wi σ H fun J H1=>∀D,H1 D=none->∃W:Nat->Nat->Hp->Prop,(∃m,W 0 m (upd H1 D (SetO w D (fun _=>false) 0)))/\
 ∀i m H,W i m H->(J.stop i H/\Q (.ref D) H)∨(J.go i H/\∃Nx:Hp->Prop,(∀H',Nx H'->∃m',m' < m/\W (i+1) m' H')/\∀x H',J.yld i H x H'->ajC w D vs g tt te σ Nx x H')
theorem add_int{pins:List (Addr×Obj)}{σ:L2.St}{H:Hp}{s:Shared}{E:Value->Shared->Prop}{D:Addr}{S:Int->Bool}{n:Nat}{k:Int}{v:Value}{Q:Value->Shared->Prop}(I:Inv X pins σ H s)(hD:H D=some (SetO X.w D S n))(room:n+1 < scanBound)(rv:RelV (.int k) v)
  (q:∀t,Inv X pins σ (upd H D (SetO X.w D (fun j=>S j || decide (j=k)) (if S k=true then n else n+1))) t->Q .none t):wpAny (model X.prog X.w) X.A (call (.builtin "set.add") [.ref D,v]) Q E s:=by
 obtain⟨tk,rfl⟩:=rv
 refine setR_add (setO_get I hD) room fun h' sb new=>q _ (I.write (e:=D) (t':=s.toks+1) (by rw[hD];trivial) (.inl rfl) (fun b u hb hu=>(sb.2 b hb).trans hu) ?_ (setO_new new))
 have ⟨o,_,_,_,ho,_⟩:=new
 exact⟨o,ho⟩
theorem aj1{elt tg iter:Expr}{ifs:List Expr}{scope:Scope}{own:List (PySem.Str×Nat)}{pos:Pos}{wi:TI}{g:TG}{tt:TT}{te:TE}(hc:X.calm=true)(hN:X.N.Nodup)(hi:PI X tg iter wi)(ok:BlkOk X.N X.env.scope scope own)
  (hg:∀(t:Shared) (G:Hp) (C:Addr) (cl:List (PySem.Str×Addr)) (fp:List Addr),PG (X.blk t G scope (compEnvC scope cl C X.env) fp) tg g) (ht:∀(t:Shared) (G:Hp) (C:Addr) (cl:List (PySem.Str×Addr)) (fp:List Addr),PTs (X.blk t G scope (compEnvC scope cl C X.env) fp) ifs tt)
  (he:∀(t:Shared) (G:Hp) (C:Addr) (cl:List (PySem.Str×Addr)) (fp:List Addr),PE (X.blk t G scope (compEnvC scope cl C X.env) fp) elt te) (hs:∀x,foldedSetIterable iter X.env x=pure x:=by intro _;rfl) :
  PE X (.SetComp elt [⟨tg,iter,ifs,0⟩] scope pos) (akn X.w wi g tt te (own.map (·.2))):=by
 refine⟨fun pins s σ H Q I h=>?_⟩
 rw[PpSet.eval_SetComp]
 have cells:∀y∈scope.names,y.2=.free->∃c,X.env.cells.lookup y.1=some c:=fun y hy e=>(ok.free y hy e).elim (fun k=>I.ok.has _ (.inl k)) (fun k=>I.ok.has _ (.inr k))
 refine wpAny_comprehension_free rfl hs (closure_ok cells) ok.kind (fun y hy e=>by rw[ok.uniq y hy,e]) (thn (hi.run pins s σ H _ I h) fun _ _ hx=>thn hx fun itv t0 h0=>?_)
 obtain⟨it,fp,tn,J,G0,rfl,I0,T,st0,f0,q⟩:=h0
 refine PpSet.newSet_ok (newEnv_comp ?_)
 -- the new set,at D
 obtain⟨D,hD⟩:∃D,D=t0.heap.objs.size:=⟨_,rfl⟩
 rw[←hD]
 obtain⟨W,⟨m0,w0⟩,turn⟩:=q D (I0.hok.fresh (Nat.le_of_eq hD.symm))
 obtain⟨ob,hob⟩:∃ob:Obj,ob={ cls:=.type "set",dict:=none,data:=.set #[] 0 (.fresh 0 0 (!X.w.params.followText "set-order")) }:=⟨_,rfl⟩
 rw[←hob]
 obtain⟨t1,ht1⟩:∃t1:Shared,t1={ t0 with heap:=t0.heap.push ob }:=⟨_,rfl⟩
 obtain⟨G1,hG1⟩:∃G1,G1=upd G0 D (SetO X.w D (fun _=>false) 0):=⟨_,rfl⟩
 rw[←hG1]at w0
 have grow:∀b o,t0.heap.get? b=some o->t1.heap.get? b=some o:=fun b o e=>by rw[ht1];exact Heap.get?_push_of_some _ e
 have I1:Inv X pins σ G1 t1:=by
  rw[ht1,hG1]
  refine I0.laid (t':=t0.toks) (fun b o e=>Heap.get?_push_of_some _ e) (Nat.le_of_eq hD.symm) ?_
  rw[hD,hob]
  exact setO_new (setR_fresh X.w)
 have small:∀b∈fp,b < t0.heap.objs.size:=fun b hb=>by
  obtain⟨o,e,_⟩:=T.obj _ _ st0 b hb
  exact Heap.lt_size e
 have f1:∀b∈fp,FpOk X pins G1 b/\b < t1.heap.objs.size:=fun b hb=>by
  have hlt:=small b hb
  refine⟨⟨?_,(f0 b hb).2⟩,by rw[ht1];show b < (t0.heap.push ob).objs.size;rw[Heap.size_push];exact ar3 hlt⟩
  rw[hG1,upd_ne (by rw[hD];exact arF hlt)]
  exact(f0 b hb).1
 have st1:tn 0 t1.heap:=T.keep _ _ _ st0 fun b _ o e=>grow b o e
 have I2:=block_start I1 ok hN f1
 have pg:=hg t1 G1 t1.heap.objs.size (cellsFrom (t1.heap.objs.size+1) scope.names (cloFrom X.env.cells scope.names [])) fp
 have pt:=ht t1 G1 t1.heap.objs.size (cellsFrom (t1.heap.objs.size+1) scope.names (cloFrom X.env.cells scope.names [])) fp
 have pe:=he t1 G1 t1.heap.objs.size (cellsFrom (t1.heap.objs.size+1) scope.names (cloFrom X.env.cells scope.names [])) fp
 have none1:∀b∈fp,G1 b=none:=fun b hb=>(f1 b hb).1.1
 rw[show({ t0 with heap:=t0.heap.push ob }:Shared)=t1 from ht1.symm]
 obtain⟨ce,hce⟩:∃ce,ce=compEnvC scope (cellsFrom (t1.heap.objs.size+1) scope.names (cloFrom X.env.cells scope.names [])) t1.heap.objs.size X.env:=⟨_,rfl⟩
 rw[←hce]at I2 pg pt pe
 have cL:ce.locals=t1.heap.objs.size:=by rw[hce];rfl
 obtain⟨t2,ht2⟩:∃t2:Shared,t2={ t1 with heap:=pushCells (t1.heap.push { cls:=.type "dict",data:=.dict #[] }) scope.names }:=⟨_,rfl⟩
 rw[←ht2]at I2
 have st2:tn 0 t2.heap:=T.keep _ _ _ st1 fun b _ o e=>by rw[ht2];exact pushCells_keeps _ _ _ _ (Heap.get?_push_of_some _ e)
 have still:∀{σ':L2.St} {G':Hp} {t':Shared},Inv (X.blk t1 G1 scope ce fp) [] σ' G' t'->(∀b∈fp,G' b=none)->∀b∈fp,FpOk (X.blk t1 G1 scope ce fp) [] G' b:=fun I' hn b hb=>
  ⟨hn b hb,(I'.ok.exf b hb).1,I'.ok.exfs b hb,.inl hb,fun x c e=>(I'.ok.exf b hb).2 x c e,fun p hp=>absurd (show p∈([]:List (Addr×Obj))++[] from hp) (by simp)⟩
 have loop:codeAny (model X.prog X.w) X.A (.compLoop (.SetComp elt [⟨tg,iter,ifs,0⟩] scope pos) 0 (.ref it) (.ref D) ce) (compPost (model X.prog X.w) X.A X.xe none (EP X pins σ Q) (.ref D) t1.heap.objs.size) t2:=by
  refine PpSet.compLoopS_any (fun n t'=>∃i G',Inv (X.blk t1 G1 scope ce fp) [] (wipe σ (own.map (·.2))) G' t'/\tn i t'.heap/\(∀b∈fp,G' b=none)/\W i n G') ?_ m0 ⟨0,G1,I2,st2,none1,w0⟩
  rintro n t3 ⟨i,G3,I3,st3,n3,w3⟩
  rcases turn i n G3 w3 with⟨stop,fin⟩|⟨go,Nx,hNx,step⟩
  ·refine thnF (T.done (X.blk t1 G1 scope ce fp) rfl rfl rfl hc i [] t3 _ G3 (fun _ _=>False) I3 (still I3 n3) st3 stop) fun r t4 ⟨hr,I4⟩=>?_
   subst hr
   have I5:Inv X pins σ G3 t4:=I1.call' (ch:=fp) I4.os I4.base I4.hok I4.bare fun b hb=>⟨(f1 b hb).1.2.2.2.1,(f1 b hb).1.2.1,(f1 b hb).1.2.2.2.2.1,(f1 b hb).1.2.2.2.2.2⟩
   have nC:G3 t1.heap.objs.size=none:=by rw[←cL];exact I4.free
   obtain⟨m,hn,_⟩:=I4.loc
   have hn':t4.heap.Ns t1.heap.objs.size m:=by rw[←cL];exact hn
   obtain⟨a0,a1,_,a3,a4,a5⟩:=I1.fpOk (aru _) nC
   exact⟨m,hn',fun h'' sb=>⟨.ref D,G3,I5.turned (t':=t4.toks) (fun b o hb e=>(sb.2 b hb).trans e) a0 a1 a3 a4 a5,rfl,fin⟩⟩
  ·refine thnF (T.item (X.blk t1 G1 scope ce fp) rfl rfl rfl hc i [] t3 _ G3 (fun _ _=>False) I3 (still I3 n3) st3 go) fun r t4 ⟨u,hr,h4⟩=>?_
   subst hr
   refine thnF h4 fun _ t5 ⟨x,G5,I5,r5,y5,st5,n5⟩=>?_
   refine thnF (pg.run _ t5 _ G5 x u _ (I5.pinned (still I5 n5) (T.obj _ _ st5)) r5 (step x G5 y5)) fun _ t6 ⟨σ6,G6,I6,hw6,q6⟩=>?_
   refine thnF (pt.run _ t6 σ6 G6 _ I6 q6) fun b t7 ⟨G7,I7,q7⟩=>?_
   have over:∀{t':Shared} {G':Hp},Inv (X.blk t1 G1 scope ce fp) ([]++pinsAt fp t5.heap) σ6 G' t'->Nx G'->∃m,m < n/\∃i G',Inv (X.blk t1 G1 scope ce fp) [] (wipe σ (own.map (·.2))) G' t'/\tn i t'.heap/\(∀b∈fp,G' b=none)/\W i m G':=fun {t' G'} I' nx=>by
    obtain⟨m',hm,w'⟩:=hNx G' nx
    have pin:∀b∈fp,∀o,t5.heap.get? b=some o->t'.heap.get? b=some o/\G' b=none:=fun b hb o e=>
     let z:=I'.pin (b,o) (arL _ (arL _ (mem_pinsAt hb e)))
     ⟨z.1,z.2.1⟩
    refine⟨m',hm,i+1,G',(I'.unpinned (pins:=[])).weak (by rw[←hw6,wipe_length]) (fun j v e=>?_),T.keep _ _ _ st5 fun b hb o e=>(pin b hb o e).1,fun b hb=>?_,w'⟩
    ·rw[←hw6]at e
     exact(wipe_some e).1
    ·obtain⟨o,e,_⟩:=T.obj _ _ st5 b hb
     exact(pin b hb o e).2
   cases b with
   |false=>
    simp only[arz,if_false]at q7 ⊢
    exact over I7 q7
   |true=>
    simp only[if_true]at q7 ⊢
    refine thnF (pe.run _ t7 σ6 G7 _ I7 q7) fun z t8 ⟨yv,G8,I8,r8,k,S,c,ey,hD8,hz8,nx⟩=>?_
    subst ey
    exact add_int (X:=X.blk t1 G1 scope ce fp) I8 hD8 hz8 r8 fun t9 I9=>over I9 nx
 have done:=PpSet.codeAny_compStart_set loop (T.self X.A 0 _ _ _ st2 loop)
 rw[hce,ht2]at done
 exact done
end
section
variable{P:Program}{w:World}{A:Around}{E:Value->Shared->Prop}{s:Shared}
def nk(r:Rw):NestedKey:=.tup [.num r.1,.tup (r.2.map .num)]
theorem YD:∀a b:List Int,a.map NestedKey.num=b.map NestedKey.num->a=b
 |[],[],_=>rfl
 |[],_::_,h=>by cases h
 |_::_,[],h=>by cases h
 |x::a,y::b,h=>by
  rw[aq3,aq3]at h
  injection h with h1 h2
  injection h1 with h1
  rw[h1,YD a b h2]
theorem ac0{a b:Rw}(h:nk a=nk b):a=b:=by
 unfold nk at h
 injection h with h
 injection h with h1 h
 injection h with h2 _
 injection h1 with h1
 injection h2 with h2
 exact Prod.ext h1 (YD _ _ h2)
theorem Qq:∀l:List Int,NestedKey.depthAll (l.map .num)=0
 |[]=>by rw[asf,NestedKey.depthAll]
 |x::l=>by
  rw[aq3,NestedKey.depthAll,NestedKey.depth,Qq l]
  rfl
theorem af4(r:Rw):(nk r).depth=2:=by
 unfold nk
 rw[NestedKey.depth,NestedKey.depthAll,NestedKey.depthAll,NestedKey.depthAll,NestedKey.depth,NestedKey.depth,Qq]
 rfl
def oF(P:Program)(w:World):HeapKind P w Rw where
 is:=fun h r a=>(nestedKind P w).is h (nk r) a
 hash:=fun r=>(nestedKind P w).hash (nk r)
 draws:=fun r=>(nestedKind P w).draws (nk r)
 room:=(nestedKind P w).room
 inj:=fun hx hy=>ac0 ((nestedKind P w).inj hx hy)
 keeps:=fun x ho hd hs=>(nestedKind P w).keeps x ho hd hs
 pyHash:=fun hu hk h=>(nestedKind P w).pyHash hu hk h
 eqBool:=fun {A E s x y a b Q} hu hx hy h=>(nestedKind P w).eqBool hu hx hy (by
  have e:decide (nk x=nk y)=decide (x=y):=by
   rw[decide_eq_decide]
   exact⟨ac0,fun h=>by rw[h]⟩
  rw[e]
  exact h)
 quiet:=fun hk h=>(nestedKind P w).quiet hk h
abbrev RI(h:Heap)(r:Rw)(a:Addr):Prop:=NestedIs h (nk r) (.ref a)/\(nk r).depth<=8
theorem T5{h h':Heap}{r:Rw}{a:Addr}(x:RI h r a)(k:∀c o,h.get? c=some o->h'.get? c=some o):RI h' r a:=⟨NestedIs.at (fun b o _ _ e _=>k b o e) _ _ x.1,x.2⟩
theorem ZX{h h':Heap}{r:Rw}{a d:Addr}{o:Obj}{es:Array (Int×Value)}{ep:Nat}{t:SetTable}(x:RI h r a)(ho:h.get? d=some o)(hd:o.data=.set es ep t)(sb:Heap.SameBut d h h'):RI h' r a:=by
 refine⟨NestedIs.at (fun b ob vs n hb hc=>(sb.2 b fun e=>?_).trans hb) _ _ x.1,x.2⟩
 subst e
 obtain rfl:ob=o:=arn (hb.symm.trans ho)
 rw[hd]at hc
 cases hc
theorem Jq{h:Heap}{i:Int}{v:Value}(x:NestedIs h (.num i) v)(n:Nat):ofAClassStatement n v=pure false/\hashByValue n v=pure true:=by
 cases x with
 |bool _=>cases n <;> exact⟨rfl,rfl⟩
 |int _ t=>cases n <;> exact⟨rfl,rfl⟩
theorem YG{h:Heap}:∀(l:List Int) (vs:List Value),NestedAll h (l.map .num) vs->∀v∈vs,∃i,NestedIs h (.num i) v
 |[],_,x,v,hv=>by
  cases x
  cases hv
 |i::l,_,x,v,hv=>by
  rw[aq3]at x
  cases x with
  |cons x1 x2=>
   rcases arh.mp hv with e|hv
   ·exact⟨i,by rw[e];exact x1⟩
   ·exact YG l _ x2 v hv
theorem aby{n:Nat}{a:Addr}{o:Obj}{vs:Array Value}{m:Nat}(ho:s.heap.get? a=some o)(hc:o.cls=.type "tuple")(hd:o.data=.seq vs m)(hq:∀v∈vs.toList,∀(E:Value->Shared->Prop) (Q:Bool->Shared->Prop),Q false s->wpAny (model P w) A (ofAClassStatement n v) Q E s){Q:Bool->Shared->Prop}(q:Q false s) :
  wpAny (model P w) A (ofAClassStatement (n+1) (.ref a)) Q E s:=by
 have hT:s.TypeIs (.ref a) "tuple":=⟨o,ho,hc⟩
 unfold ofAClassStatement
 refine wpAny_bind (wpAny_typeOf hT ?_)
 dsimp only
 have eq1:(("tuple" : String)=="tuple")=true:=by decide
 simp only[eq1,if_true,Bool.not_true,arz,if_false]
 try refine wpAny_bind (wpAny_pure ?_)
 try simp only[Bool.not_true,arz,if_false]
 refine wpAny_bind (wpAny_seqItems ho hd ?_)
 dsimp only
 refine wpAny_bind ?_
 rw[←Array.forIn_toList]
 refine wpAny_forIn_list _ (fun left r u=>r.1=none/\u=s/\∀v∈left,v∈vs.toList) _ ?_ ?_ _ _ ⟨rfl,rfl,fun v hv=>hv⟩
 ·rintro v left r u ⟨hr,rfl,hall⟩
  refine wpAny_bind (hq v (hall v aq4) _ _ ?_)
  simp only[arz,if_false]
  exact wpAny_pure ⟨rfl,rfl,fun y hy=>hall y (aq5 _ hy)⟩
 ·rintro⟨r1,r2⟩ u ⟨hr,rfl,_⟩
  simp only at hr
  subst hr
  exact wpAny_pure q
theorem Zw{n:Nat}{a:Addr}{o:Obj}{vs:Array Value}{m:Nat}(ho:s.heap.get? a=some o)(hc:o.cls=.type "tuple")(hd:o.data=.seq vs m)(hq:∀v∈vs.toList,∀(E:Value->Shared->Prop) (Q:Bool->Shared->Prop),Q true s->wpAny (model P w) A (hashByValue n v) Q E s){Q:Bool->Shared->Prop}(q:Q true s) :
  wpAny (model P w) A (hashByValue (n+1) (.ref a)) Q E s:=by
 have hT:s.TypeIs (.ref a) "tuple":=⟨o,ho,hc⟩
 unfold hashByValue
 refine wpAny_bind (wpAny_specialOf hT PySem.F.slot_tuple_hash.lookup ?_)
 show wpAny _ _ (seqItems? (.ref a) >>= _) _ _ s
 refine wpAny_bind (wpAny_seqItems ho hd ?_)
 refine wpAny_bind ?_
 show wpAny _ _ (forIn vs _ _) _ _ s
 rw[←Array.forIn_toList]
 refine wpAny_forIn_list _ (fun left r u=>r.1=none/\u=s/\∀v∈left,v∈vs.toList) _ ?_ ?_ _ _ ⟨rfl,rfl,fun v hv=>hv⟩
 ·rintro v left r u ⟨hr,rfl,hall⟩
  refine wpAny_bind (hq v (hall v aq4) _ _ ?_)
  simp only[Bool.not_true,arz,if_false]
  exact wpAny_pure ⟨rfl,rfl,fun y hy=>hall y (aq5 _ hy)⟩
 ·rintro⟨r1,r2⟩ u ⟨hr,rfl,_⟩
  simp only at hr
  subst hr
  exact wpAny_pure q
theorem Jv{r:Rw}{a:Addr}(x:RI s.heap r a):(∀{Q:Bool->Shared->Prop},Q false s->wpAny (model P w) A (ofAClassStatement 8 (.ref a)) Q E s)/\∀{Q:Bool->Shared->Prop},Q true s->wpAny (model P w) A (hashByValue 8 (.ref a)) Q E s:=by
 obtain⟨x,_⟩:=x
 unfold nk at x
 cases x with
 | @tup _ o vs m _ ho hc hd x=>
  have items:∀v∈vs.toList,(∃i,NestedIs s.heap (.num i) v)∨∃b,v=.ref b/\∃o us k,s.heap.get? b=some o/\o.cls=.type "tuple"/\o.data=.seq us k/\∀u∈us.toList,∃i,NestedIs s.heap (.num i) u:=by
   generalize vs.toList=l at x
   cases x with
   |cons x1 x=>
    cases x with
    |cons x2 x=>
     cases x
     intro v hv
     rcases arh.mp hv with e|hv
     ·exact Or.inl ⟨_,by rw[e];exact x1⟩
     ·have e:=aq7.mp hv
      cases x2 with
      |tup k1 k2 k3 k4=>exact Or.inr ⟨_,e,_,_,_,k1,k2,k3,YG _ _ k4⟩
  refine⟨fun q=>aby ho hc hd (fun v hv E' Q' q'=>?_) q,fun q=>Zw ho hc hd (fun v hv E' Q' q'=>?_) q⟩
  ·rcases items v hv with⟨i,y⟩|⟨b,rfl,o',us,k,k1,k2,k3,k4⟩
   ·rw[(Jq y 7).1]
    exact wpAny_pure q'
   ·refine aby k1 k2 k3 (fun u hu E2 Q2 q2=>?_) q'
    obtain⟨i,y⟩:=k4 u hu
    rw[(Jq y 6).1]
    exact wpAny_pure q2
  ·rcases items v hv with⟨i,y⟩|⟨b,rfl,o',us,k,k1,k2,k3,k4⟩
   ·rw[(Jq y 7).2]
    exact wpAny_pure q'
   ·refine Zw k1 k2 k3 (fun u hu E2 Q2 q2=>?_) q'
    obtain⟨i,y⟩:=k4 u hu
    rw[(Jq y 6).2]
    exact wpAny_pure q2
end
abbrev Ent:Type:=Addr×Rw
section
variable{P:Program}{w:World}{A:Around}{E:Value->Shared->Prop}{s:Shared}
def ents(hf:Rw->Int)(L:List Ent):List (Int×Value):=L.map fun p=>(hf p.2,Value.ref p.1)
structure qL(hf:Rw->Int)(w:World)(h:Heap)(a:Addr)(L:List Ent)(es:Array (Int×Value))(ep:Nat)(t:SetTable):Prop where
 ob:∃o,h.get? a=some o/\o.ExactSet/\o.data=.set es ep t
 en:es.toList=ents hf L
 tab:TabOk t (L.map fun p=>hf p.2)
 nd:(L.map Prod.snd).Nodup
 ky:∀p∈L,RI h p.2 p.1
 pl:t.plain=true
 ld:w.params.followText "set-order"=true∨t.led=true
 free:L.length * 5 < t.mask * 3
 few:L.length<=76
variable{hf:Rw->Int}{a:Addr}{L:List Ent}{es:Array (Int×Value)}{ep:Nat}{t:SetTable}
theorem yR(h:es.toList=ents hf L):es.size=L.length:=by
 rw[←arH,h]
 exact aq9 _
theorem M8(h:es.toList=ents hf L){i:Nat}{p:Ent}(g:L[i]?=some p):es[i]?=some (hf p.2,Value.ref p.1):=by
 rw[←arS,h]
 unfold ents
 rw[ard,g]
 rfl
theorem fits_of(h1:t.place.size=es.size)(h2:t.dummies=#[])(h3:es.size<=t.mask):t.fits es.size=true:=by
 unfold SetTable.fits SetTable.fill
 rw[h2,aq0,beq_iff_eq,decide_eq_true_eq]
 exact⟨h1,by show t.place.size+0<=t.mask;omega⟩
theorem qL.fits(R:qL hf w s.heap a L es ep t):t.fits es.size=true:=by
 have l1:=yR R.en
 have l2:=R.tab.sz
 rw[aq9]at l2
 have l3:=R.free
 exact fits_of (by omega) R.tab.dm (by omega)
theorem qL.sound(R:qL hf w s.heap a L es ep t):¬t.gaveWay=true:=by
 unfold SetTable.gaveWay
 rw[mask_odd R.tab.mok]
 decide
theorem akh{r:Rw}{b:Addr}{Q:Bool->Shared->Prop}(hx:RI s.heap r b){ys:List Value}(hy:∀y∈ys,∃q c,y=Value.ref c/\RI s.heap q c)(q:Q false s):wpAny (model P w) A (searchCouldBeSeen (.ref b) ys) Q E s:=by
 unfold searchCouldBeSeen
 refine wpAny_bind ?_
 refine wpAny_forIn_list _ (fun left r u=>r.1=none/\u=s/\∀y∈left,∃q c,y=Value.ref c/\RI s.heap q c) _ ?_ ?_ _ _ ⟨rfl,rfl,hy⟩
 ·rintro v left r u ⟨hr,rfl,hall⟩
  obtain⟨q',c,rfl,hc⟩:=hall v aq4
  have more:∀y∈left,∃q c,y=Value.ref c/\RI u.heap q c:=fun y m=>hall y (aq5 _ m)
  dsimp only
  by_cases hv:(b==c || (carriedByValue (.ref b)&&carriedByValue (.ref c)))=true
  ·exact wp_if_pos hv (wpAny_pure ⟨rfl,rfl,more⟩)
  ·refine wp_if_neg hv ?_
   refine wpAny_bind ((oF P w).quiet hx ?_)
   simp only[Bool.not_true,arz,if_false]
   refine wpAny_bind ((oF P w).quiet hc ?_)
   simp only[Bool.not_true,arz,if_false]
   refine wpAny_bind ((Jv hx).1 ?_)
   simp only[arz,if_false]
   refine wpAny_bind ((Jv hc).1 ?_)
   simp only[arz,if_false]
   exact wpAny_pure ⟨rfl,rfl,more⟩
 ·rintro⟨r1,r2⟩ u ⟨hr,rfl,_⟩
  simp only at hr
  subst hr
  exact wpAny_pure q
abbrev uM(m:Nat)(h:Int)(c:Nat):SetTable.Probe:=nth m (runAt m (SetTable.bits h % (m+1)) (SetTable.bits h)) c
theorem aaA(m:Nat)(h:Int)(c:Nat):(uM m h c).dummy=none:=by
 have all:∀(n:Nat) (p:SetTable.Probe),p.dummy=none->(nth m p n).dummy=none:=by
  intro n
  induction n with
  |zero=>exact fun p k=>k
  |succ n ih=>
   intro p k
   refine ih (adv m p) ?_
   unfold adv
   split <;> exact k
 exact all c _ rfl
theorem Vx(m:Nat)(h:Int)(c d:Nat):nth m (uM m h c) d=uM m h (c+d):=(nth_add m c _ d).symm
theorem seek(R:qL hf w s.heap a L es ep t){x:Addr}{r:Rw}(hx:RI s.heap r x){h:Int}(hh:hf r=h)(hu:(oF P w).room A){N:Nat}(hN:N < 10 * SetTable.turns t.mask)(out:way t.mask (h) N∉t.place.toList)(inn:∀c,c < N->way t.mask (h) c∈t.place.toList){Q:SetFound->Shared->Prop}
  (yes:r∈L.map Prod.snd->Q (.there none) s) (no:r∉L.map Prod.snd->Q (.free (way t.mask (h) N) false) s) :
  ∀(f c:Nat) (st:Option SetTable.Probe),st.getD (t.probeStart (h))=uM t.mask (h) c->c<=N->N - c < f->
   (∀(i:Nat) (p:Ent),L[i]?=some p->p.2=r->∃d,c<=d/\d < N/\t.place.toList[i]?=some (way t.mask (h) d))->
   wpAny (model P w) A (setSearchFrom a (.ref x) (h) true f st) Q E s:=by
 intro f
 induction f with
 |zero=>exact fun _ _ _ _ hfl _=>absurd hfl (Nat.not_lt_zero _)
 |succ f ih=>
  intro c st hst hc hfl left
  obtain⟨o,ho,hex,hd⟩:=R.ob
  rw[setSearchFrom_succ]
  refine wpAny_bind (wpAny_setState_of ho hd R.fits ?_)
  dsimp only
  refine wp_if_neg R.sound ?_
  try refine wpAny_bind (wpAny_pure ?_)
  have jAt:∀d,(nth t.mask (uM t.mask h c) d).j=way t.mask h (c+d):=fun d=>congrArg SetTable.Probe.j (Vx t.mask h c d)
  have hashOf:∀(i:Nat) (p:Ent),L[i]?=some p->(es[i]?.map (·.1)).getD 0=hf p.2:=fun i p g=>by
   rw[M8 R.en g]
   rfl
  have spec:=go_spec t R.tab.ris R.tab.dm (fun i=>(es[i]?.map (·.1)).getD 0) h (10 * SetTable.turns t.mask) (N - c) (uM t.mask h c) (aaA _ _ _) (by omega) (fun d hdn=>by rw[jAt];exact inn (c+d) (by omega)) (by rw[jAt,asw hc];exact out)
  rcases spec with⟨d,i,hdn,hi,hhi,hno,hpr⟩|⟨hno,hpr⟩
  ·have hpr':t.probe (fun i=>(es[i]?.map (·.1)).getD 0) h (st.getD (t.probeStart h))=some (.candidate (way t.mask h (c+d)) i (uM t.mask h (c+(d+1)))):=by
    rw[hst,←jAt,←Vx]
    exact hpr
   rw[hpr']
   dsimp only
   rw[jAt]at hi
   have hil:i < L.length:=by
    have k1:=(aq1.mp hi).1
    have k2:=R.tab.sz
    rw[aq9]at k2
    rw[arH]at k1
    omega
   obtain⟨p,hp⟩:∃p,L[i]?=some p:=⟨_,aq2 hil⟩
   have pm:=aq6 hp
   have go:wpAny (model P w) A (searchRest a (.ref x) h true f es t (way t.mask h (c+d)) i (uM t.mask h (c+(d+1)))) Q E s:=by
    unfold searchRest
    rw[M8 R.en hp]
    dsimp only
    refine wpAny_bind (wpAny_holding ((oF P w).eqBool hu (R.ky p pm) hx ?_))
    refine wpAny_bind (wpAny_setState_of ho hd R.fits ?_)
    dsimp only
    by_cases same:p.2=r
    ·exact wp_if_pos (by simp[same]) (wpAny_pure (yes (arf.mpr ⟨p,pm,same⟩)))
    ·refine wp_if_neg (by simp[same]) ?_
     try refine wpAny_bind (wpAny_pure ?_)
     rw[sameMem]
     dsimp only
     have live:t.slot (way t.mask h (c+d))=.live i:=slot_live R.tab.ris hi
     simp only[if_true,live,M8 R.en hp]
     refine wpAny_bind (wpAny_isSame_ref_self (wpAny_bind (wpAny_pure ?_)))
     simp only[if_true]
     refine wp_if_neg (by simp[same]) ?_
     refine ih (c+(d+1)) _ rfl (by omega) (by omega) fun i0 p0 g0 e0=>?_
     obtain⟨d0,a1,a2,a3⟩:=left i0 p0 g0 e0
     refine⟨d0,?_,a2,a3⟩
     by_cases c1:d0 < c+d
     ·exact absurd ((hashOf i0 p0 g0).trans ((congrArg hf e0).trans hh)) (hno (d0 - c) i0 (by omega) (by rw[jAt,asw a1];exact a3))
     ·by_cases c2:d0=c+d
      ·rw[c2]at a3
       have live0:=slot_live R.tab.ris a3
       rw[live]at live0
       injection live0 with ei
       rw[←ei,hp]at g0
       exact absurd ((congrArg Prod.snd (arn g0)).trans e0) same
      ·omega
   by_cases hl:t.led=true
   ·refine wp_if_neg (by simp[hl]) ?_
    try refine wpAny_bind (wpAny_pure ?_)
    exact go
   ·refine wp_if_pos (by simp[hl]) ?_
    refine wpAny_bind (akh hx (fun y hy=>?_) ?_)
    ·obtain⟨e,he,ee⟩:=arf.mp hy
     have h1:e∈es/\e.1=h:=by simpa using he
     have h2:e∈es.toList:=by simpa using h1.1
     rw[R.en]at h2
     obtain⟨p2,hp2,e2⟩:=arf.mp h2
     exact⟨p2.2,p2.1,by rw[←ee,←e2],R.ky p2 hp2⟩
    ·refine wp_if_neg (by decide) ?_
     try refine wpAny_bind (wpAny_pure ?_)
     exact go
  ·have hpr':t.probe (fun i=>(es[i]?.map (·.1)).getD 0) h (st.getD (t.probeStart h))=some (.empty (way t.mask h N) none):=by
    have e2:way t.mask h N=(nth t.mask (uM t.mask h c) (N - c)).j:=by rw[jAt,asw hc]
    rw[hst,e2]
    exact hpr
   rw[hpr']
   dsimp only
   refine wpAny_pure (no fun hm=>?_)
   obtain⟨p0,m0,e0⟩:=arf.mp hm
   obtain⟨i0,hi0,e1⟩:=List.getElem_of_mem m0
   have g0:L[i0]?=some p0:=by rw[aq2 hi0,e1]
   obtain⟨d0,a1,a2,a3⟩:=left i0 p0 g0 e0
   exact hno (d0 - c) i0 (by omega) (by rw[jAt,asw a1];exact a3) ((hashOf i0 p0 g0).trans ((congrArg hf e0).trans hh))
theorem look(R:qL hf w s.heap a L es ep t){x:Addr}{r:Rw}(hx:RI s.heap r x)(hu:(oF P w).room A){Q:SetFound->Shared->Prop}(yes:r∈L.map Prod.snd->Q (.there none) s)
  (no:∀N,r∉L.map Prod.snd->way t.mask (hf r) N∉t.place.toList->(∀c,c < N->way t.mask (hf r) c∈t.place.toList)->Q (.free (way t.mask (hf r) N) false) s):wpAny (model P w) A (setSearch a (.ref x) (hf r) true) Q E s:=by
 have hfree:=R.free
 obtain⟨N,hN,out,inn⟩:=R.tab.first (by rw[aq9];omega) (hf r)
 have small:N < 100000:=by
  have:10 * SetTable.turns t.mask<=1420:=by
   unfold SetTable.turns
   rcases R.tab.mok with e|e|e <;> omega
  omega
 unfold setSearch
 refine seek R hx rfl hu hN out inn yes (fun hn=>no N hn out inn) 100000 0 none rfl (arO _) (by omega) fun i p g e=>?_
 have hi:(L.map fun p=>hf p.2)[i]?=some (hf r):=by
  rw[ard,g,←e]
  rfl
 have hil:i < t.place.toList.length:=by
  have k1:=(aq1.mp g).1
  have k2:=R.tab.sz
  rw[aq9]at k2
  rw[arH]
  omega
 obtain⟨c,hc,ec⟩:=R.tab.before out hi (aq2 hil)
 exact⟨c,arO _,hc,by rw[aq2 hil,ec]⟩
end
section
variable{P:Program}{w:World}{A:Around}{E:Value->Shared->Prop}{s:Shared}{hf:Rw->Int}{a:Addr}{L:List Ent}{es:Array (Int×Value)}{ep:Nat}{t:SetTable}
theorem afh(L:List Ent)(n:Nat)(x:Addr)(r:Rw):ents hf (L.take n++(x,r)::L.drop n)=(ents hf L).take n++(hf r,Value.ref x)::(ents hf L).drop n:=by
 unfold ents
 rw[arG,aq3,List.map_take,List.map_drop]
theorem range_all(L:List Ent):(List.range L.length).filterMap (fun i=>L[i]?)=L:=by
 have part:∀n,n<=L.length->(List.range n).filterMap (fun i=>L[i]?)=L.take n:=by
  intro n
  induction n with
  |zero=>exact fun _=>rfl
  |succ n ih=>
   intro hn
   rw[List.range_succ,List.filterMap_append,ih (by omega),List.take_add_one,aq2 (show n < L.length by omega)]
   congr 1
   rw[List.filterMap_cons_some (aq2 (show n < L.length by omega))]
   rfl
 rw[part _ (aru _),List.take_length]
theorem aeu(h:es.toList=ents hf L){order:Array Nat}(hp:order.toList.Perm (List.range L.length)) :
  ∃M:List Ent,(order.filterMap (es[·]?)).toList=ents hf M/\M.Perm L/\(M.map fun p=>hf p.2)=order.toList.map fun i=>(es.map (·.1)).getD i 0:=by
 have inside:∀i∈order.toList,i < L.length:=fun i hi=>List.mem_range.mp (hp.mem_iff.mp hi)
 refine⟨order.toList.filterMap (fun i=>L[i]?),?_,?_,?_⟩
 ·have e1:(order.filterMap (es[·]?)).toList=order.toList.filterMap (fun i=>es[i]?):=by
   first | rw[Array.toList_filterMap] | simp
  rw[e1]
  unfold ents
  rw[List.map_filterMap]
  congr 1
  funext i
  rw[←arS,h]
  unfold ents
  rw[ard]
 ·have:=hp.filterMap (fun i=>L[i]?)
  rw[range_all]at this
  exact this
 ·generalize order.toList=l at inside
  induction l with
  |nil=>rfl
  |cons i l ih=>
   have hi:=inside i aq4
   have e5:(es.map (·.1))[i]?=some (hf (L[i]).2):=by
    rw[Array.getElem?_map,M8 h (aq2 hi)]
    rfl
   rw[List.filterMap_cons_some (aq2 hi),aq3,aq3,ih fun j hj=>inside j (aq5 _ hj),Array.getD_eq_getD_getElem?,e5]
   rfl
theorem alj{o:Obj}(ho:s.heap.get? a=some o)(hex:o.ExactSet)(hd:o.data=.set es ep t)(he:es.toList=ents hf L)(hsz:t.place.size=es.size)(hdm:t.dummies=#[])(hfl:es.size<=t.mask)(nd:(L.map Prod.snd).Nodup)(ky:∀p∈L,RI s.heap p.2 p.1)(pl:t.plain=true)
  (ld:w.params.followText "set-order"=true∨t.led=true) (few:L.length<=76) {wanted M:Nat} (hw:SetTable.sizeAbove wanted - 1=M) (hM:MaskOk M) (hw2:SetTable.sizeAbove wanted<=128) (hn:L.length * 5 < M * 3) {Q:Unit->Shared->Prop}
  (q:∀h' K es' ep' t',Heap.SameBut a s.heap h'->qL hf w h' a K es' ep' t'->K.Perm L->Q () { s with heap:=h' }):wpAny (model P w) A (setRelay a wanted) Q E s:=by
 have len:=yR he
 obtain⟨t',order,e,hp,T,em,el,epl,ed⟩:=relaid_ok t (hs:=es.map (·.1)) (wanted:=wanted) hw hM (by rw[Array.size_map,len];omega)
 rw[Array.size_map,len]at hp
 obtain⟨K,k1,k2,k3⟩:=aeu he hp
 rw[←k3]at T
 have ks:(order.filterMap (es[·]?)).size=es.size:=by
  rw[yR k1,k2.length_eq,len]
 rw[setRelay_eq]
 refine wpAny_bind (wpAny_setState_of ho hd (fits_of hsz hdm hfl) ?_)
 dsimp only
 refine wp_if_neg (by rw[sizeLine_eq];omega) ?_
 try refine wpAny_bind (wpAny_pure ?_)
 rw[e]
 dsimp only
 refine wpAny_bind ?_
 refine wp_if_neg (by rw[ks];simp) ?_
 try refine wpAny_bind (wpAny_pure ?_)
 refine wpAny_pure ?_
 dsimp only
 refine wpAny_storeSet_of ho hd ?_ (by rw[ks,len,sizeLine_eq];omega)
 have sb:Heap.SameBut a s.heap (s.heap.update a (Obj.putSet (order.filterMap (es[·]?)) t')):=Heap.SameBut.update ..
 refine q _ K (order.filterMap (es[·]?)) (ep+1) t' sb ⟨⟨_,store_at ho hd,⟨hex.1,hex.2.1,hex.2.2⟩,rfl⟩,k1,T,(k2.map Prod.snd).nodup_iff.mpr nd,fun p hp=>ZX (ky p (k2.mem_iff.mp hp)) ho hd sb,by rw[epl];exact pl,by rw[el];exact ld,?_,by rw[k2.length_eq];exact few⟩ k2
 rw[k2.length_eq,em]
 exact hn
theorem ai2(R:qL hf w s.heap a L es ep t){x:Addr}{r:Rw}(hx:RI s.heap r x)(hu:(oF P w).room A)(hfew:r∉L.map Prod.snd->L.length+1<=76){Q:Bool->Shared->Prop}
  (q:∀b h' K es' ep' t',Heap.SameBut a s.heap h'->qL hf w h' a K es' ep' t'->(r∈L.map Prod.snd->K=L)->(r∉L.map Prod.snd->K.Perm ((x,r)::L))->Q b { s with heap:=h' }):wpAny (model P w) A (setAddHashed a (.ref x) (hf r)) Q E s:=by
 obtain⟨o,ho,hex,hd⟩:=R.ob
 have len:=yR R.en
 have hfree:=R.free
 unfold setAddHashed
 refine wpAny_holding ?_
 rw[show(100000:Nat)=99999+1 from rfl,setAddHashedIn_succ]
 refine wpAny_bind (wpAny_setState_of ho hd R.fits ?_)
 dsimp only
 refine wp_if_neg (by simp[byScan,Value.scannable]) ?_
 try refine wpAny_bind (wpAny_pure ?_)
 refine wpAny_bind (look R hx hu (fun hm=>?_) fun N hm out inn=>?_)
 ·dsimp only
  exact wpAny_pure (q false s.heap L es ep t (Heap.SameBut.refl a s.heap) R (fun _=>rfl) fun z=>absurd hm z)
 have few1:=hfew hm
 dsimp only
 refine wpAny_bind (wpAny_setState_of ho hd R.fits ?_)
 dsimp only
 obtain⟨q1,q2,q3,q4,q5,q6,q7,q8,q9⟩:=R.tab.put out inn
 have pl1:(t.put (way t.mask (hf r) N)).1.plain=true:=by rw[q6];exact R.pl
 generalize hpt:t.put (way t.mask (hf r) N)=pt at q1 q3 q4 q5 q6 q7 q8 q9 pl1 ⊢
 obtain⟨t1,n⟩:=pt
 dsimp only at q1 q3 q4 q5 q6 q7 q8 q9 pl1 ⊢
 subst q1
 first
  |(refine wpAny_bind ?_;refine wp_if_pos pl1 ?_;refine(Jv hx).2 ?_)
  |refine wp_if_pos pl1 (wpAny_bind ((Jv hx).2 ?_))
 simp only[if_true]
 have ein:(SetTable.insertAt es (SetTable.below t.place (way t.mask (hf r) N)) (hf r,Value.ref x)).toList=ents hf (L.take (SetTable.below t.place (way t.mask (hf r) N))++(x,r)::L.drop (SetTable.below t.place (way t.mask (hf r) N))):=by
  rw[SetTable.toList_insertAt,afh,R.en]
 generalize hnn:SetTable.below t.place (way t.mask (hf r) N)=n at q2 q3 ein ⊢
 have pm:=put_perm L n (x,r)
 have hs1:(L.take n++(x,r)::L.drop n).map (fun p=>hf p.2)=(L.map fun p=>hf p.2).take n++hf r::(L.map fun p=>hf p.2).drop n:=by
  rw[arG,aq3,List.map_take,List.map_drop]
 rw[←hs1]at q3
 have nd1:((L.take n++(x,r)::L.drop n).map Prod.snd).Nodup:=by
  refine(pm.map Prod.snd).nodup_iff.mpr ?_
  rw[aq3]
  exact ar0.mpr ⟨hm,R.nd⟩
 have len1:(SetTable.insertAt es n (hf r,Value.ref x)).size=L.length+1:=by
  rw[yR ein,pm.length_eq]
  rfl
 generalize SetTable.insertAt es n (hf r,Value.ref x)=es1 at ein len1 ⊢
 have lenM:(L.take n++(x,r)::L.drop n).length=L.length+1:=pm.length_eq
 generalize L.take n++(x,r)::L.drop n=M at pm q3 nd1 ein lenM
 refine wpAny_bind (wpAny_storeSet_of ho hd ?_ (by rw[len1,sizeLine_eq];omega))
 have sb:Heap.SameBut a s.heap (s.heap.update a (Obj.putSet es1 t1)):=Heap.SameBut.update ..
 have ho1:=store_at (es':=es1) (t':=t1) ho hd
 generalize s.heap.update a (Obj.putSet es1 t1)=h1 at sb ho1 ⊢
 have ky1:∀p∈M,RI h1 p.2 p.1:=fun p hp=>by
  rcases arh.mp (pm.mem_iff.mp hp) with e|m
  ·rw[e];exact ZX hx ho hd sb
  ·exact ZX (R.ky p m) ho hd sb
 have ld1:w.params.followText "set-order"=true∨t1.led=true:=by rw[q5];exact R.ld
 have full:t1.tooFull=true↔(L.length+1) * 5 ≥ t1.mask * 3:=by
  unfold SetTable.tooFull
  rw[decide_eq_true_eq,q9,aq9]
 by_cases hfu:t1.tooFull=true
 ·first
   |(refine wpAny_bind ?_;refine wp_if_pos (by simp[hfu]) ?_)
   |(refine wp_if_pos (by simp[hfu]) ?_;refine wpAny_bind ?_)
  have over:=full.mp hfu
  rw[len]
  have psz:t1.place.size=es1.size:=by
   have:=q3.sz
   rw[aq9,lenM]at this
   rw[this,len1]
  have which:(t.mask=7/\L.length=4)∨(t.mask=31/\L.length=18):=by
   rcases R.tab.mok with e|e|e
   ·rw[q4,e]at over;rw[e]at hfree;exact Or.inl ⟨e,by omega⟩
   ·rw[q4,e]at over;rw[e]at hfree;exact Or.inr ⟨e,by omega⟩
   ·rw[q4,e]at over;omega
  have go:∀m,SetTable.sizeAbove (SetTable.grown (L.length+1)) - 1=m->MaskOk m->SetTable.sizeAbove (SetTable.grown (L.length+1))<=128->(L.length+1) * 5 < m * 3->
    wpAny (model P w) A (setRelay a (SetTable.grown (L.length+1))) (fun _ u=>wpAny (model P w) A (pure true) Q E u) E { s with heap:=h1 }:=fun m g1 g2 g3 g4=>
   alj (s:={ s with heap:=h1 }) ho1 ⟨hex.1,hex.2.1,hex.2.2⟩ rfl ein psz q3.dm (by rw[len1,q4];rcases which with⟨e,e2⟩|⟨e,e2⟩ <;> omega) nd1 ky1 pl1 ld1 (by rw[lenM];exact few1) g1 g2 g3 (by rw[lenM];exact g4)
    fun h2 K es2 ep2 t2 sb2 R2 pm2=>wpAny_pure (q true h2 K es2 ep2 t2 (sb.trans sb2) R2 (fun z=>absurd z hm) fun _=>pm2.trans pm)
  rcases which with⟨_,e2⟩|⟨_,e2⟩
  ·exact go 31 (by rw[e2,size_20]) (.inr (.inl rfl)) (by rw[e2,size_20];decide) (by omega)
  ·exact go 127 (by rw[e2,size_76]) (.inr (.inr rfl)) (by rw[e2,size_76];decide) (by omega)
 ·first
   |refine wp_if_neg (by simp[hfu]) ?_
   |(refine wpAny_bind ?_;refine wp_if_neg (by simp[hfu]) ?_;refine wpAny_pure ?_)
  have under:¬(L.length+1) * 5 ≥ t1.mask * 3:=fun z=>hfu (full.mpr z)
  exact wpAny_pure (q true h1 M es1 (ep+1) t1 sb ⟨⟨_,ho1,⟨hex.1,hex.2.1,hex.2.2⟩,rfl⟩,ein,q3,nd1,ky1,pl1,ld1,by rw[lenM];omega,by rw[lenM];exact few1⟩ (fun z=>absurd z hm) fun _=>pm)
end
theorem Di{α:Type}[DecidableEq α]:∀(l D:List α),l.Nodup->(∀x∈l,x∈D)->l.length<=D.length
 |[],_,_,_=>arO _
 |x::l,D,hn,hs=>by
  obtain⟨h1,h2⟩:=ar0.mp hn
  have mx:=hs x aq4
  have ih:=Di l (D.erase x) h2 fun y hy=>(List.mem_erase_of_ne (fun e=>h1 (by rw[←e];exact hy))).2 (hs y (aq5 _ hy))
  have e:=List.length_erase_of_mem mx
  have hp:=List.length_pos_of_mem mx
  rw[ari]
  omega
structure Has(ks:List Ent)(i:Nat)(L:List Ent):Prop where
 sub:∀p∈L,p∈ks.take i
 all:∀p∈ks.take i,p.2∈L.map Prod.snd
theorem DN{α:Type}{l:List α}{i:Nat}{x:α}(h:l[i]?=some x):l.take (i+1)=l.take i++[x]:=by
 rw[List.take_add_one,h]
 rfl
theorem Has.next{ks L K:List Ent}{i:Nat}{x:Ent}(g:Has ks i L)(h:ks[i]?=some x)(h1:x.2∈L.map Prod.snd->K=L)(h2:x.2∉L.map Prod.snd->K.Perm (x::L)):Has ks (i+1) K:=by
 by_cases c:x.2∈L.map Prod.snd
 ·rw[h1 c]
  refine⟨fun p hp=>?_,fun p hp=>?_⟩
  ·rw[DN h]
   exact arJ _ (g.sub p hp)
  ·rw[DN h]at hp
   rcases arb.mp hp with m|m
   ·exact g.all p m
   ·rw[aq7.mp m]
    exact c
 ·have pm:=h2 c
  refine⟨fun p hp=>?_,fun p hp=>?_⟩
  ·rw[DN h]
   rcases arh.mp (pm.mem_iff.mp hp) with e|m
   ·exact arL _ (aq7.mpr e)
   ·exact arJ _ (g.sub p m)
  ·rw[(pm.map Prod.snd).mem_iff,aq3]
   rw[DN h]at hp
   rcases arb.mp hp with m|m
   ·exact aq5 _ (g.all p m)
   ·rw[aq7.mp m]
    exact aq4
def zY(w:World):Obj:={ cls:=.type "set",dict:=none,data:=.set #[] 0 (.fresh 0 0 (!w.params.followText "set-order")) }
section
variable{P:Program}{w:World}{A:Around}{E:Value->Shared->Prop}{s:Shared}{hf:Rw->Int}
theorem qL.stay{h h':Heap}{a:Addr}{L:List Ent}{es:Array (Int×Value)}{ep:Nat}{t:SetTable}(R:qL hf w h a L es ep t)(ha:∀o,h.get? a=some o->h'.get? a=some o)(hk:∀p∈L,RI h' p.2 p.1):qL hf w h' a L es ep t:=by
 obtain⟨o,ho,r⟩:=R.ob
 exact⟨⟨o,ha o ho,r⟩,R.en,R.tab,R.nd,hk,R.pl,R.ld,R.free,R.few⟩
theorem afy{h:Heap}{a:Addr}(ho:h.get? a=some (zY w)):qL hf w h a [] #[] 0 (.fresh 0 0 (!w.params.followText "set-order")):=by
 refine⟨⟨_,ho,⟨rfl,rfl,rfl⟩,rfl⟩,rfl,⟨List.Pairwise.nil,rfl,rfl,.inl rfl,fun x hx=>(by cases hx),fun i h j hi=>(by simp at hi)⟩,asp,fun p hp=>(by cases hp),rfl,?_,(show 0 * 5 < 7 * 3 by decide),arO _⟩
 show _∨(!w.params.followText "set-order")=true
 cases w.params.followText "set-order"
 ·exact .inr rfl
 ·exact .inl rfl
theorem ah2(hhf:∀r,(oF P w).hash r=hf r){I:Addr}{fp wr:List Addr}{G:Array GenState->Array GenState->Prop}{n:Nat}{Pv:Nat->Value->Prop}{St:Nat->Shared->Prop}{R:Result->Shared->Prop}(W:WalksS P w A.in1 I fp wr G n Pv St)(S:Addr)(hSf:S∉fp)(ks:List Ent)(hn:n=ks.length)
  (D:List Rw) (hD:D.length<=76) (hkD:∀p∈ks,p.2∈D) (hval:∀i v,Pv i v->∃p,ks[i]?=some p/\v=.ref p.1) (h0:Heap) (hk:∀p∈ks,RI h0 p.2 p.1) (hS0:h0.get? S=none) (hw0:∀b∈wr,h0.get? b=none) (hu:(oF P w).room A.in1) :
  ∀(m i:Nat) (s:Shared),n - i=m->i<=n->St i s->(∀b o,h0.get? b=some o->s.heap.get? b=some o)->(∃L es ep t,qL hf w s.heap S L es ep t/\Has ks i L)->
   (∀u L es ep t,Moved (S::wr) G s u->qL hf w u.heap S L es ep t->Has ks n L->(∀b o,h0.get? b=some o->u.heap.get? b=some o)->R (.ok (.ret .none)) u)->
   codeAny (model P w) A (.builtin "set.update.loop" ⟨[.ref S,.ref I],[]⟩) R s:=by
 have Sw:S∉wr:=fun h=>hSf (W.sub _ h)
 have wS:∀b∈wr,b∈S::wr:=fun b hb=>aq5 _ hb
 have old:∀{s u:Shared},Moved wr G s u->(∀b o,h0.get? b=some o->s.heap.get? b=some o)->∀b o,h0.get? b=some o->u.heap.get? b=some o:=fun hm hkp b o e=>hm.heap b o (fun hb=>by rw[hw0 b hb]at e;cases e) (hkp b o e)
 intro m
 induction m with
 |zero=>
  intro i s hm0 hi hst hkp ⟨L,es,ep,t,hS,g⟩ hR
  obtain rfl:i=n:=by omega
  refine codeAny_builtin PyProof.Rows.F.entry_set_update_loop ?_
  rw[Around.under_plainId PyProof.Rows.F.plain_set_update_loop _]
  refine wpAny_bind (W.done s _ _ hst fun u hm=>?_)
  have kept:=old hm hkp
  exact wpAny_pure (hR u L es ep t (hm.mono wS) (hS.stay (fun o e=>hm.heap S o Sw e) fun p hp=>T5 (hk p (ase (g.sub p hp))) kept) g kept)
 |succ m ih=>
  intro i s hm0 hi hst hkp ⟨L,es,ep,t,hS,g⟩ hR
  have hlt:i < n:=by omega
  refine codeAny_builtin PyProof.Rows.F.entry_set_update_loop ?_
  rw[Around.under_plainId PyProof.Rows.F.plain_set_update_loop _]
  refine wpAny_bind (W.item i s _ _ hlt hst fun v u hP hst' hm=>?_)
  obtain⟨p,hp,rfl⟩:=hval i v hP
  have kept:=old hm hkp
  have hS':qL hf w u.heap S L es ep t:=hS.stay (fun o e=>hm.heap S o Sw e) fun q hq=>T5 (hk q (ase (g.sub q hq))) kept
  have hx:RI u.heap p.2 p.1:=T5 (hk p (aq6 hp)) kept
  refine wpAny_bind (wpAny_holding ?_)
  unfold setAdd
  refine wpAny_holding ?_
  refine wpAny_bind ((oF P w).pyHash hu hx ?_)
  rw[hhf]
  have inD:∀y∈L.map Prod.snd,y∈D:=fun y hy=>by
   obtain⟨q,hq,e⟩:=arf.mp hy
   rw[←e]
   exact hkD q (ase (g.sub q hq))
  refine ai2 (s:={ u with toks:=u.toks+(oF P w).draws p.2 }) hS' hx hu (fun hnew=>?_) fun b h' K es' ep' t' sb hS2 c1 c2=>?_
  ·have:=Di (p.2::L.map Prod.snd) D (ar0.mpr ⟨hnew,hS.nd⟩) fun y hy=>by
    rcases arh.mp hy with e|hy
    ·rw[e];exact hkD p (aq6 hp)
    ·exact inD y hy
   rw[ari,aq9]at this
   omega
  have kept2:∀b o,h0.get? b=some o->h'.get? b=some o:=fun b o e=>(sb.2 b (fun z=>by rw[z,hS0]at e;cases e)).trans (kept b o e)
  refine wpAny_pure ⟨plainId_quiet PyProof.Rows.F.plain_set_update_loop _,ih (i+1) _ (by omega) hlt (W.frame _ u _ _ hst' (Nat.le_add_right _ _) fun b hb o e=>?_) kept2 ⟨K,es',ep',t',hS2,g.next hp c1 c2⟩ fun v L2 es2 ep2 t2 hm2 hS3 g3 k3=>?_⟩
  ·rw[sb.2 b (fun h:b=S=>hSf (by rw[←h];exact hb))];exact e
  ·refine hR v L2 es2 ep2 t2 (Moved.trans W.gtrans ((hm.mono wS).then_heap (Nat.le_add_right _ _) fun b o hb e=>?_) hm2) hS3 g3 k3
   rw[sb.2 b (fun h:b=S=>hb (by rw[h];exact aq4))];exact e
set_option maxHeartbeats 4000000 in
theorem aay(hhf:∀r,(oF P w).hash r=hf r){l:Addr}{items:Array Value}(ks:List Ent)(D:List Rw)(hD:D.length<=76)(hkD:∀p∈ks,p.2∈D){Q:Value->Shared->Prop}(hh:A.handled=none)(hl:s.heap.IsList l items)(hit:items.toList=ks.map fun p=>Value.ref p.1)
  (hk:∀p∈ks,RI s.heap p.2 p.1) (hu:A.units+3+8 < cLine)
  (h:∀(h':Heap) (tk:Nat) L es ep t,qL hf w h' s.heap.objs.size L es ep t->Has ks ks.length L->(∀b o,s.heap.get? b=some o->h'.get? b=some o)->Q (.ref s.heap.objs.size) { s with heap:=h',toks:=tk }) :
  wpAny (model P w) A (call (.type "set") [.ref l]) Q E s:=by
 have isz:items.size=ks.length:=by
  rw[←arH,hit,aq9]
 obtain⟨cc,tl,hmro⟩:=PySem.F.called_set.mro
 have hmade:=PySem.F.called_set.made
 have hsub:=PySem.F.called_set.sub
 refine wpAny_call (codeAny_of_tree ?_)
 show wpAny _ _ (callAny (.type "set") _) _ _ _
 refine wpAny_pure ⟨Code.quiet_builtin _ (by decide +kernel),codeAny_builtin PySem.F.entry_type_call ?_⟩
 rw[Around.under_plain (weight_type_call_type "set" [.ref l] []) rfl]
 have nt:=PySem.F.called_set.notType
 have cr:=PySem.F.called_set.canCreate
 have hct:=PySem.F.typeCall_set_1 (.ref l)
 (repeat (any_goals first | assumption | wp_step))
 refine codeAny_mono (code_set_led1 (.ref l) (E:=E) (Q₁:=fun v u=>v=.ref s.heap.objs.size/\u={ s with heap:=s.heap.push (zY w) }) ⟨rfl,rfl⟩) fun r u hr=>?_
 cases r with
 |error e=>exact hr
 |ok fl=>
  cases fl with
  |ret v=>
   obtain⟨rfl,rfl⟩:=hr
   have hS:(s.heap.push (zY w)).get? s.heap.objs.size=some (zY w):=Heap.get?_push_size _ rfl
   have hT:Shared.TypeIs { s with heap:=s.heap.push (zY w) } (.ref s.heap.objs.size) "set":=⟨_,hS,rfl⟩
   have hli:=PySem.F.called_set.init.lookup
   have hbi:=PySem.F.called_set.init.bind (.ref s.heap.objs.size)
   (repeat (any_goals first | assumption | wp_step))
   refine codeAny_mono (codeAny_call_builtin (R:=wants (fun r u=>r=.none/\∃h' tk L es ep t,u={ s with heap:=h',toks:=tk }/\qL hf w h' s.heap.objs.size L es ep t/\Has ks ks.length L/\∀b o,s.heap.get? b=some o->h'.get? b=some o) E) PySem.F.called_set.init.plain PySem.F.entry_set_init (check_set_init_1 hT ?_)) fun r₂ u₂ hr₂=>?_
   ·obtain⟨ol,hol,hcl,nl,hdl⟩:=hl
    obtain⟨ocls,odict,odata,oslots⟩:=ol
    simp only at hcl hdl
    subst hcl;subst hdl
    have hol':(s.heap.push (zY w)).get? l=some { cls:=.type "list",dict:=odict,data:=.seq items nl,slots:=oslots }:=Heap.get?_push_of_some _ hol
    have sl1:=PySem.F.sub_list_set
    have sl2:=PySem.F.sub_list_frozenset
    have nd:(Value.type "list"==Value.type "dict")=false:=by decide
    have hl1:(s.heap.push (zY w)).IsList l items:=⟨_,hol',rfl,nl,rfl⟩
    unfold Builtin.«set.__init__» noKeywords Builtin.Frozenset.updateFrom
    generalize hPI:pyIter=PI
    wp_walk
    subst hPI
    refine wpAny_pyIter_list hl1 ?_
    refine wpAny_bind (wpAny_runValue ?_)
    have lS:l < s.heap.objs.size:=Heap.lt_size hol
    have h3:A.in1.in1.in1.handled=none:=by simp[hh]
    have sz1:(s.heap.push (zY w)).objs.size=s.heap.objs.size+1:=Heap.size_push ..
    have lI:l≠(s.heap.push (zY w)).objs.size:=by rw[sz1];exact arF (ar3 lS)
    have Sf:s.heap.objs.size∉[(s.heap.push (zY w)).objs.size,l]:=by
     rw[sz1]
     simp only[arh,arD,or_false,not_or]
     exact⟨arF (Nat.lt_succ_self _),Nat.ne_of_gt lS⟩
    have hval:∀(i:Nat) (v:Value),items[i]?=some v->∃p,ks[i]?=some p/\v=.ref p.1:=fun i v hv=>by
     rw[←arS,hit,ard]at hv
     obtain⟨p,g1,g2⟩:=arI.mp hv
     exact⟨p,g1,g2.symm⟩
    have fresh:∀b,s.heap.objs.size<=b->s.heap.get? b=none:=fun b hb=>by
     cases q:s.heap.get? b with
     |none=>rfl
     |some o=>exact absurd (Heap.lt_size q) (Nat.not_lt_of_le hb)
    refine ah2 hhf ((Walks.list h3 _ l lI items).toS) s.heap.objs.size Sf ks isz D hD hkD hval s.heap hk (fresh _ (aru _)) (fun b hb=>fresh b (by rw[aq7.mp hb,sz1];exact Nat.le_succ _)) hu (items.size - 0) 0 _ (by omega) (arO _)
     ⟨⟨_,Heap.get?_push_size _ rfl,rfl,rfl⟩,(hl1.push _)⟩ (fun b o e=>Heap.get?_push_of_some _ (Heap.get?_push_of_some _ e)) ⟨[],#[],0,_,afy (Heap.get?_push_of_some _ hS),⟨fun p hp=>(by cases hp),fun p hp=>(by simp at hp)⟩⟩ fun u L es ep t hm hS' g' kp=>?_
    obtain⟨h',g2,d',tk',os'⟩:=u
    have eg:g2=s.gens:=hm.gens
    have ed:d'=s.drawn:=hm.drawn
    have eo:os'=s.os:=hm.os
    subst eg;subst ed;subst eo
    refine wpAny_pure ?_
    rw[isz]at g'
    exact wpAny_pure ⟨rfl,h',tk',L,es,ep,t,rfl,hS',g',kp⟩
   ·cases r₂ with
    |error e=>exact hr₂
    |ok fl₂=>
     cases fl₂ with
     |ret r=>
      obtain⟨rfl,h',tk,L,es,ep,t,rfl,hS',g',hk'⟩:=hr₂
      (repeat (any_goals first | assumption | wp_step))
      exact h _ _ _ _ _ _ hS' g' hk'
     |_=>exact hr₂.elim
  |_=>exact hr.elim
end
def acB(w:World)(h:Heap)(a:Addr)(L:List Ent):Prop:=∃(hf:Rw->Int) (es:Array (Int×Value)) (ep:Nat) (t:SetTable),(∃o,h.get? a=some o/\o.ExactSet/\o.data=.set es ep t)/\es.toList=ents hf L/\t.fits es.size=true/\Ris t.place.toList/\(w.params.followText "set-order"=true∨t.led=true)
def Mp(w:World)(a:Addr)(L:List Ent):HO:=.ext fun h=>acB w h a L
section
variable{X:Cx}
theorem Vo{P:Program}{w:World}{h:Heap}:∀(l:List Int) (us:List Value),Vals (l.map V.int) us->NestedAll h (l.map .num) us
 |[],_,.nil=>.nil
 |i::l,_,.cons r t=>by
  obtain⟨tk,rfl⟩:=r
  exact .cons (.int i tk) (Vo (P:=P) (w:=w) l _ t)
theorem V7:∀{ks:List Ent} {us:List Value},Vals (ks.map fun p=>V.ref p.1) us->us=ks.map fun p=>Value.ref p.1
 |[],_,.nil=>rfl
 |p::ks,_,.cons r t=>by
  cases r
  rw[V7 t]
  rfl
theorem VG{L:List Ent}:∀(out:List Value) (M:List Rw),PySem.W.EachIs (fun v (r:Rw)=>∃p∈L,v=Value.ref p.1/\r=p.2) out M->∃ys:List V,Vals ys out/\fB (fun v (r:Rw)=>∃p∈L,v=V.ref p.1/\r=p.2) ys M
 |[],[],.nil=>⟨[],.nil,fB.nil⟩
 |_::out,_::M,.cons ⟨p,hp,e1,e2⟩ k=>by
  obtain⟨ys,h1,h2⟩:=VG out M k
  subst e1 e2
  refine⟨.ref p.1::ys,.cons rfl h1,by rw[ari,ari,h2.1],fun j u y g1 g2=>?_⟩
  cases j with
  |zero=>
   cases g1
   cases g2
   exact⟨p,hp,rfl,rfl⟩
  |succ j=>exact h2.2 j u y g1 g2
end
def gF(da dc:Addr):List (Str×V):=putF ("circles" : Str) (.ref dc) (putF ("allowances" : Str) (.ref da) [])
structure afd(C:Addr)(H:Hp)(p da dc:Addr)(al:List Int)(ci:List (List Int)):Prop where
 ob:∃dx,H p=some (.ins C dx (gF da dc))
 la:H da=some (.lst (al.map V.int))
 lc:∃us,H dc=some (.lst us)/\fB (Jk H) us ci
 ne:da≠dc
theorem afd.mono{C:Addr}{H H':Hp}(e:Ex H H'){p da dc:Addr}{al:List Int}{ci:List (List Int)}(g:afd C H p da dc al ci):afd C H' p da dc al ci:=by
 obtain⟨⟨dx,ob⟩,la,⟨us,h1,h2⟩,ne⟩:=g
 exact⟨⟨dx,e _ _ ob⟩,e _ _ la,⟨us,e _ _ h1,h2.imp fun _ _ r=>r.mono e⟩,ne⟩
end Ear
namespace Rf
open PySem PySem.Spec PyProof.Rows L2 Evl
abbrev obj(h:Nat):Dat:=PyData.dict [(PyData.none,PyData.int (Int.ofNat h))]
inductive jk where
 |dat (d:Dat)|lst (n:Nat) (xs:List Dat)|dic (n:Bool) (kvs:List (Dat×Dat))
structure aQ where
 f:Str->Option Addr
 fl:Str->List Str
 w:World
instance:CoeFun aQ fun _=>Str->Option Addr:=⟨aQ.f⟩
structure Inst where
 cls:Str
 fs:List (Str×jk)
abbrev Mo:=List Inst
inductive Cell where
 |dat (d:Dat)|mut (xs:List Dat)
abbrev Env:=List (Option Cell)
structure dU where
 cls:Str
 fs:List (Str×Dat)
inductive Out(α:Type) where
 |ok (a:α)|exc (x:dU)|bad
inductive bf(α:Type) where
 |ok (a:α) (M:Mo)|exc (x:dU) (M:Mo)|bad
inductive tM where
 |next (ρ:Env) (M:Mo)|ret (d:Dat) (M:Mo)|brk (ρ:Env) (M:Mo)|cont (ρ:Env) (M:Mo)|exc (x:dU) (ρ:Env) (M:Mo)|bad
structure Gh where
 tbl:List Addr
 ow:Addr->Option (Nat×Str)
 Lc:Addr->Prop
 Lo:Addr->Prop
def Gh.W(g:Gh)(a:Addr):Prop:=a∈g.tbl∨g.ow a≠none
def Gh.A(g:Gh)(a:Addr):Prop:=g.W a∨g.Lc a∨g.Lo a
def Jy:HO->Prop
 |.tup _=>False
 |.frz _ _=>False
 |_=>True
def anw(K:aqZ)(a:Addr)(xs:List V):Prop:=∃(o:Obj) (its:Array Value) (n:Nat),K.lookup a=some o/\o.cls=.type "list"/\o.dict=none/\o.data=.seq its n/\its.size<=sizeLine/\Vals xs its.toList
def Pg(K:aqZ)(g:Gh)(H:Hp)(a:Addr)(xs:List V):Prop:=(Rd H a (.lst xs)/\¬g.A a)∨anw K a xs
theorem Pg.sq{K:aqZ}{g:Gh}{H:Hp}{a:Addr}{xs:List V}(h:Pg K g H a xs):SqL K H a xs:=h.elim (fun z=>.inl z.1) .inr
mutual
inductive Rep(K:aqZ)(g:Gh)(H:Hp):V->Dat->Prop
 |non:Rep K g H .non .none
 |bl (b:Bool):Rep K g H (.bl b) (.bool b)
 |int (i:Int):Rep K g H (.int i) (.int i)
 |str (x:Str):Rep K g H (.str x) (.str x)
 |tup {a:Addr} {xs:List V} {ds:List Dat}:SqT K H a xs->aM K g H xs ds->Rep K g H (.ref a) (.tuple ds)
 |lst {a:Addr} {xs:List V} {ds:List Dat}:Pg K g H a xs->aM K g H xs ds->Rep K g H (.ref a) (.list ds)
 |obj {a:Addr} {h:Nat}:g.tbl[h]?=some a->Rep K g H (.ref a) (obj h)
inductive aM(K:aqZ)(g:Gh)(H:Hp):List V->List Dat->Prop
 |nil:aM K g H [] []
 |cons {v:V} {vs:List V} {d:Dat} {ds:List Dat}:Rep K g H v d->aM K g H vs ds->aM K g H (v::vs) (d::ds)
end
structure Kd(g:Gh)(H:Hp):Prop where
 ob:∀a,g.A a->∃o,H a=some o/\Jy o
 lo:∀a,g.Lo a->¬g.W a
 lc:∀a,g.Lc a->¬g.W a/\¬g.Lo a
structure Gr(q:Bool)(g g':Gh)(H H':Hp):Prop where
 keep:∀a o,H a=some o->¬g.W a->¬g.Lo a->H' a=some o
 keepW:q=true->∀a o,H a=some o->g.W a->H' a=some o
 dom:∀a,H' a=none->H a=none
 tbl:∃more,g'.tbl=g.tbl++more
 W:∀a,g.W a->g'.W a
 nW:∀a,g'.W a->g.W a∨H a=none
 qg:q=true->g'.tbl=g.tbl/\g'.ow=g.ow
 Lc:g'.Lc=g.Lc
 Lo:∀a,g.Lo a->g'.Lo a
 nLo:∀a,g'.Lo a->g.Lo a∨H a=none
section
variable{K:aqZ}{q:Bool}{g g' g2:Gh}{H H' H2:Hp}{v:V}{d:Dat}
theorem Gr.refl:Gr q g g H H:=⟨fun _ _ h _ _=>h,fun _ _ _ h _=>h,fun _ h=>h,⟨[],by simp⟩,fun _ h=>h,fun _ h=>.inl h,fun _=>⟨rfl,rfl⟩,rfl,fun _ h=>h,fun _ h=>.inl h⟩
theorem Dh(e:Ex H H'):∀a,H' a=none->H a=none:=fun a h=>by
 cases h1:H a with
 |none=>rfl
 |some o=>
  rw[e a o h1]at h
  cases h
theorem Gr.ex(e:Ex H H'):Gr q g g H H':=⟨fun a o h _ _=>e a o h,fun _ a o h _=>e a o h,Dh e,⟨[],by simp⟩,fun _ h=>h,fun _ h=>.inl h,fun _=>⟨rfl,rfl⟩,rfl,fun _ h=>h,fun _ h=>.inl h⟩
theorem Gr.trans(a:Gr q g g' H H')(b:Gr q g' g2 H' H2):Gr q g g2 H H2 where
 keep:=fun x o h nw nl=>by
  have h1:=a.keep x o h nw nl
  refine b.keep x o h1 (fun z=>?_) (fun z=>?_)
  ·rcases a.nW x z with z|z
   ·exact nw z
   ·rw[h]at z
    cases z
  ·rcases a.nLo x z with z|z
   ·exact nl z
   ·rw[h]at z
    cases z
 keepW:=fun hq x o h w=>b.keepW hq x o (a.keepW hq x o h w) (a.W x w)
 dom:=fun x h=>a.dom x (b.dom x h)
 tbl:=by
  obtain⟨m1,e1⟩:=a.tbl
  obtain⟨m2,e2⟩:=b.tbl
  exact⟨m1++m2,by rw[e2,e1,List.append_assoc]⟩
 W:=fun x h=>b.W x (a.W x h)
 nW:=fun x h=>by
  rcases b.nW x h with z|z
  ·exact a.nW x z
  ·exact .inr (a.dom x z)
 qg:=fun hq=>by
  obtain⟨e1,e2⟩:=a.qg hq
  obtain⟨f1,f2⟩:=b.qg hq
  exact⟨f1.trans e1,f2.trans e2⟩
 Lc:=b.Lc.trans a.Lc
 Lo:=fun x h=>b.Lo x (a.Lo x h)
 nLo:=fun x h=>by
  rcases b.nLo x h with z|z
  ·exact a.nLo x z
  ·exact .inr (a.dom x z)
theorem Gr.loud(a:Gr q g g' H H'):Gr false g g' H H':=⟨a.keep,(fun h=>nomatch h),a.dom,a.tbl,a.W,a.nW,(fun h=>nomatch h),a.Lc,a.Lo,a.nLo⟩
theorem Gr.nA(r:Gr q g g' H H'){a:Addr}{o:HO}(h:H a=some o)(n:¬g.A a):¬g'.A a:=fun z=>by
 rcases z with z|z|z
 ·rcases r.nW a z with z|z
  ·exact n (.inl z)
  ·rw[h]at z
   cases z
 ·rw[r.Lc]at z
  exact n (.inr (.inl z))
 ·rcases r.nLo a z with z|z
  ·exact n (.inr (.inr z))
  ·rw[h]at z
   cases z
theorem Gr.rd(r:Gr q g g' H H'){a:Addr}{o:HO}(h:Rd H a o)(n:¬g.A a):Rd H' a o/\¬g'.A a:=by
 rcases h with h|⟨z,h⟩
 ·exact⟨.inl (r.keep a _ h (fun w=>n (.inl w)) fun w=>n (.inr (.inr w))),r.nA h n⟩
 ·exact⟨.inr ⟨z,r.keep a _ h (fun w=>n (.inl w)) fun w=>n (.inr (.inr w))⟩,r.nA h n⟩
theorem Kd.tup(k:Kd g H){a:Addr}{xs:List V}(h:Rd H a (.tup xs)):¬g.A a:=fun z=>by
 obtain⟨o,e,m⟩:=k.ob a z
 rcases h with h|⟨y,h⟩ <;> (rw[h]at e;cases e;exact m)
theorem Gr.sqT(r:Gr q g g' H H')(k:Kd g H){a:Addr}{xs:List V}(h:SqT K H a xs):SqT K H' a xs:=by
 rcases h with h|h
 ·exact .inl (r.rd h (k.tup h)).1
 ·exact .inr h
theorem Gr.ls(r:Gr q g g' H H'){a:Addr}{xs:List V}(h:Pg K g H a xs):Pg K g' H' a xs:=by
 rcases h with⟨h,n⟩|h
 ·exact .inl (r.rd h n)
 ·exact .inr h
theorem Gr.tb(r:Gr q g g' H H'){h:Nat}{a:Addr}(e:g.tbl[h]?=some a):g'.tbl[h]?=some a:=by
 obtain⟨m,em⟩:=r.tbl
 rw[em,ara (aq1.mp e).1]
 exact e
mutual
theorem Rep.gr(r:Gr q g g' H H')(k:Kd g H):∀{v:V} {d:Dat},Rep K g H v d->Rep K g' H' v d
 |_,_,.non=>.non
 |_,_,.bl b=>.bl b
 |_,_,.int i=>.int i
 |_,_,.str x=>.str x
 |_,_,.tup h t=>.tup (r.sqT k h) (aM.gr r k t)
 |_,_,.lst h t=>.lst (r.ls h) (aM.gr r k t)
 |_,_,.obj h=>.obj (r.tb h)
theorem aM.gr(r:Gr q g g' H H')(k:Kd g H):∀{vs:List V} {ds:List Dat},aM K g H vs ds->aM K g' H' vs ds
 |_,_,.nil=>.nil
 |_,_,.cons h t=>.cons (Rep.gr r k h) (aM.gr r k t)
end
mutual
theorem Rep.less(e:g'.tbl=g.tbl)(n:∀a,g'.A a->g.A a):∀{v:V} {d:Dat},Rep K g H v d->Rep K g' H v d
 |_,_,.non=>.non
 |_,_,.bl b=>.bl b
 |_,_,.int i=>.int i
 |_,_,.str x=>.str x
 |_,_,.tup h t=>.tup h (aM.less e n t)
 |_,_,.lst h t=>.lst (h.elim (fun z=>.inl ⟨z.1,fun y=>z.2 (n _ y)⟩) .inr) (aM.less e n t)
 |_,_,.obj h=>.obj (by rw[e];exact h)
theorem aM.less(e:g'.tbl=g.tbl)(n:∀a,g'.A a->g.A a):∀{vs:List V} {ds:List Dat},aM K g H vs ds->aM K g' H vs ds
 |_,_,.nil=>.nil
 |_,_,.cons h t=>.cons (Rep.less e n h) (aM.less e n t)
end
mutual
def lf:Dat->Bool
 |.list _=>false
 |.tuple ds=>lfs ds
 |.dict _=>true
 |.none=>true
 |.bool _=>true
 |.int _=>true
 |.str _=>true
def lfs:List Dat->Bool
 |[]=>true
 |d::ds=>lf d&&lfs ds
end
mutual
theorem Rep.free(e:g'.tbl=g.tbl):∀{v:V} {d:Dat},lf d=true->Rep K g H v d->Rep K g' H v d
 |_,_,_,.non=>.non
 |_,_,_,.bl b=>.bl b
 |_,_,_,.int i=>.int i
 |_,_,_,.str x=>.str x
 |_,_,f,.tup h t=>.tup h (aM.free e (by rw[lf]at f;exact f) t)
 |_,_,f,.lst h t=>by rw[lf]at f;cases f
 |_,_,_,.obj h=>.obj (by rw[e];exact h)
theorem aM.free(e:g'.tbl=g.tbl):∀{vs:List V} {ds:List Dat},lfs ds=true->aM K g H vs ds->aM K g' H vs ds
 |_,_,_,.nil=>.nil
 |_,_,f,.cons h t=>.cons (Rep.free e (by rw[lfs,aq0]at f;exact f.1) h) (aM.free e (by rw[lfs,aq0]at f;exact f.2) t)
end
theorem aM.length:∀{vs:List V} {ds:List Dat},aM K g H vs ds->vs.length=ds.length
 |_,_,.nil=>rfl
 |_,_,.cons _ t=>congrArg (· + 1) t.length
theorem aM.get:∀{vs:List V} {ds:List Dat} {i:Nat} {d:Dat},aM K g H vs ds->ds[i]?=some d->∃v,vs[i]?=some v/\Rep K g H v d
 |_,_,_,_,.nil,e=>by simp at e
 |_,_,0,_,.cons h _,e=>by simp at e;subst e;exact⟨_,rfl,h⟩
 |_,_,i+1,_,.cons _ t,e=>by simpa using t.get (i:=i) (by simpa using e)
theorem aM.get':∀{vs:List V} {ds:List Dat} {i:Nat} {v:V},aM K g H vs ds->vs[i]?=some v->∃d,ds[i]?=some d/\Rep K g H v d
 |_,_,_,_,.nil,e=>by simp at e
 |_,_,0,_,.cons h _,e=>by simp at e;subst e;exact⟨_,rfl,h⟩
 |_,_,i+1,_,.cons _ t,e=>by simpa using t.get' (i:=i) (by simpa using e)
theorem aM.append:∀{vs ws:List V} {ds es:List Dat},aM K g H vs ds->aM K g H ws es->aM K g H (vs++ws) (ds++es)
 |_,_,_,_,.nil,t=>t
 |_,_,_,_,.cons h r,t=>.cons h (r.append t)
theorem aM.take:∀{vs:List V} {ds:List Dat} (n:Nat),aM K g H vs ds->aM K g H (vs.take n) (ds.take n)
 |_,_,0,_=>.nil
 |_,_,_+1,.nil=>.nil
 |_,_,n+1,.cons h t=>.cons h (t.take n)
theorem aM.drop:∀{vs:List V} {ds:List Dat} (n:Nat),aM K g H vs ds->aM K g H (vs.drop n) (ds.drop n)
 |_,_,0,t=>t
 |_,_,_+1,.nil=>.nil
 |_,_,n+1,.cons _ t=>t.drop n
theorem aM.set{v:V}{d:Dat}(r:Rep K g H v d):∀{vs:List V} {ds:List Dat} (i:Nat),aM K g H vs ds->aM K g H (vs.set i v) (ds.set i d)
 |_,_,_,.nil=>.nil
 |_,_,0,.cons _ t=>.cons r t
 |_,_,i+1,.cons h t=>.cons h (t.set r i)
theorem Gr.upd{l:Addr}{o o':HO}(k:Kd g H)(h:H l=some o)(w:(g.W l/\q=false)∨g.Lo l):Gr q g g H (L2.upd H l o') where
 keep:=fun a u e nw nl=>by
  rw[upd_ne (fun z=>by subst z;exact w.elim (fun w=>nw w.1) nl)]
  exact e
 keepW:=fun hq a u e wa=>by
  rcases w with w|w
  ·rw[hq]at w
   cases w.2
  ·rw[upd_ne (fun z=>by subst z;exact k.lo _ w wa)]
   exact e
 dom:=fun a e=>by
  by_cases z:a=l
  ·subst z
   rw[upd_same]at e
   cases e
  ·rw[upd_ne z]at e
   exact e
 tbl:=⟨[],by simp⟩
 W:=fun _ h=>h
 nW:=fun _ h=>.inl h
 qg:=fun _=>⟨rfl,rfl⟩
 Lc:=rfl
 Lo:=fun _ h=>h
 nLo:=fun _ h=>.inl h
theorem Kd.ex(k:Kd g H)(e:Ex H H'):Kd g H':=⟨fun a z=>let ⟨o,h,m⟩:=k.ob a z;⟨o,e a o h,m⟩,k.lo,k.lc⟩
theorem Kd.upd(k:Kd g H){l:Addr}{o:HO}(m:Jy o):Kd g (L2.upd H l o):=⟨fun a z=>by
 by_cases e:a=l
 ·subst e
  exact⟨o,upd_same,m⟩
 ·rw[upd_ne e]
  exact k.ob a z,k.lo,k.lc⟩
theorem Rep.ex(e:Ex H H')(k:Kd g H)(h:Rep K g H v d):Rep K g H' v d:=h.gr (Gr.ex (q:=true) e) k
theorem aM.ex{vs:List V}{ds:List Dat}(e:Ex H H')(k:Kd g H)(h:aM K g H vs ds):aM K g H' vs ds:=h.gr (Gr.ex (q:=true) e) k
end
def keyD:Key->Dat
 |.inl i=>.int i
 |.inr x=>.str x
def iQ(l:Addr)(o:Obj):HO:=.ext fun h=>h.get? l=some o
abbrev mX:Type:=NestedKey×Addr×Value
def adI(w:World)(x:mX):DictEntry:=⟨x.1.hash w,.ref x.2.1,x.2.2⟩
structure lC(w:World)(l:Addr)(o:Obj)(xs:List mX):Prop where
 sys:(l==sysModules)=false
 ex:o.ExactDict
 ent:∃es ep,o.data=.dict es ep/\es.toList=xs.map (adI w)
 nd:(xs.map (·.1)).Nodup
 len:xs.length<=sizeLine
 dep:∀x∈xs,x.1.depth<=8
def jC(K:aqZ)(aj:aQ)(g:Gh)(H:Hp)(l:Addr):Bool->List (Dat×Dat)->Prop
 |false,kvs=>∃kv:List (Key×V),H l=some (.dK kv)/\kvs.map (·.1)=kv.map (fun p=>keyD p.1)/\aM K g H (kv.map (·.2)) (kvs.map (·.2))
 |true,kvs=>∃(o:Obj) (xs:List mX) (vs:List V),H l=some (iQ l o)/\lC aj.w l o xs/\kvs.map (·.1)=xs.map (fun x=>x.1.data)/\aM K g H (xs.map fun x=>V.ref x.2.1) (kvs.map (·.1))/\Vals vs (xs.map (·.2.2))/\aM K g H vs (kvs.map (·.2))
def dY(K:aqZ)(aj:aQ)(g:Gh)(H:Hp)(h:Nat)(f:Str)(v:V):jk->Prop
 |.dat d=>Rep K g H v d
 |.lst n xs=>∃l us,v=.ref l/\H l=some (.lst us)/\g.ow l=some (h,f)/\aM K g H us xs/\g.tbl[n]?=some l
 |.dic n kvs=>∃l,v=.ref l/\g.ow l=some (h,f)/\jC K aj g H l n kvs
inductive cJ(K:aqZ)(aj:aQ)(g:Gh)(H:Hp)(h:Nat):List (Str×V)->List (Str×jk)->Prop
 |nil:cJ K aj g H h [] []
 |cons {f:Str} {v:V} {fl:jk} {fs:List (Str×V)} {gs:List (Str×jk)}:dY K aj g H h f v fl->cJ K aj g H h fs gs->cJ K aj g H h ((f,v)::fs) ((f,fl)::gs)
structure fZ(K:aqZ)(aj:aQ)(g:Gh)(H:Hp)(M:Mo):Prop where
 len:g.tbl.length=M.length
 inj:∀(h k:Nat) (a:Addr),g.tbl[h]?=some a->g.tbl[k]?=some a->h=k
 ins:∀(h:Nat) (a:Addr) (i:Inst),g.tbl[h]?=some a->M[h]?=some i->i.cls≠""->∃C dx fs,aj i.cls=some C/\H a=some (.ins C dx fs)/\cJ K aj g H h fs i.fs
 nd:∀(h:Nat) (i:Inst),M[h]?=some i->(i.fs.map (·.1)).Nodup
 fd:∀(h:Nat) (i:Inst),M[h]?=some i->∀f∈i.fs.map (·.1),f∈aj.fl i.cls
 tw:∀(h:Nat) (a:Addr) (i:Inst),g.tbl[h]?=some a->M[h]?=some i->i.cls≠""->g.ow a=none
 dm:∀(h:Nat) (i:Inst),M[h]?=some i->i.cls=""->i.fs=[]
 nc:aj ""=none
structure SInv(K:aqZ)(aj:aQ)(σ:L2.St)(H:Hp)(g:Gh)(ρ:Env)(M:Mo):Prop where
 kd:Kd g H
 wok:fZ K aj g H M
 len:σ.length=ρ.length
 dat:∀(i:Nat) (d:Dat),ρ[i]?=some (some (.dat d))->∃v,σ[i]?=some (some v)/\Rep K g H v d
 own:∀(i:Nat) (xs:List Dat),ρ[i]?=some (some (.mut xs))->∃l us,σ[i]?=some (some (.ref l))/\H l=some (.lst us)/\g.Lo l/\aM K g H us xs
 sep:∀(i j:Nat) (xs ys:List Dat) (l:Addr),i≠j->ρ[i]?=some (some (.mut xs))->ρ[j]?=some (some (.mut ys))->σ[i]?=some (some (.ref l))->σ[j]?≠some (some (.ref l))
section
variable{K:aqZ}{aj:aQ}{q:Bool}{g g' g2:Gh}{H H' H2:Hp}{v:V}{d:Dat}{σ:L2.St}{ρ:Env}{M:Mo}
theorem jC.ex{l:Addr}:∀{n:Bool} {kvs:List (Dat×Dat)} (e:Ex H H') (k:Kd g H) (h:jC K aj g H l n kvs),jC K aj g H' l n kvs
 |false,_,e,k,⟨kv,h1,h2,h3⟩=>⟨kv,e _ _ h1,h2,h3.ex e k⟩
 |true,_,e,k,⟨o,xs,vs,h1,h2,h3,h4,h5,h6⟩=>⟨o,xs,vs,e _ _ h1,h2,h3,h4.ex e k,h5,h6.ex e k⟩
theorem dY.ex{h:Nat}{f:Str}(e:Ex H H')(k:Kd g H):∀{fl:jk},dY K aj g H h f v fl->dY K aj g H' h f v fl
 |.dat _,r=>Rep.ex e k r
 |.lst _ _,⟨l,us,h1,h2,h3,h4,h5⟩=>⟨l,us,h1,e _ _ h2,h3,h4.ex e k,h5⟩
 |.dic _ _,⟨l,h1,h2,h3⟩=>⟨l,h1,h2,h3.ex e k⟩
theorem cJ.ex{h:Nat}(e:Ex H H')(k:Kd g H):∀{fs:List (Str×V)} {gs:List (Str×jk)},cJ K aj g H h fs gs->cJ K aj g H' h fs gs
 |_,_,.nil=>.nil
 |_,_,.cons r t=>.cons (dY.ex e k r) (cJ.ex e k t)
theorem fZ.ex(e:Ex H H')(k:Kd g H)(w:fZ K aj g H M):fZ K aj g H' M:=⟨w.len,w.inj,fun h a i ha hi hc=>by
 obtain⟨C,dx,fs,c1,c2,c3⟩:=w.ins h a i ha hi hc
 exact⟨C,dx,fs,c1,e _ _ c2,c3.ex e k⟩,w.nd,w.fd,w.tw,w.dm,w.nc⟩
theorem SInv.ex(e:Ex H H')(I:SInv K aj σ H g ρ M):SInv K aj σ H' g ρ M:=⟨I.kd.ex e,I.wok.ex e I.kd,I.len,fun i d h=>by
 obtain⟨v,h1,h2⟩:=I.dat i d h
 exact⟨v,h1,h2.ex e I.kd⟩,fun i xs h=>by
 obtain⟨l,us,h1,h2,h3,h4⟩:=I.own i xs h
 exact⟨l,us,h1,e _ _ h2,h3,h4.ex e I.kd⟩,I.sep⟩
theorem cJ.get{h:Nat}{f:Str}{fl:jk}:∀{fs:List (Str×V)} {gs:List (Str×jk)},cJ K aj g H h fs gs->gs.lookup f=some fl->∃v,fs.lookup f=some v/\dY K aj g H h f v fl
 |_,_,.nil,e=>nomatch e
 |_,_,.cons (f:=f') (v:=v) (fl:=fl') r t,e=>by
  rw[arB]at e
  rw[arB]
  cases hb:f==f' with
  |true=>
   rw[hb]at e
   cases e
   have ef:f=f':=by simpa using hb
   subst ef
   exact⟨v,rfl,r⟩
  |false=>
   rw[hb]at e
   exact t.get e
theorem cJ.no{h:Nat}{f:Str}:∀{fs:List (Str×V)} {gs:List (Str×jk)},cJ K aj g H h fs gs->gs.lookup f=none->fs.lookup f=none
 |_,_,.nil,_=>rfl
 |_,_,.cons (f:=f') (v:=v) (fl:=fl') r t,e=>by
  rw[arB]at e
  rw[arB]
  cases hb:f==f' with
  |true=>
   rw[hb]at e
   cases e
  |false=>
   rw[hb]at e
   exact t.no e
end
def Out.bind{α β:Type}(o:Out α)(k:α->Out β):Out β:=
 match o with
 |.ok a=>k a
 |.exc x=>.exc x
 |.bad=>.bad
def Out.sat{α:Type}(o:Out α)(P:α->Prop)(E:dU->Prop):Prop:=
 match o with
 |.ok a=>P a
 |.exc x=>E x
 |.bad=>False
@[simp]theorem Out.zH {α β:Type} (a:α) (k:α->Out β):(Out.ok a).bind k=k a:=rfl
@[simp]theorem Out.afB {α β:Type} (x:dU) (k:α->Out β):(Out.exc x:Out α).bind k=.exc x:=rfl
@[simp]theorem Out.afj {α β:Type} (k:α->Out β):(Out.bad:Out α).bind k=.bad:=rfl
theorem Out.sat.bnd{α β:Type}{o:Out α}{k:α->Out β}{P:β->Prop}{E:dU->Prop}(h:(o.bind k).sat P E):o.sat (fun a=>(k a).sat P E) E:=by
 cases o <;> exact h
theorem Out.sat.mono{α:Type}{o:Out α}{P P':α->Prop}{E E':dU->Prop}(h:o.sat P E)(hp:∀a,P a->P' a)(he:∀x,E x->E' x):o.sat P' E':=by
 cases o
 ·exact hp _ h
 ·exact he _ h
 ·exact h
def Out.when{α:Type}(b:Bool)(o:Out α):Out α:=if b=true then o else .bad
@[simp]theorem Out.Vr {α:Type} (o:Out α):Out.when true o=o:=rfl
@[simp]theorem Out.alv {α:Type} (o:Out α):Out.when false o=.bad:=rfl
theorem Out.sat.pJ{α:Type}{b:Bool}{o:Out α}{P:α->Prop}{E:dU->Prop}(h:(Out.when b o).sat P E):b=true/\o.sat P E:=by
 cases b
 ·exact False.elim h
 ·exact⟨rfl,h⟩
inductive lA(K:aqZ)(g:Gh)(H:Hp):List (Str×V)->List (Str×Dat)->Prop
 |nil:lA K g H [] []
 |cons {f:Str} {v:V} {d:Dat} {fs:List (Str×V)} {gs:List (Str×Dat)}:Rep K g H v d->lA K g H fs gs->lA K g H ((f,v)::fs) ((f,d)::gs)
def qY(K:aqZ)(aj:aQ)(g:Gh)(H:Hp)(x:dU)(c:Value)(dd:Option Addr):Prop:=
 ∃C,aj x.cls=some C/\c=.ref C/\((x.fs=[]/\dd=none)∨∃a fs,dd=some a/\H a=some (.xd fs)/\lA K g H fs x.fs)
abbrev QF:=Mo->Env->Out Dat
abbrev QT:=Mo->Env->Out Bool
abbrev QA:=Mo->Env->Out (List Dat)
section
variable(K:aqZ)(aj:aQ)(W:WX)
def qG(g:Gh)(H:Hp)(σ:L2.St)(x:dU):Prop:=∀H' c dd,Ex H H'->qY K aj g H' x c dd->W c dd σ H'
def tQ(f:QF):TE:=fun σ H Q=>∃g ρ M,SInv K aj σ H g ρ M/\(f M ρ).sat (fun d=>∀v H',Ex H H'->Rep K g H' v d->Q v H') (qG K aj W g H σ)
def jJ(f:QT):TT:=fun σ H Q=>∃g ρ M,SInv K aj σ H g ρ M/\(f M ρ).sat (fun b=>∀H',Ex H H'->Q b H') (qG K aj W g H σ)
def Oc(f:QA):TA:=fun σ H Q=>∃g ρ M,SInv K aj σ H g ρ M/\(f M ρ).sat (fun ds=>∀vs H',Ex H H'->aM K g H' vs ds->Q vs H') (qG K aj W g H σ)
end
section
variable{K:aqZ}{aj:aQ}{W:WX}{g:Gh}{H H1:Hp}{σ:L2.St}{ρ:Env}{M:Mo}
theorem qG.ex{x:dU}(e:Ex H H1)(h:qG K aj W g H σ x):qG K aj W g H1 σ x:=fun H' c dd e' r=>h H' c dd (e.trans e') r
theorem tQ.go{f:QF}{k:Dat->Prop}{Q:VK}(I:SInv K aj σ H g ρ M)(h:(f M ρ).sat k (qG K aj W g H σ))(hk:∀d v H',k d->Ex H H'->Rep K g H' v d->Q v H'):tQ K aj W f σ H Q:=
 ⟨g,ρ,M,I,h.mono (fun d hd v H' e r=>hk d v H' hd e r) fun _ z=>z⟩
theorem jJ.go{f:QT}{k:Bool->Prop}{Q:Bool->Hp->Prop}(I:SInv K aj σ H g ρ M)(h:(f M ρ).sat k (qG K aj W g H σ))(hk:∀b H',k b->Ex H H'->Q b H'):jJ K aj W f σ H Q:=
 ⟨g,ρ,M,I,h.mono (fun d hd H' e=>hk d H' hd e) fun _ z=>z⟩
theorem Oc.go{f:QA}{k:List Dat->Prop}{Q:List V->Hp->Prop}(I:SInv K aj σ H g ρ M)(h:(f M ρ).sat k (qG K aj W g H σ))(hk:∀ds vs H',k ds->Ex H H'->aM K g H' vs ds->Q vs H'):Oc K aj W f σ H Q:=
 ⟨g,ρ,M,I,h.mono (fun d hd v H' e r=>hk d v H' hd e r) fun _ z=>z⟩
end
def QE(aj:aQ)(X:Cx)(W:WX)(e:Expr)(f:QF):Prop:=PE X e (tQ X.K aj W f)
def tD(aj:aQ)(X:Cx)(W:WX)(e:Expr)(f:QT):Prop:=PT X e (jJ X.K aj W f)
def Dt(aj:aQ)(X:Cx)(W:WX)(es:List Expr)(f:QA):Prop:=PA X es (Oc X.K aj W f)
theorem PE.weak{X:Cx}{e:Expr}{t t':TE}(h:PE X e t)(k:∀σ H Q,t' σ H Q->t σ H Q):PE X e t':=⟨fun pins s σ H Q I q=>h.run pins s σ H Q I (k σ H Q q)⟩
theorem PT.weak{X:Cx}{e:Expr}{t t':TT}(h:PT X e t)(k:∀σ H Q,t' σ H Q->t σ H Q):PT X e t':=⟨fun pins s σ H Q I q=>h.run pins s σ H Q I (k σ H Q q)⟩
theorem PA.weak{X:Cx}{e:List Expr}{t t':TA}(h:PA X e t)(k:∀σ H Q,t' σ H Q->t σ H Q):PA X e t':=⟨fun pos pins s σ H Q I q=>h.run pos pins s σ H Q I (k σ H Q q)⟩
def aq(i:Nat):QF:=fun _ ρ=>match ρ[i]? with
 |some (some (.dat d))=>.ok d
 |_=>.bad
def qC(d:Dat):QF:=fun _ _=>.ok d
def aA(o:Dat->Dat->Out Dat)(a b:QF):QF:=fun M ρ=>(a M ρ).bind fun x=>(b M ρ).bind fun y=>o x y
def fj(o:Dat->Out Dat)(a:QF):QF:=fun M ρ=>(a M ρ).bind o
def au:QA:=fun _ _=>.ok []
def ak(a:QF)(r:QA):QA:=fun M ρ=>(a M ρ).bind fun x=>(r M ρ).bind fun xs=>.ok (x::xs)
def bJ(r:QA):QF:=fun M ρ=>(r M ρ).bind fun xs=>Out.when (decide (xs.length<=100000)) (.ok (.tuple xs))
def zB(r:QA):QF:=fun M ρ=>(r M ρ).bind fun xs=>Out.when (decide (xs.length<=100000)) (.ok (.list xs))
section
variable{X:Cx}{aj:aQ}{W:WX}{a b:Expr}{fa fb:QF}{pos:Pos}
theorem ajo{i:Nat}{x:Str}(hN:X.N[i]?=some x)(hv:Vis X.env.scope x)(hd:(x==("__debug__" : Str))=false)(hcd:(x==("__classdict__" : Str))=false):QE aj X W (.Name x pos) (aq i):=
 PE.weak (pe_var hN hv hd hcd) fun σ H Q ⟨g,ρ,M,I,h⟩=>by
  unfold aq at h
  split at h
  ·next d e=>
   obtain⟨v,h1,h2⟩:=I.dat i d e
   exact⟨v,h1,h v H (Ex.refl H) h2⟩
  ·exact False.elim h
theorem akH{i:Int}{j:Nat}:QE aj X W (.Constant (.int i) j pos) (qC (.int i)):=PE.weak pe_int fun σ H Q ⟨g,ρ,M,I,h⟩=>h _ H (Ex.refl H) (.int i)
theorem ajV{x:Str}{j:Nat}:QE aj X W (.Constant (.str x) j pos) (qC (.str x)):=PE.weak pe_str fun σ H Q ⟨g,ρ,M,I,h⟩=>h _ H (Ex.refl H) (.str x)
theorem alE{x:Bool}{j:Nat}:QE aj X W (.Constant (.bool x) j pos) (qC (.bool x)):=PE.weak pe_bl fun σ H Q ⟨g,ρ,M,I,h⟩=>h _ H (Ex.refl H) (.bl x)
theorem akg{j:Nat}:QE aj X W (.Constant .none j pos) (qC .none):=PE.weak pe_non fun σ H Q ⟨g,ρ,M,I,h⟩=>h _ H (Ex.refl H) .non
theorem ajD:Dt aj X W [] au:=PA.weak pa_nil fun σ H Q ⟨g,ρ,M,I,h⟩=>h [] H (Ex.refl H) .nil
theorem ahQ{es:List Expr}{fr:QA}(ha:QE aj X W a fa)(hr:Dt aj X W es fr)(hs:starEach (a::es) X.env=(false,eval a X.env)::starEach es X.env):Dt aj X W (a::es) (ak fa fr):=
 PA.weak (pa_cons ha hr hs) fun σ H Q ⟨g,ρ,M,I,h⟩=>by
  refine tQ.go I h.bnd fun d v H1 h1 e1 r1=>?_
  refine Oc.go (I.ex e1) (h1.bnd.mono (fun _ z=>z) fun _ z=>z.ex e1) fun ds vs H2 h2 e2 r2=>?_
  exact h2 (v::vs) H2 (e1.trans e2) (.cons (r1.ex e2 (I.kd.ex e1)) r2)
theorem akv{es:List Expr}{fr:QA}{k:Nat}(h:Dt aj X W es fr):QE aj X W (.Tuple es k pos) (bJ fr):=
 PE.weak (pe_tup h) fun σ H Q ⟨g,ρ,M,I,h⟩=>by
  refine Oc.go I h.bnd fun ds vs H1 h1 e1 r1=>?_
  obtain⟨hz,h1⟩:=h1.pJ
  have hl:vs.length<=100000:=by
   rw[r1.length]
   exact of_decide_eq_true hz
  refine⟨sz_of hl,fun p np=>h1 (.ref p) _ (e1.trans (Ex.new np)) (.tup (st_of upd_same) (r1.ex (Ex.new np) (I.kd.ex e1)))⟩
theorem Kd.fresh{g:Gh}{H:Hp}(k:Kd g H){p:Addr}(n:H p=none):¬g.A p:=fun z=>by
 obtain⟨o,e,_⟩:=k.ob p z
 rw[n]at e
 cases e
theorem akY{es:List Expr}{fr:QA}(h:Dt aj X W es fr):QE aj X W (.List es pos) (zB fr):=
 PE.weak (pe_lst h) fun σ H Q ⟨g,ρ,M,I,h⟩=>by
  refine Oc.go I h.bnd fun ds vs H1 h1 e1 r1=>?_
  obtain⟨hz,h1⟩:=h1.pJ
  have hl:vs.length<=100000:=by
   rw[r1.length]
   exact of_decide_eq_true hz
  refine⟨sz_of hl,fun p np=>h1 (.ref p) _ (e1.trans (Ex.new np)) (.lst (.inl ⟨.inl upd_same,(I.kd.ex e1).fresh np⟩) (r1.ex (Ex.new np) (I.kd.ex e1)))⟩
end
def eE(K:aqZ)(g:Gh)(H:Hp)(v:V):Dat->Prop
 |.list ds=>∃a us,v=.ref a/\SqL K H a us/\aM K g H us ds
 |d=>Rep K g H v d
section
variable{K:aqZ}{g:Gh}{H H':Hp}{v:V}{d:Dat}
theorem Rep.weak(h:Rep K g H v d):eE K g H v d:=by
 cases h with
 |lst a t=>exact⟨_,_,rfl,a.sq,t⟩
 |non=>exact .non
 |bl b=>exact .bl b
 |int i=>exact .int i
 |str x=>exact .str x
 |tup a t=>exact .tup a t
 |obj a=>exact .obj a
theorem eE.ex(e:Ex H H')(k:Kd g H)(h:eE K g H v d):eE K g H' v d:=by
 cases d with
 |list ds=>
  obtain⟨a,us,h1,h2,h3⟩:=h
  exact⟨a,us,h1,ex_l e h2,h3.ex e k⟩
 |_=>exact Rep.ex e k h
theorem cG{i:Int}(h:eE K g H v (.int i)):v=.int i:=by cases h;rfl
theorem jU{x:Str}(h:eE K g H v (.str x)):v=.str x:=by cases h;rfl
theorem DR{b:Bool}(h:eE K g H v (.bool b)):v=.bl b:=by cases h;rfl
theorem Gf(h:eE K g H v .none):v=.non:=by cases h;rfl
theorem lK{ds:List Dat}(h:eE K g H v (.tuple ds)):∃a us,v=.ref a/\SqT K H a us/\aM K g H us ds:=by
 cases h with
 |tup a t=>exact⟨_,_,rfl,a,t⟩
theorem jh{ds:List Dat}(h:eE K g H v (.list ds)):∃a us,v=.ref a/\SqL K H a us/\aM K g H us ds:=h
theorem Ma{n:Nat}(h:eE K g H v (obj n)):∃a,v=.ref a/\g.tbl[n]?=some a:=by
 cases h with
 |obj a=>exact⟨_,rfl,a⟩
end
section
variable(K:aqZ)(aj:aQ)(W:WX)
def tW(f:QF):TE:=fun σ H Q=>∃g ρ M,SInv K aj σ H g ρ M/\(f M ρ).sat (fun d=>∀v H',Ex H H'->eE K g H' v d->Q v H') (qG K aj W g H σ)
end
theorem tW.go{K:aqZ}{aj:aQ}{W:WX}{g:Gh}{H:Hp}{σ:L2.St}{ρ:Env}{M:Mo}{f:QF}{k:Dat->Prop}{Q:VK}(I:SInv K aj σ H g ρ M)(h:(f M ρ).sat k (qG K aj W g H σ))(hk:∀d v H',k d->Ex H H'->eE K g H' v d->Q v H'):tW K aj W f σ H Q:=
 ⟨g,ρ,M,I,h.mono (fun d hd v H' e r=>hk d v H' hd e r) fun _ z=>z⟩
def QW(aj:aQ)(X:Cx)(W:WX)(e:Expr)(f:QF):Prop:=PE X e (tW X.K aj W f)
theorem QE.w{aj:aQ}{X:Cx}{W:WX}{e:Expr}{f:QF}(h:QE aj X W e f):QW aj X W e f:=
 PE.weak h fun σ H Q ⟨g,ρ,M,I,z⟩=>⟨g,ρ,M,I,z.mono (fun _ k v H' e r=>k v H' e r.weak) fun _ y=>y⟩
def ao(i:Nat):QF:=fun _ ρ=>match ρ[i]? with
 |some (some (.dat d))=>.ok d
 |some (some (.mut xs))=>.ok (.list xs)
 |_=>.bad
def qJ(aj:aQ)(K:aqZ)(W:WX)(o:Dat->Dat->Out Dat)(r:R2):Prop:=∀(σ:L2.St) (g:Gh) (H:Hp) (x y:V) (d e:Dat) (Q:VK),Kd g H->eE K g H x d->eE K g H y e->
 (o d e).sat (fun z=>∀v H',Ex H H'->Rep K g H' v z->Q v H') (qG K aj W g H σ)->r x y H Q
section
variable{X:Cx}{aj:aQ}{W:WX}{a b c:Expr}{fa fb fc:QF}{pos:Pos}
theorem ajf{i:Nat}{x:Str}(hN:X.N[i]?=some x)(hv:Vis X.env.scope x)(hd:(x==("__debug__" : Str))=false)(hcd:(x==("__classdict__" : Str))=false):QW aj X W (.Name x pos) (ao i):=
 PE.weak (pe_var hN hv hd hcd) fun σ H Q ⟨g,ρ,M,I,h⟩=>by
  unfold ao at h
  split at h
  ·next d e=>
   obtain⟨v,h1,h2⟩:=I.dat i d e
   exact⟨v,h1,h v H (Ex.refl H) h2.weak⟩
  ·next xs e=>
   obtain⟨l,us,h1,h2,h3,h4⟩:=I.own i xs e
   exact⟨.ref l,h1,h _ H (Ex.refl H) ⟨l,us,rfl,sq_of h2,h4⟩⟩
  ·exact False.elim h
theorem R6{o:Dat->Dat->Out Dat}{r:R2}(ho:qJ aj X.K W o r)(σ:L2.St)(H:Hp)(Q:VK)(h:tQ X.K aj W (aA o fa fb) σ H Q):tOp r (tW X.K aj W fa) (tW X.K aj W fb) σ H Q:=by
 obtain⟨g,ρ,M,I,h⟩:=h
 refine tW.go I h.bnd fun d v H1 h1 e1 r1=>?_
 refine tW.go (I.ex e1) (h1.bnd.mono (fun _ z=>z) fun _ z=>z.ex e1) fun d2 v2 H2 h2 e2 r2=>?_
 refine ho σ g H2 v v2 d d2 Q ((I.kd.ex e1).ex e2) (r1.ex e2 (I.kd.ex e1)) r2 (h2.mono (fun z hz u H' e' r'=>hz u H' ((e1.trans e2).trans e') r') fun _ z=>(z.ex e1).ex e2)
theorem ajv{op:Operator}{r:R2}{o:Dat->Dat->Out Dat}(hr:OpR X (binaryOp op) r)(ho:qJ aj X.K W o r)(ha:QW aj X W a fa)(hb:QW aj X W b fb):QE aj X W (.BinOp a op b pos) (aA o fa fb):=
 PE.weak (pe_op hr ha hb) fun σ H Q h=>R6 ho σ H Q h
theorem ahT{op:CmpOp}{r:R2}{o:Dat->Dat->Out Dat}(hr:OpR X (compareOp op) r)(ho:qJ aj X.K W o r)(ha:QW aj X W a fa)(hb:QW aj X W b fb)(hm:behindInMarks op b=false):QE aj X W (.Compare a [op] [b] pos) (aA o fa fb):=
 PE.weak (pe_cmpR hr ha hb hm) fun σ H Q h=>R6 ho σ H Q h
end
instance:DecidableRel CMul:=fun i j=>by unfold CMul;infer_instance
instance:DecidableRel CDiv:=fun i j=>by unfold CDiv;infer_instance
instance:DecidableRel CPow:=fun i j=>by unfold CPow;infer_instance
def fD:Dat->Dat->Out Dat
 |.int i,.int j=>.ok (.int (i+j))
 |.str x,.str y=>Out.when (decide (x.length+y.length<=100000)) (.ok (.str (x++y)))
 |.list xs,.list ys=>Out.when (decide (xs.length+ys.length<=100000)) (.ok (.list (xs++ys)))
 |.tuple xs,.tuple ys=>Out.when (decide (xs.length+ys.length<=100000)) (.ok (.tuple (xs++ys)))
 |_,_=>.bad
def mF:Dat->Dat->Out Dat
 |.int i,.int j=>.ok (.int (i - j))
 |_,_=>.bad
def Bt:Dat->Dat->Out Dat
 |.int i,.int j=>Out.when (decide (CMul i j)) (.ok (.int (i * j)))
 |_,_=>.bad
def JB:Dat->Dat->Out Dat
 |.int i,.int j=>Out.when (decide (CDiv i j)) (.ok (.int (i / j)))
 |_,_=>.bad
def pC:Dat->Dat->Out Dat
 |.int i,.int j=>Out.when (decide (0 < j)) (.ok (.int (i % j)))
 |_,_=>.bad
def X8:Dat->Dat->Out Dat
 |.int i,.int j=>Out.when (decide (CPow i j)) (.ok (.int (i ^ j.toNat)))
 |_,_=>.bad
def rCatS(K:aqZ):R2:=fun x y H Q=>∃l b xs zs,x=.ref l/\y=.ref b/\SqL K H l xs/\SqL K H b zs/\xs.length+zs.length<=sizeLine/\∀p,H p=none->Q (.ref p) (upd H p (.lst (xs++zs)))
theorem agS{X:Cx}:OpR X (binaryOp .Add) (rCatS X.K):=by
 intro pins s σ H x y v u Q I rx ry h
 obtain⟨l,b,xs,zs,rfl,rfl,hH,hB,hz,q⟩:=h
 cases rx
 cases ry
 obtain⟨its,r,⟨⟨c1,d1,da1,s1⟩,n,e,hc,hd,hs⟩,_⟩:=I.list hH
 obtain⟨its2,r2,⟨⟨c2,d2,da2,s2⟩,n2,e2,hc2,hd2,hs2⟩,_⟩:=I.list hB
 simp only at hc hd hs hc2 hd2 hs2
 subst hc hd hs hc2 hd2 hs2
 have l1:=r.length
 have l2:=r2.length
 have ea:its.toArray++its2.toArray=(its++its2).toArray:=by simp
 refine concat_meets ⟨_,e,rfl⟩ ⟨_,e2,rfl⟩ noFill_list_add seq_list_add PySem.F.slot_list_add PySem.F.entry_list_add (PySem.F.args_list_add_2 _ _) (list_addW l b its.toArray its2.toArray n n2 none none s1 s2 (by rw[aso,aso];omega)) ⟨e,e2,?_⟩
 rw[ea]
 exact⟨.ref _,_,I.lnew (t':=s.toks) (r.append r2) (by rw[arT];omega),rfl,q _ I.fresh⟩
def agg(K:aqZ):R2:=fun x y H Q=>rI0 (fun i j=>.int (i+j)) x y H Q∨(∃i j,x=.str i/\y=.str j/\i.length+j.length<=sizeLine/\Q (.str (i++j)) H)∨rCatS K x y H Q∨rCatA K x y H Q
theorem ahE{X:Cx}:OpR X (binaryOp .Add) (agg X.K):=by
 intro pins s σ H x y v u Q I rx ry h
 rcases h with h|h|h|h
 ·exact op_add pins s σ H x y v u Q I rx ry h
 ·exact op_add_str pins s σ H x y v u Q I rx ry h
 ·exact agS pins s σ H x y v u Q I rx ry h
 ·exact op_catA pins s σ H x y v u Q I rx ry h
section
variable{K:aqZ}{aj:aQ}{W:WX}
theorem ai5:qJ aj K W fD (agg K):=fun σ g H x y d e Q k rx ry h=>by
 unfold fD at h
 split at h
 ·exact .inl ⟨_,_,cG rx,cG ry,h _ H (Ex.refl H) (.int _)⟩
 ·obtain⟨hz,h⟩:=h.pJ
  exact .inr (.inl ⟨_,_,jU rx,jU ry,sz_of (of_decide_eq_true hz),h _ H (Ex.refl H) (.str _)⟩)
 ·obtain⟨hz,h⟩:=h.pJ
  obtain⟨l,us,e1,s1,t1⟩:=jh rx
  obtain⟨l2,us2,e2,s2,t2⟩:=jh ry
  have hl:=of_decide_eq_true hz
  rw[←t1.length,←t2.length]at hl
  refine .inr (.inr (.inl ⟨l,l2,us,us2,e1,e2,s1,s2,sz_of hl,fun p np=>h _ _ (Ex.new np) (.lst (.inl ⟨.inl upd_same,k.fresh np⟩) ((t1.append t2).ex (Ex.new np) k))⟩))
 ·obtain⟨hz,h⟩:=h.pJ
  obtain⟨l,us,e1,s1,t1⟩:=lK rx
  obtain⟨l2,us2,e2,s2,t2⟩:=lK ry
  have hl:=of_decide_eq_true hz
  rw[←t1.length,←t2.length]at hl
  refine .inr (.inr (.inr ⟨l,l2,us,us2,e1,e2,s1,s2,sz_of hl,fun z=>?_,fun _ z=>?_,fun _ _ p np=>h _ _ (Ex.new np) (.tup (st_of upd_same) ((t1.append t2).ex (Ex.new np) k))⟩))
  ·subst z
   cases t1
   exact h _ H (Ex.refl H) (.tup s2 t2)
  ·subst z
   cases t2
   rw[arQ]at h
   exact h _ H (Ex.refl H) (.tup s1 t1)
 ·exact False.elim h
theorem akG:qJ aj K W mF (rI0 fun i j=>.int (i - j)):=fun σ g H x y d e Q k rx ry h=>by
 unfold mF at h
 split at h
 ·exact⟨_,_,cG rx,cG ry,h _ H (Ex.refl H) (.int _)⟩
 ·exact False.elim h
theorem ajY:qJ aj K W Bt (rI CMul fun i j=>.int (i * j)):=fun σ g H x y d e Q k rx ry h=>by
 unfold Bt at h
 split at h
 ·obtain⟨hz,h⟩:=h.pJ
  exact⟨_,_,cG rx,cG ry,of_decide_eq_true hz,h _ H (Ex.refl H) (.int _)⟩
 ·exact False.elim h
theorem ajx:qJ aj K W JB (rI CDiv fun i j=>.int (i / j)):=fun σ g H x y d e Q k rx ry h=>by
 unfold JB at h
 split at h
 ·obtain⟨hz,h⟩:=h.pJ
  exact⟨_,_,cG rx,cG ry,of_decide_eq_true hz,h _ H (Ex.refl H) (.int _)⟩
 ·exact False.elim h
theorem ajH:qJ aj K W pC (rI (fun _ j=>0 < j) fun i j=>.int (i % j)):=fun σ g H x y d e Q k rx ry h=>by
 unfold pC at h
 split at h
 ·obtain⟨hz,h⟩:=h.pJ
  exact⟨_,_,cG rx,cG ry,of_decide_eq_true hz,h _ H (Ex.refl H) (.int _)⟩
 ·exact False.elim h
theorem aiG:qJ aj K W X8 (rI CPow fun i j=>.int (i ^ j.toNat)):=fun σ g H x y d e Q k rx ry h=>by
 unfold X8 at h
 split at h
 ·obtain⟨hz,h⟩:=h.pJ
  exact⟨_,_,cG rx,cG ry,of_decide_eq_true hz,h _ H (Ex.refl H) (.int _)⟩
 ·exact False.elim h
end
mutual
def okd:Nat->Dat->Bool
 |_,.none=>true
 |_,.bool _=>true
 |_,.int _=>true
 |_,.str x=>PyData.strOk x
 |n+1,.list ds=>mW n ds
 |n+1,.tuple ds=>mW n ds
 |0,.list _=>false
 |0,.tuple _=>false
 |_,.dict _=>false
def mW:Nat->List Dat->Bool
 |_,[]=>true
 |n,d::ds=>okd n d&&mW n ds
end
mutual
theorem Uq:∀(n:Nat) (d:Dat),okd n d=true->d.canLay0=true/\d.depth<=n
 |n,.none,_=>⟨by simp[PyData.canLay0],by simp[PyData.depth]⟩
 |n,.bool _,_=>⟨by simp[PyData.canLay0],by simp[PyData.depth]⟩
 |n,.int _,_=>⟨by simp[PyData.canLay0],by simp[PyData.depth]⟩
 |n,.str x,h=>⟨by rw[okd]at h;simp[PyData.canLay0,h],by simp[PyData.depth]⟩
 |n+1,.list ds,h=>by
  rw[okd]at h
  obtain⟨h1,h2⟩:=Om n ds h
  exact⟨by simp[PyData.canLay0,h1],by simp[PyData.depth];omega⟩
 |n+1,.tuple ds,h=>by
  rw[okd]at h
  obtain⟨h1,h2⟩:=Om n ds h
  exact⟨by simp[PyData.canLay0,h1],by simp[PyData.depth];omega⟩
 |0,.list _,h=>by rw[okd]at h;cases h
 |0,.tuple _,h=>by rw[okd]at h;cases h
 |n,.dict _,h=>by rw[okd]at h;cases h
theorem Om:∀(n:Nat) (ds:List Dat),mW n ds=true->PyData.canLayAll0 ds=true/\PyData.depthAll ds<=n
 |n,[],_=>⟨by simp[PyData.canLayAll0],by simp[PyData.depthAll]⟩
 |n,d::ds,h=>by
  rw[mW,aq0]at h
  obtain⟨h1,h2⟩:=Uq n d h.1
  obtain⟨h3,h4⟩:=Om n ds h.2
  exact⟨by simp[PyData.canLayAll0,h1,h3],by simp[PyData.depthAll];omega⟩
end
mutual
theorem Rep.dp{K:aqZ}{g:Gh}{H:Hp}:∀{n:Nat} {v:V} {d:Dat},okd n d=true->Rep K g H v d->Dp K H v d
 |_,_,_,_,.non=>.non
 |_,_,_,_,.bl b=>.bl b
 |_,_,_,_,.int i=>.int i
 |_,_,_,_,.str x=>.str x
 |n+1,_,_,f,.tup h t=>.tup h (aM.dp (n:=n) (by rw[okd]at f;exact f) t)
 |n+1,_,_,f,.lst h t=>.lst h.sq (aM.dp (n:=n) (by rw[okd]at f;exact f) t)
 |0,_,_,f,.tup h t=>by rw[okd]at f;cases f
 |0,_,_,f,.lst h t=>by rw[okd]at f;cases f
 |_,_,_,f,.obj h=>by rw[okd]at f;cases f
theorem aM.dp{K:aqZ}{g:Gh}{H:Hp}:∀{n:Nat} {vs:List V} {ds:List Dat},mW n ds=true->aM K g H vs ds->DpAll K H vs ds
 |_,_,_,_,.nil=>.nil
 |n,_,_,f,.cons h t=>.cons (Rep.dp (n:=n) (by rw[mW,aq0]at f;exact f.1) h) (aM.dp (n:=n) (by rw[mW,aq0]at f;exact f.2) t)
end
theorem eE.dp{K:aqZ}{g:Gh}{H:Hp}{n:Nat}{v:V}{d:Dat}(f:okd n d=true)(h:eE K g H v d):Dp K H v d:=by
 cases d with
 |list ds=>
  obtain⟨a,us,rfl,h2,h3⟩:=h
  cases n with
  |zero=>rw[okd]at f;cases f
  |succ n=>
   rw[okd]at f
   exact .lst h2 (h3.dp f)
 |_=>exact Rep.dp f h
theorem BP{n:Nat}{d:Dat}(h:okd n d=true)(hn:n<=64):SeqAt.shaped d=true:=by
 obtain⟨h1,h2⟩:=Uq n d h
 unfold SeqAt.shaped
 rw[h1,Bool.true_and]
 exact decide_eq_true (arv h2 hn)
def eqB:Dat->Dat->Out Bool
 |.int i,.int j=>.ok (i==j)
 |.str x,.str y=>.ok (x==y)
 |.bool x,.bool y=>.ok (x==y)
 |.none,.none=>.ok true
 |d,e=>Out.when (okd 12 d&&okd 12 e) (.ok (PyData.eqv d e))
def cC(d e:Dat):Out Dat:=(eqB d e).bind fun b=>.ok (.bool b)
def Ai(d e:Dat):Out Dat:=(eqB d e).bind fun b=>.ok (.bool (!b))
def aix(K:aqZ):R2:=fun x y H Q=>rEq x y H Q∨rEqD K x y H Q
def akt(K:aqZ):R2:=fun x y H Q=>rNe x y H Q∨rNeD K x y H Q
theorem aiX{X:Cx}(hu:X.A.units+64 < cLine):OpR X (compareOp .Eq) (aix X.K):=fun pins s σ H x y v u Q I rx ry h=>h.elim (fun h=>op_eq pins s σ H x y v u Q I rx ry h) (fun h=>op_eqD hu pins s σ H x y v u Q I rx ry h)
theorem aja{X:Cx}(hu:X.A.units+64 < cLine):OpR X (compareOp .NotEq) (akt X.K):=fun pins s σ H x y v u Q I rx ry h=>h.elim (fun h=>op_ne pins s σ H x y v u Q I rx ry h) (fun h=>op_neD hu pins s σ H x y v u Q I rx ry h)
section
variable{K:aqZ}{aj:aQ}{W:WX}{g:Gh}{H:Hp}
theorem adi{x y:V}{d e:Dat}{P:Bool->Prop}{E:dU->Prop}(rx:eE K g H x d)(ry:eE K g H y e)(h:(eqB d e).sat P E):(scal x y=true/\P (decide (x=y)))∨(∃d e,Dp K H x d/\Dp K H y e/\SeqAt.shaped d=true/\SeqAt.shaped e=true/\P (PyData.eqv d e)):=by
 unfold eqB at h
 split at h
 ·cases cG rx;cases cG ry
  rw[dec_int]
  exact .inl ⟨rfl,h⟩
 ·cases jU rx;cases jU ry
  rw[dec_str]
  exact .inl ⟨rfl,h⟩
 ·cases DR rx;cases DR ry
  rw[dec_bl]
  exact .inl ⟨rfl,h⟩
 ·cases Gf rx;cases Gf ry
  exact .inl ⟨rfl,h⟩
 ·obtain⟨hz,h⟩:=h.pJ
  rw[aq0]at hz
  exact .inr ⟨_,_,rx.dp hz.1,ry.dp hz.2,BP hz.1 (by decide),BP hz.2 (by decide),h⟩
theorem alf:qJ aj K W cC (aix K):=fun σ g H x y d e Q k rx ry h=>by
 rcases adi rx ry h.bnd with⟨h1,h2⟩|⟨d,e,h1,h2,h3,h4,h5⟩
 ·exact .inl ⟨h1,h2 _ H (Ex.refl H) (.bl _)⟩
 ·exact .inr ⟨d,e,h1,h2,h3,h4,h5 _ H (Ex.refl H) (.bl _)⟩
theorem amj:qJ aj K W Ai (akt K):=fun σ g H x y d e Q k rx ry h=>by
 rcases adi rx ry h.bnd with⟨h1,h2⟩|⟨d,e,h1,h2,h3,h4,h5⟩
 ·exact .inl ⟨h1,h2 _ H (Ex.refl H) (.bl _)⟩
 ·exact .inr ⟨d,e,h1,h2,h3,h4,h5 _ H (Ex.refl H) (.bl _)⟩
end
def Rj:Dat->Dat->Out Dat
 |.int i,.int j=>.ok (.bool (decide (i < j)))
 |.tuple ds,.tuple es=>Out.when (okd 12 (.tuple ds)&&okd 12 (.tuple es)&&PySem.W.alike (.tuple ds) (.tuple es)) (.ok (.bool (PySem.W.dataLt (.tuple ds) (.tuple es))))
 |_,_=>.bad
def rN:Dat->Dat->Out Dat
 |.int i,.int j=>.ok (.bool (decide (i<=j)))
 |_,_=>.bad
def Z6:Dat->Dat->Out Dat
 |.int i,.int j=>.ok (.bool (decide (j < i)))
 |_,_=>.bad
def geD:Dat->Dat->Out Dat
 |.int i,.int j=>.ok (.bool (decide (j<=i)))
 |_,_=>.bad
def aju(K:aqZ):R2:=fun x y H Q=>rI0 (fun i j=>.bl (decide (i < j))) x y H Q∨Ear.Rb K x y H Q
theorem aiH{X:Cx}(hu:X.A.units+65 < cLine):OpR X (compareOp .Lt) (aju X.K):=fun pins s σ H x y v u Q I rx ry h=>h.elim (fun h=>op_lt pins s σ H x y v u Q I rx ry h) (fun h=>Ear.aeU hu pins s σ H x y v u Q I rx ry h)
section
variable{K:aqZ}{aj:aQ}{W:WX}{g:Gh}{H:Hp}
theorem alm:qJ aj K W Rj (aju K):=fun σ g H x y d e Q k rx ry h=>by
 unfold Rj at h
 split at h
 ·exact .inl ⟨_,_,cG rx,cG ry,h _ H (Ex.refl H) (.bl _)⟩
 ·obtain⟨hz,h⟩:=h.pJ
  simp only[aq0]at hz
  refine .inr ?_
  unfold Ear.Rb
  exact⟨_,_,rx.dp hz.1.1,ry.dp hz.1.2,hz.2,(fun z=>nomatch z),arv (Uq _ _ hz.1.1).2 (by decide),h _ H (Ex.refl H) (.bl _)⟩
 ·exact False.elim h
theorem alq:qJ aj K W rN (rI0 fun i j=>.bl (decide (i<=j))):=fun σ g H x y d e Q k rx ry h=>by
 unfold rN at h
 split at h
 ·exact⟨_,_,cG rx,cG ry,h _ H (Ex.refl H) (.bl _)⟩
 ·exact False.elim h
theorem alD:qJ aj K W Z6 (rI0 fun i j=>.bl (decide (j < i))):=fun σ g H x y d e Q k rx ry h=>by
 unfold Z6 at h
 split at h
 ·exact⟨_,_,cG rx,cG ry,h _ H (Ex.refl H) (.bl _)⟩
 ·exact False.elim h
theorem alB:qJ aj K W geD (rI0 fun i j=>.bl (decide (j<=i))):=fun σ g H x y d e Q k rx ry h=>by
 unfold geD at h
 split at h
 ·exact⟨_,_,cG rx,cG ry,h _ H (Ex.refl H) (.bl _)⟩
 ·exact False.elim h
end
def lF(c:Dat):Dat->Bool
 |.none=>match c with
  |.none=>true
  |_=>false
 |.bool b=>match c with
  |.bool b'=>b==b'
  |_=>false
 |_=>false
def scD:Dat->Option V
 |.none=>some .non
 |.bool b=>some (.bl b)
 |_=>none
theorem abt{K:aqZ}{g:Gh}{H:Hp}{x:V}{d c:Dat}{v:V}(h:eE K g H x d)(hc:scD c=some v):decide (x=v)=lF c d:=by
 cases c with
 |none=>
  cases hc
  cases d with
  |none=>cases Gf h;rfl
  |bool b=>cases DR h;rfl
  |int b=>cases cG h;rfl
  |str b=>cases jU h;rfl
  |list b=>obtain⟨a,us,rfl,_⟩:=jh h;rfl
  |tuple b=>obtain⟨a,us,rfl,_⟩:=lK h;rfl
  |dict b=>cases h;rfl
 |bool c=>
  cases hc
  cases d with
  |none=>cases Gf h;rfl
  |bool b=>cases DR h;exact dec_bl
  |int b=>cases cG h;rfl
  |str b=>cases jU h;rfl
  |list b=>obtain⟨a,us,rfl,_⟩:=jh h;rfl
  |tuple b=>obtain⟨a,us,rfl,_⟩:=lK h;rfl
  |dict b=>cases h;rfl
 |_=>cases hc
def Zy(neg:Bool)(v:V):R2:=fun x y H Q=>y=v/\Q (.bl (neg ^^ decide (x=v))) H
theorem ac4{x v:V}{u w:Value}(hv:v=.non∨∃b,v=.bl b)(rx:RelV x u)(rv:RelV v w):(u==w)=decide (x=v):=by
 rcases hv with rfl|⟨b,rfl⟩
 ·cases rv
  exact rx.none_iff
 ·cases rv
  rw[ar7,beq_iff_eq,decide_eq_true_eq]
  constructor
  ·rintro rfl
   cases x with
   |bl c=>cases rx;rfl
   |non=>cases rx
   |ref _=>cases rx
   |ty _=>cases rx
   |_=>obtain⟨t,z⟩:=rx;cases z
  ·rintro rfl
   exact rx
theorem Vk{x v:V}{u w:Value}(hv:v=.non∨∃b,v=.bl b)(rx:RelV x u)(rv:RelV v w):plainIs u w=true:=by
 rcases hv with rfl | ⟨b,rfl⟩ <;> (cases rv;cases x <;> first | (cases rx;rfl) | (obtain⟨t,rfl⟩:=rx;rfl))
theorem akp{X:Cx}{v:V}(hv:v=.non∨∃b,v=.bl b):OpR X (compareOp .Is) (Zy false v):=by
 intro pins s σ H x y u w Q I rx ry h
 obtain⟨rfl,q⟩:=h
 refine wpAny_is_plain (Vk hv rx ry) ?_
 rw[ac4 hv rx ry]
 rw[Bool.false_xor]at q
 exact⟨.bl _,H,I,rfl,q⟩
theorem adK{X:Cx}{v:V}(hv:v=.non∨∃b,v=.bl b):OpR X (compareOp .IsNot) (Zy true v):=by
 intro pins s σ H x y u w Q I rx ry h
 obtain⟨rfl,q⟩:=h
 refine wpAny_isNot_plain (Vk hv rx ry) ?_
 rw[ac4 hv rx ry]
 rw[Bool.true_xor]at q
 exact⟨.bl _,H,I,rfl,q⟩
def wU(neg:Bool)(c:Dat)(a:QF):QF:=fun M ρ=>(a M ρ).bind fun d=>.ok (.bool (neg ^^ lF c d))
section
variable{X:Cx}{aj:aQ}{W:WX}{a b c:Expr}{fa fb fc:QF}{pos:Pos}
theorem alN{op:CmpOp}{neg:Bool}{d:Dat}{v:V}(hc:scD d=some v)(hr:OpR X (compareOp op) (Zy neg v))(ha:QW aj X W a fa)(hb:PE X b (tC v))(hm:behindInMarks op b=false):QE aj X W (.Compare a [op] [b] pos) (wU neg d fa):=
 PE.weak (pe_cmpR hr ha hb hm) fun σ H Q ⟨g,ρ,M,I,h⟩=>by
  refine tW.go I h.bnd fun e x H1 h1 e1 r1=>?_
  refine⟨rfl,?_⟩
  rw[abt r1 hc]
  exact h1 _ H1 e1 (.bl _)
end
def SN:Dat->Bool
 |.none=>true
 |.bool _=>true
 |.int _=>true
 |.str _=>true
 |_=>false
def inB:Dat->Dat->Out Bool
 |d,.list ds=>Out.when (okd 12 d&&mW 12 ds) (.ok (ds.any fun z=>PyData.eqv z d))
 |d,.tuple ds=>Out.when (SN d&&ds.all SN) (.ok (ds.any fun z=>PyData.eqv z d))
 |.str x,.str z=>match x.cps.toList with
  |[c]=>.ok (decide (c∈z.cps.toList))
  |_=>.bad
 |_,_=>.bad
def inD(neg:Bool)(d e:Dat):Out Dat:=(inB d e).bind fun b=>.ok (.bool (neg ^^ b))
section
variable{K:aqZ}{g:Gh}{H:Hp}
theorem XJ{v:V}{d:Dat}(f:SN d=true)(h:Rep K g H v d):flatV v=true:=by
 cases h with
 |tup _ _=>cases f
 |lst _ _=>cases f
 |obj _=>cases f
 |_=>rfl
theorem Vy:∀{vs:List V} {ds:List Dat},ds.all SN=true->aM K g H vs ds->vs.all flatV=true
 |_,_,_,.nil=>rfl
 |_,_,f,.cons h t=>by
  rw[arK,aq0]at f
  rw[arK,XJ f.1 h,Vy f.2 t]
  rfl
theorem ahx{v w:V}{d e:Dat}(f1:SN d=true)(f2:SN e=true)(h1:Rep K g H v d)(h2:Rep K g H w e):eqV v w=PyData.eqv d e:=by
 cases h1 with
 |tup _ _=>cases f1
 |lst _ _=>cases f1
 |obj _=>cases f1
 |non=>cases h2 with
  |tup _ _=>cases f2
  |lst _ _=>cases f2
  |obj _=>cases f2
  |_=>simp[eqV,PyData.eqv]
 |bl b=>cases h2 with
  |tup _ _=>cases f2
  |lst _ _=>cases f2
  |obj _=>cases f2
  |_=>simp[eqV,PyData.eqv]
 |int b=>cases h2 with
  |tup _ _=>cases f2
  |lst _ _=>cases f2
  |obj _=>cases f2
  |_=>simp[eqV,PyData.eqv]
 |str b=>cases h2 with
  |tup _ _=>cases f2
  |lst _ _=>cases f2
  |obj _=>cases f2
  |_=>simp[eqV,PyData.eqv]
theorem abx{w:V}{e:Dat}(f2:SN e=true)(h2:Rep K g H w e):∀{vs:List V} {ds:List Dat},ds.all SN=true->aM K g H vs ds->inV w vs=ds.any fun z=>PyData.eqv z e
 |_,_,_,.nil=>rfl
 |v::vs,d::ds,f,.cons h t=>by
  rw[arK,aq0]at f
  have ih:=abx f2 h2 f.2 t
  unfold inV at ih ⊢
  rw[ar5,ar5,ih,ahx f.1 f2 h h2]
theorem ag8{v:V}{d:Dat}(f:SN d=true)(h:eE K g H v d):Rep K g H v d:=by
 cases d with
 |list _=>cases f
 |_=>exact h
end
def YL(K:aqZ)(neg:Bool):R2:=fun x y H Q=>(∃d ds,Dp K H x d/\Dp K H y (.list ds)/\SeqAt.shaped d=true/\SeqAt.shaped (.list ds)=true/\Q (.bl (neg ^^ (ds.any fun z=>PyData.eqv z d))) H)∨
 (∃p xs,y=.ref p/\(SqL K H p xs∨SqT K H p xs)/\flatV x=true/\xs.all flatV=true/\Q (.bl (neg ^^ inV x xs)) H)∨∃(c:Nat) (z:Str),x=.str ⟨#[c]⟩/\y=.str z/\Q (.bl (neg ^^ decide (c∈z.cps.toList))) H
theorem ak4{X:Cx}(hu:X.A.units+65 < cLine):OpR X (compareOp .In) (YL X.K false):=fun pins s σ H x y v u Q I rx ry h=>by
 unfold YL at h
 simp only[Bool.false_xor]at h
 rcases h with⟨d,ds,h⟩|⟨p,xs,h⟩|h
 ·exact op_inD hu pins s σ H x y v u Q I rx ry ⟨d,ds,h⟩
 ·exact op_in_seq pins s σ H x y v u Q I rx ry ⟨p,xs,h⟩
 ·exact op_in_sign pins s σ H x y v u Q I rx ry h
theorem aek{X:Cx}(hu:X.A.units+65 < cLine):OpR X (compareOp .NotIn) (YL X.K true):=fun pins s σ H x y v u Q I rx ry h=>by
 unfold YL at h
 simp only[Bool.true_xor]at h
 rcases h with⟨d,ds,h⟩|⟨p,xs,h⟩|h
 ·exact op_notInD hu pins s σ H x y v u Q I rx ry ⟨d,ds,h⟩
 ·exact op_notIn_seq pins s σ H x y v u Q I rx ry ⟨p,xs,h⟩
 ·exact op_notIn_sign pins s σ H x y v u Q I rx ry h
theorem agb{K:aqZ}{aj:aQ}{W:WX}{neg:Bool}:qJ aj K W (inD neg) (YL K neg):=fun σ g H x y d e Q k rx ry h=>by
 replace h:=Out.sat.bnd h
 unfold inB at h
 split at h
 ·next ds=>
  obtain⟨hz,h⟩:=h.pJ
  rw[aq0]at hz
  have e2:okd 13 (.list ds)=true:=by rw[okd];exact hz.2
  exact .inl ⟨_,ds,rx.dp hz.1,ry.dp e2,BP hz.1 (by decide),BP e2 (by decide),h _ H (Ex.refl H) (.bl _)⟩
 ·next ds=>
  obtain⟨hz,h⟩:=h.pJ
  rw[aq0]at hz
  obtain⟨p,us,rfl,h1,h2⟩:=lK ry
  have rx':=ag8 hz.1 rx
  refine .inr (.inl ⟨p,us,rfl,.inr h1,XJ hz.1 rx',Vy hz.2 h2,?_⟩)
  rw[abx hz.1 rx' hz.2 h2]
  exact h _ H (Ex.refl H) (.bl _)
 ·next xs z=>
  split at h
  ·next c e=>
   refine .inr (.inr ⟨c,z,?_,jU ry,h _ H (Ex.refl H) (.bl _)⟩)
   rw[jU rx]
   congr 1
   have:xs.cps=#[c]:=by
    apply Array.toList_inj.mp
    rw[e]
   cases xs
   simp only at this
   rw[this]
  ·exact False.elim h
 ·exact False.elim h
def Vd:Dat->Out Dat
 |.int i=>.ok (.int (-i))
 |_=>.bad
def Jc:Dat->Out Bool
 |.none=>.ok false
 |.bool b=>.ok b
 |.int i=>.ok (i != 0)
 |.str x=>Out.when (decide (x.length<=100000)) (.ok (!x.cps.toList.isEmpty))
 |.list ds=>.ok (!ds.isEmpty)
 |.tuple ds=>.ok (!ds.isEmpty)
 |_=>.bad
def gY(a:QF):QT:=fun M ρ=>(a M ρ).bind Jc
def Bu:Dat->Out Bool
 |.bool b=>.ok b
 |_=>.bad
def bA(a:QF):QT:=fun M ρ=>(a M ρ).bind Bu
def jQ(a:QT):QT:=fun M ρ=>(a M ρ).bind fun b=>.ok (!b)
def jR(a b:QT):QT:=fun M ρ=>(a M ρ).bind fun x=>if x=true then b M ρ else .ok false
def La(a b:QT):QT:=fun M ρ=>(a M ρ).bind fun x=>if x=true then .ok true else b M ρ
def Wu(a:QT):QF:=fun M ρ=>(a M ρ).bind fun b=>.ok (.bool b)
def K6(t:QT)(a b:QF):QF:=fun M ρ=>(t M ρ).bind fun x=>if x=true then a M ρ else b M ρ
theorem Sv{K:aqZ}{g:Gh}{H:Hp}{us:List V}{ds:List Dat}(h:aM K g H us ds):(!ds.isEmpty)=!us.isEmpty:=by cases h <;> rfl
section
variable{X:Cx}{aj:aQ}{W:WX}{a b c:Expr}{fa fb fc:QF}{ta tb:QT}{pos:Pos}
theorem aje(ha:QW aj X W a fa):QE aj X W (.UnaryOp .USub a pos) (fj Vd fa):=
 PE.weak (pe_un un_neg ha) fun σ H Q ⟨g,ρ,M,I,h⟩=>by
  refine tW.go I h.bnd fun d v H1 h1 e1 r1=>?_
  unfold Vd at h1
  split at h1
  ·exact⟨_,cG r1,h1 _ H1 e1 (.int _)⟩
  ·exact False.elim h1
theorem aiF{g:Gh}{H:Hp}{v:V}{d:Dat}{P:Bool->Prop}{E:dU->Prop}(r:eE X.K g H v d)(h:(Jc d).sat P E):∃k,TruV X.K v H k/\P k:=by
 unfold Jc at h
 split at h
 ·cases Gf r;exact⟨_,rfl,h⟩
 ·cases DR r;exact⟨_,rfl,h⟩
 ·cases cG r;exact⟨_,rfl,h⟩
 ·next x=>
  obtain⟨hz,h⟩:=h.pJ
  cases jU r
  refine⟨_,⟨sz_of (of_decide_eq_true hz),?_⟩,h⟩
  have e:x.length=x.cps.toList.length:=by
   rw[arH]
   rfl
  rw[e]
  cases x.cps.toList with
  |nil=>rfl
  |cons y ys=>
   refine Eq.symm (bne_iff_ne.mpr ?_)
   simp
   omega
 ·obtain⟨p,us,rfl,h1,h2⟩:=jh r
  rw[Sv h2]at h
  exact⟨_,.inl ⟨us,h1,rfl⟩,h⟩
 ·obtain⟨p,us,rfl,h1,h2⟩:=lK r
  rw[Sv h2]at h
  exact⟨_,.inr (.inl ⟨us,h1,rfl⟩),h⟩
 ·exact False.elim h
theorem aj3(ha:QW aj X W a fa)(he:∀whole,isTrue a X.env whole=(do let v ←whole;standAt a.pos;holding [v] (truthy v))):tD aj X W a (gY fa):=
 PT.weak (pt_truth ha he) fun σ H Q ⟨g,ρ,M,I,h⟩=>by
  refine tW.go I h.bnd fun d v H1 h1 e1 r1=>?_
  obtain⟨k,h2,h3⟩:=aiF r1 h1
  exact⟨k,h2,h3 H1 e1⟩
theorem Dz{g:Gh}{H:Hp}{v:V}{d:Dat}{P:Bool->Prop}{E:dU->Prop}(r:eE X.K g H v d)(h:(Bu d).sat P E):∃k,v=.bl k/\P k:=by
 unfold Bu at h
 split at h
 ·cases DR r;exact⟨_,rfl,h⟩
 ·exact False.elim h
theorem aji{op:CmpOp}{r:R2}{o:Dat->Dat->Out Dat}(hr:OpR X (compareOp op) r)(ho:qJ aj X.K W o r)(ha:QW aj X W a fa)(hb:QW aj X W b fb)(hm:behindInMarks op b=false):tD aj X W (.Compare a [op] [b] pos) (bA (aA o fa fb)):=
 PT.weak (pt_cmpR hr ha hb hm) fun σ H Q ⟨g,ρ,M,I,h⟩=>by
  refine R6 ho σ H _ ⟨g,ρ,M,I,h.bnd.mono (fun d h1 v H' e' r'=>?_) fun _ z=>z⟩
  obtain⟨k,h2,h3⟩:=Dz r'.weak h1
  exact⟨k,h2,h3 H' e'⟩
theorem al3{op:CmpOp}{neg:Bool}{d:Dat}{v:V}(hc:scD d=some v)(hr:OpR X (compareOp op) (Zy neg v))(ha:QW aj X W a fa)(hb:PE X b (tC v))(hm:behindInMarks op b=false):tD aj X W (.Compare a [op] [b] pos) (bA (wU neg d fa)):=
 PT.weak (pt_cmpR hr ha hb hm) fun σ H Q ⟨g,ρ,M,I,h⟩=>by
  refine tW.go I h.bnd.bnd fun e x H1 h1 e1 r1=>?_
  refine⟨rfl,_,rfl,?_⟩
  rw[abt r1 hc]
  exact h1 H1 e1
theorem akf(ha:tD aj X W a ta):tD aj X W (.UnaryOp .Not a pos) (jQ ta):=
 PT.weak (pt_not ha) fun σ H Q ⟨g,ρ,M,I,h⟩=>jJ.go I h.bnd fun b H1 h1 e1=>h1 H1 e1
def QWt(aj:aQ)(X:Cx)(W:WX)(e:Expr)(f:QT):Prop:=PW X e (jJ X.K aj W f)
theorem PW.weak{X:Cx}{e:Expr}{t t':TT}(h:PW X e t)(k:∀σ H Q,t' σ H Q->t σ H Q):PW X e t':=⟨fun wh pins s σ H Q I q=>h.run wh pins s σ H Q I (k σ H Q q)⟩
theorem ajj{rest:List Expr}(ha:tD aj X W a ta)(hb:QWt aj X W (.BoolOp .And (b::rest) pos) tb):QWt aj X W (.BoolOp .And (a::b::rest) pos) (jR ta tb):=
 PW.weak (pw_and ha hb) fun σ H Q ⟨g,ρ,M,I,h⟩=>by
  refine jJ.go I h.bnd fun x H1 h1 e1=>?_
  cases x with
  |true=>exact⟨g,ρ,M,I.ex e1,h1.mono (fun b k H' e'=>k H' (e1.trans e')) fun _ z=>z.ex e1⟩
  |false=>exact h1 H1 e1
theorem alQ{rest:List Expr}(ha:tD aj X W a ta)(hb:QWt aj X W (.BoolOp .Or (b::rest) pos) tb):QWt aj X W (.BoolOp .Or (a::b::rest) pos) (La ta tb):=
 PW.weak (pw_or ha hb) fun σ H Q ⟨g,ρ,M,I,h⟩=>by
  refine jJ.go I h.bnd fun x H1 h1 e1=>?_
  cases x with
  |true=>exact h1 H1 e1
  |false=>exact⟨g,ρ,M,I.ex e1,h1.mono (fun b k H' e'=>k H' (e1.trans e')) fun _ z=>z.ex e1⟩
def RD(a:QF):QF:=Wu (jQ (bA a))
def zR(a b:QF):QF:=fun M ρ=>(a M ρ).bind fun d=>(Bu d).bind fun x=>if x=true then b M ρ else .ok (.bool false)
def afU(a b:QF):QF:=fun M ρ=>(a M ρ).bind fun d=>(Bu d).bind fun x=>if x=true then .ok (.bool true) else b M ρ
theorem ahu(ha:QW aj X W a fa):QE aj X W (.UnaryOp .Not a pos) (RD fa):=
 PE.weak (pe_not ha) fun σ H Q ⟨g,ρ,M,I,h⟩=>by
  refine tW.go I h.bnd.bnd.bnd fun d v H1 h1 e1 r1=>?_
  obtain⟨k,h2,h3⟩:=Dz r1 h1
  exact⟨k,h2,h3 _ H1 e1 (.bl _)⟩
theorem agV{rest:List Expr}(ha:QE aj X W a fa)(hb:QE aj X W (.BoolOp .And (b::rest) pos) fb):QE aj X W (.BoolOp .And (a::b::rest) pos) (zR fa fb):=
 PE.weak (pe_and ha hb) fun σ H Q ⟨g,ρ,M,I,h⟩=>by
  refine tQ.go I h.bnd fun d v H1 h1 e1 r1=>?_
  obtain⟨k,h2,h3⟩:=Dz r1.weak h1.bnd
  refine⟨k,h2,?_⟩
  cases k with
  |true=>exact⟨g,ρ,M,I.ex e1,h3.mono (fun b k v' H' e' r'=>k v' H' (e1.trans e') r') fun _ z=>z.ex e1⟩
  |false=>exact h3 _ H1 e1 (.bl false)
theorem akV{rest:List Expr}(ha:QE aj X W a fa)(hb:QE aj X W (.BoolOp .Or (b::rest) pos) fb):QE aj X W (.BoolOp .Or (a::b::rest) pos) (afU fa fb):=
 PE.weak (pe_or ha hb) fun σ H Q ⟨g,ρ,M,I,h⟩=>by
  refine tQ.go I h.bnd fun d v H1 h1 e1 r1=>?_
  obtain⟨k,h2,h3⟩:=Dz r1.weak h1.bnd
  refine⟨k,h2,?_⟩
  cases k with
  |false=>exact⟨g,ρ,M,I.ex e1,h3.mono (fun b k v' H' e' r'=>k v' H' (e1.trans e') r') fun _ z=>z.ex e1⟩
  |true=>exact h3 _ H1 e1 (.bl true)
theorem aeV(hc:tD aj X W c ta)(ha:QE aj X W a fa)(hb:QE aj X W b fb):QE aj X W (.IfExp c a b pos) (K6 ta fa fb):=
 PE.weak (pe_ifExp hc ha hb) fun σ H Q ⟨g,ρ,M,I,h⟩=>by
  refine jJ.go I h.bnd fun x H1 h1 e1=>?_
  cases x with
  |true=>exact⟨g,ρ,M,I.ex e1,h1.mono (fun b k v' H' e' r'=>k v' H' (e1.trans e') r') fun _ z=>z.ex e1⟩
  |false=>exact⟨g,ρ,M,I.ex e1,h1.mono (fun b k v' H' e' r'=>k v' H' (e1.trans e') r') fun _ z=>z.ex e1⟩
def pq(o o':Dat->Dat->Out Dat)(a b c:QF):QT:=fun M ρ=>(a M ρ).bind fun x=>(b M ρ).bind fun y=>(o x y).bind fun z=>(Bu z).bind fun k=>if k=true then(c M ρ).bind fun w=>(o' y w).bind Bu else .ok false
theorem Zk{r r':R2}{o o':Dat->Dat->Out Dat}(ho:qJ aj X.K W o r)(ho':qJ aj X.K W o' r'){σ:L2.St}{H:Hp}{Q:VK}{P:Bool->Hp->Prop}(hP:∀k H',P k H'->Q (.bl k) H')(h:jJ X.K aj W (pq o o' fa fb fc) σ H P):tChain r r' (tW X.K aj W fa) (tW X.K aj W fb) (tW X.K aj W fc) σ H Q:=by
 obtain⟨g,ρ,M,I,h⟩:=h
 refine tW.go I h.bnd fun d v H1 h1 e1 r1=>?_
 have I1:=I.ex e1
 refine tW.go I1 (h1.bnd.mono (fun _ z=>z) fun _ z=>z.ex e1) fun d2 v2 H2 h2 e2 r2=>?_
 have I2:=I1.ex e2
 have r1':=r1.ex e2 I1.kd
 refine ho σ g H2 v v2 d d2 _ I2.kd r1' r2 (h2.bnd.mono (fun z hz u H3 e3 r3=>?_) fun _ z=>(z.ex e1).ex e2)
 obtain⟨k,h4,h5⟩:=Dz r3.weak hz.bnd
 refine⟨k,h4,?_⟩
 have I3:=I2.ex e3
 have e13:=(e1.trans e2).trans e3
 cases k with
 |false=>exact hP _ _ (h5 H3 e13)
 |true=>
  refine tW.go I3 (h5.bnd.mono (fun _ z=>z) fun _ z=>z.ex e13) fun d4 v4 H4 h6 e4 r4=>?_
  refine ho' σ g H4 v2 v4 d2 d4 _ (I3.ex e4).kd ((r2.ex e3 I2.kd).ex e4 I3.kd) r4 (h6.bnd.mono (fun z hz u H5 e5 r5=>?_) fun _ z=>(z.ex e13).ex e4)
  obtain⟨k,rfl,h8⟩:=Dz r5.weak hz
  exact hP _ _ (h8 H5 ((e13.trans e4).trans e5))
theorem afl{op op':CmpOp}{r r':R2}{o o':Dat->Dat->Out Dat}(hr:OpR X (compareOp op) r)(hr':OpR X (compareOp op') r')(ho:qJ aj X.K W o r)(ho':qJ aj X.K W o' r')(ha:QW aj X W a fa)(hb:QW aj X W b fb)(hc:QW aj X W c fc)(hm:lastMarks [op,op'] [b,c]=false) :
  tD aj X W (.Compare a [op,op'] [b,c] pos) (pq o o' fa fb fc):=
 PT.weak (pt_chain hr hr' ha hb hc hm) fun σ H Q h=>Zk ho ho' (fun k H' z=>⟨k,rfl,z⟩) h
theorem af6{op op':CmpOp}{r r':R2}{o o':Dat->Dat->Out Dat}(hr:OpR X (compareOp op) r)(hr':OpR X (compareOp op') r')(ho:qJ aj X.K W o r)(ho':qJ aj X.K W o' r')(ha:QW aj X W a fa)(hb:QW aj X W b fb)(hc:QW aj X W c fc)(hm:lastMarks [op,op'] [b,c]=false) :
  QE aj X W (.Compare a [op,op'] [b,c] pos) (Wu (pq o o' fa fb fc)):=
 PE.weak (pe_chain hr hr' ha hb hc hm) fun σ H Q ⟨g,ρ,M,I,h⟩=>Zk (P:=fun b H1=>Q (.bl b) H1) ho ho' (fun k H' z=>z) ⟨g,ρ,M,I,h.bnd.mono (fun b h1 H' e'=>h1 _ H' e' (.bl b)) fun _ z=>z⟩
end
def aW:Dat->Dat->Out Dat
 |.list ds,.int i=>match atI ds i with
  |some d=>.ok d
  |none=>.bad
 |.tuple ds,.int i=>match atI ds i with
  |some d=>.ok d
  |none=>.bad
 |.str z,.int i=>Out.when (decide (z.length<=100000)) (match atI z.cps.toList i with
  |some c=>.ok (.str ⟨#[c]⟩)
  |none=>.bad)
 |_,_=>.bad
theorem abj{K:aqZ}{g:Gh}{H:Hp}{us:List V}{ds:List Dat}{i:Int}{d:Dat}(h:aM K g H us ds)(e:atI ds i=some d):∃v,atI us i=some v/\Rep K g H v d:=by
 unfold atI at e ⊢
 rw[h.length]
 cases hj:ixN ds.length i with
 |none=>rw[hj]at e;cases e
 |some j=>
  rw[hj]at e
  obtain⟨v,h1,h2⟩:=h.get (i:=j) e
  exact⟨v,h1,h2⟩
def akQ(K:aqZ):R2:=fun x y H Q=>rIxL K x y H Q∨rIxT K x y H Q∨rIxS x y H Q
theorem anq{X:Cx}:IxR X (akQ X.K):=fun value slice pins s σ H x y v u Q I rx ry h hs=>by
 rcases h with h|h|h
 ·exact ix_list value slice pins s σ H x y v u Q I rx ry h hs
 ·exact ix_tup value slice pins s σ H x y v u Q I rx ry h hs
 ·exact ix_str value slice pins s σ H x y v u Q I rx ry h hs
theorem ami{K:aqZ}{aj:aQ}{W:WX}:qJ aj K W aW (akQ K):=fun σ g H x y d e Q k rx ry h=>by
 unfold aW at h
 split at h
 ·split at h
  ·next z hz=>
   obtain⟨p,us,rfl,h1,h2⟩:=jh rx
   obtain⟨v,h3,h4⟩:=abj h2 hz
   exact .inl ⟨p,us,_,v,rfl,cG ry,h1,h3,h v H (Ex.refl H) h4⟩
  ·exact False.elim h
 ·split at h
  ·next z hz=>
   obtain⟨p,us,rfl,h1,h2⟩:=lK rx
   obtain⟨v,h3,h4⟩:=abj h2 hz
   exact .inr (.inl ⟨p,us,_,v,rfl,cG ry,h1,h3,h v H (Ex.refl H) h4⟩)
  ·exact False.elim h
 ·obtain⟨hl,h⟩:=h.pJ
  split at h
  ·next c hz=>exact .inr (.inr ⟨_,_,c,jU rx,cG ry,sz_of (of_decide_eq_true hl),hz,h _ H (Ex.refl H) (.str _)⟩)
  ·exact False.elim h
 ·exact False.elim h
def cutD{α:Type}(xs:List α)(lo hi:Option Int):List α:=(xs.drop (HT.sIx xs.length 0 lo)).take (HT.sIx xs.length xs.length hi - HT.sIx xs.length 0 lo)
abbrev QO:=Mo->Env->Out (Option Int)
def Dd:QO:=fun _ _=>.ok none
def Bl:Dat->Out Int
 |.int i=>.ok i
 |_=>.bad
def tK(a:QF):QO:=fun M ρ=>(a M ρ).bind fun d=>(Bl d).bind fun i=>.ok (some i)
def slD(d:Dat)(lo hi:Option Int):Out Dat:=
 match d with
 |.list ds=>.ok (.list (cutD ds lo hi))
 |.tuple ds=>.ok (.tuple (cutD ds lo hi))
 |.str z=>Out.when (decide (z.length<=100000)) (.ok (.str (cutS z lo hi)))
 |_=>.bad
def Qn(a:QF)(lo hi:QO):QF:=fun M ρ=>(a M ρ).bind fun d=>(lo M ρ).bind fun l=>(hi M ρ).bind fun h=>slD d l h
def tQO(K:aqZ)(aj:aQ)(W:WX)(f:QO):TO:=fun σ H Q=>∃g ρ M,SInv K aj σ H g ρ M/\(f M ρ).sat (fun o=>∀H',Ex H H'->Q o H') (qG K aj W g H σ)
def QOe(aj:aQ)(X:Cx)(W:WX)(e:Option Expr)(f:QO):Prop:=PO X e (tQO X.K aj W f)
def aiM(K:aqZ):V->Option Int->Option Int->Hp->VK->Prop:=fun x lo hi H Q=>rSlL K x lo hi H Q∨rSlA K x lo hi H Q∨rSlS x lo hi H Q
theorem anE{X:Cx}:SlR X (aiM X.K):=fun pins s σ H x v vl vu lo hi sl Q I rx hs pl pu h=>by
 rcases h with h|h|h
 ·exact sl_list pins s σ H x v vl vu lo hi sl Q I rx hs pl pu h
 ·exact sl_tupA pins s σ H x v vl vu lo hi sl Q I rx hs pl pu h
 ·exact sl_str pins s σ H x v vl vu lo hi sl Q I rx hs pl pu h
theorem amm{K:aqZ}{g:Gh}{H:Hp}{x:V}{d:Dat}{lo hi:Option Int}{Q:VK}{E:dU->Prop}(k:Kd g H)(rx:eE K g H x d)(h:(slD d lo hi).sat (fun z=>∀v H',Ex H H'->Rep K g H' v z->Q v H') E):aiM K x lo hi H Q:=by
 unfold slD at h
 have hc:∀{us:List V} {ds:List Dat},aM K g H us ds->aM K g H (cutV us lo hi) (cutD ds lo hi):=fun {us ds} t=>by
  unfold cutV cutD
  rw[t.length]
  exact(t.drop _).take _
 split at h
 ·obtain⟨p,us,rfl,h1,h2⟩:=jh rx
  exact .inl ⟨p,us,rfl,h1,fun q nq=>h _ _ (Ex.new nq) (.lst (.inl ⟨.inl upd_same,k.fresh nq⟩) ((hc h2).ex (Ex.new nq) k))⟩
 ·next ds=>
  obtain⟨p,us,rfl,h1,h2⟩:=lK rx
  refine .inr (.inl ⟨p,us,rfl,h1,fun z=>?_,fun _ q nq=>h _ _ (Ex.new nq) (.tup (st_of upd_same) ((hc h2).ex (Ex.new nq) k))⟩)
  have e:cutD ds lo hi=ds:=by
   unfold cutD
   rw[←h2.length,z.1,z.2,h2.length]
   simp
  rw[e]at h
  exact h _ H (Ex.refl H) (.tup h1 h2)
 ·obtain⟨hz,h⟩:=h.pJ
  exact .inr (.inr ⟨_,jU rx,sz_of (of_decide_eq_true hz),h _ H (Ex.refl H) (.str _)⟩)
 ·exact False.elim h
section
variable{X:Cx}{aj:aQ}{W:WX}{a b:Expr}{fa fb:QF}{pos p2:Pos}
theorem ali(ha:QW aj X W a fa)(hb:QW aj X W b fb)(hs:PlainIx b):QE aj X W (.Subscript a b pos) (aA aW fa fb):=
 PE.weak (pe_ix anq ha hb hs) fun σ H Q h=>R6 ami σ H Q h
theorem PO.weak{X:Cx}{e:Option Expr}{t t':TO}(h:PO X e t)(k:∀σ H Q,t' σ H Q->t σ H Q):PO X e t':=⟨fun pins s σ H Q I q=>h.run pins s σ H Q I (k σ H Q q)⟩
theorem ah4:QOe aj X W none Dd:=PO.weak po_none fun σ H Q ⟨g,ρ,M,I,h⟩=>h H (Ex.refl H)
theorem ahS(ha:QW aj X W a fa):QOe aj X W (some a) (tK fa):=PO.weak (po_some ha) fun σ H Q ⟨g,ρ,M,I,h⟩=>by
 refine tW.go I h.bnd fun d v H1 h1 e1 r1=>?_
 have h1:=h1.bnd
 unfold Bl at h1
 split at h1
 ·exact⟨_,cG r1,h1 H1 e1⟩
 ·exact False.elim h1
theorem alZ{lo hi:Option Expr}{fl fh:QO}(ha:QW aj X W a fa)(hl:QOe aj X W lo fl)(hh:QOe aj X W hi fh):QE aj X W (.Subscript a (.Slice lo hi none p2) pos) (Qn fa fl fh):=
 PE.weak (pe_slice anE ha hl hh) fun σ H Q ⟨g,ρ,M,I,h⟩=>by
  refine tW.go I h.bnd fun d v H1 h1 e1 r1=>?_
  have I1:=I.ex e1
  refine⟨g,ρ,M,I1,h1.bnd.mono (fun l h2 H2 e2=>?_) fun _ z=>z.ex e1⟩
  have I2:=I1.ex e2
  refine⟨g,ρ,M,I2,h2.bnd.mono (fun u h3 H3 e3=>?_) fun _ z=>(z.ex e1).ex e2⟩
  exact amm (I2.ex e3).kd ((r1.ex e2 I1.kd).ex e3 I2.kd) (h3.mono (fun z hz v' H' e' r'=>hz v' H' (((e1.trans e2).trans e3).trans e') r') fun _ z=>z)
end
def JN(aj:aQ)(K:aqZ)(W:WX)(o:Dat->Out Dat)(r:List V->Hp->VK->Prop):Prop:=∀(σ:L2.St) (g:Gh) (H:Hp) (x:V) (d:Dat) (Q:VK),Kd g H->eE K g H x d->
 (o d).sat (fun z=>∀v H',Ex H H'->Rep K g H' v z->Q v H') (qG K aj W g H σ)->r [x] H Q
def Fn2(aj:aQ)(K:aqZ)(W:WX)(o:Dat->Dat->Out Dat)(r:List V->Hp->VK->Prop):Prop:=∀(σ:L2.St) (g:Gh) (H:Hp) (x y:V) (d e:Dat) (Q:VK),Kd g H->eE K g H x d->eE K g H y e->
 (o d e).sat (fun z=>∀v H',Ex H H'->Rep K g H' v z->Q v H') (qG K aj W g H σ)->r [x,y] H Q
def BV(f:Value)(x:Str):Prop:=bootBuiltins x=some f/\x≠"__name__"/\(x==("__debug__" : Str))=false
def nst:Expr->Bool
 |.Starred _ _=>false
 |_=>true
section
variable{X:Cx}{aj:aQ}{W:WX}{a b c:Expr}{fa fb fc:QF}{pos p:Pos}{x:Str}
theorem cH{env:PySem.Env}{a:Expr}(h:nst a=true)(es:List Expr):starEach (a::es) env=(false,eval a env)::starEach es env:=by
 cases a <;> first | rfl | cases h
theorem star_any{env:PySem.Env}{pos:Pos}:∀(es:List Expr),es.all nst=true->(backTo pos (starEach es env)).any (·.1)=false
 |[],_=>by with_unfolding_all rfl
 |a::es,h=>by
  rw[arK,aq0]at h
  rw[cH h.1]
  have ih:=star_any (env:=env) (pos:=pos) es h.2
  unfold backTo at ih ⊢
  rw[aq3,ar5,ih]
  rfl
theorem agn{f:Value}{id:String}{r:List V->Hp->VK->Prop}{o:Dat->Out Dat}(hf:f=.builtin id∨f=.type id)(hc:CallR X f r)(ho:JN aj X.K W o r)(hg:Gl X x)(hm:X.mg x=none)(hv:BV f x)(ha:QW aj X W a fa)(hs:nst a=true):QE aj X W (.Call (.Name x p) [a] [] pos) (fj o fa):=by
 have h1:=pa_cons ha pa_nil (cH hs [])
 have key:PE X (.Call (.Name x p) [a] [] pos) (tCB r (tCons (tW X.K aj W fa) tNil)):=by
  rcases hf with rfl|rfl
  ·exact pe_callB hc hg hm hv.1 h1 hv.2.1 hv.2.2 (cH hs []) (by with_unfolding_all rfl)
  ·exact pe_callTy hc hg hm hv.1 h1 hv.2.1 hv.2.2 (cH hs []) (by with_unfolding_all rfl)
 refine PE.weak key fun σ H Q ⟨g,ρ,M,I,h⟩=>?_
 refine tW.go I h.bnd fun d v H1 h1 e1 r1=>?_
 exact ho σ g H1 v d Q (I.kd.ex e1) r1 (h1.mono (fun z hz u H' e' r'=>hz u H' (e1.trans e') r') fun _ z=>z.ex e1)
theorem aly{f:Value}{id:String}{r:List V->Hp->VK->Prop}{o:Dat->Dat->Out Dat}(hf:f=.builtin id∨f=.type id)(hc:CallR X f r)(ho:Fn2 aj X.K W o r)(hg:Gl X x)(hm:X.mg x=none)(hv:BV f x)(ha:QW aj X W a fa)(hb:QW aj X W b fb)(hs:nst a=true)(hs2:nst b=true):QE aj X W (.Call (.Name x p) [a,b] [] pos) (aA o fa fb):=by
 have h1:=pa_cons ha (pa_cons hb pa_nil (cH hs2 [])) (cH hs [b])
 have key:PE X (.Call (.Name x p) [a,b] [] pos) (tCB r (tCons (tW X.K aj W fa) (tCons (tW X.K aj W fb) tNil))):=by
  rcases hf with rfl|rfl
  ·exact pe_callB hc hg hm hv.1 h1 hv.2.1 hv.2.2 (cH hs [b]) (star_any [b] (by simp[hs2]))
  ·exact pe_callTy hc hg hm hv.1 h1 hv.2.1 hv.2.2 (cH hs [b]) (star_any [b] (by simp[hs2]))
 refine PE.weak key fun σ H Q ⟨g,ρ,M,I,h⟩=>?_
 refine tW.go I h.bnd fun d v H1 h1 e1 r1=>?_
 have I1:=I.ex e1
 refine tW.go I1 (h1.bnd.mono (fun _ z=>z) fun _ z=>z.ex e1) fun d2 v2 H2 h2 e2 r2=>?_
 exact ho σ g H2 v v2 d d2 Q (I1.ex e2).kd (r1.ex e2 I1.kd) r2 (h2.mono (fun z hz u H' e' r'=>hz u H' ((e1.trans e2).trans e') r') fun _ z=>(z.ex e1).ex e2)
end
def pF:Dat->Out Dat
 |.list ds=>.ok (.int ds.length)
 |.tuple ds=>.ok (.int ds.length)
 |.str x=>Out.when (decide (x.length<=100000)) (.ok (.int x.length))
 |_=>.bad
def U0:Dat->Out Dat
 |.int i=>.ok (.int (if i < 0 then -i else i))
 |_=>.bad
def sU:Dat->Dat->Out Dat
 |.int i,.int j=>.ok (.int (if j > i then j else i))
 |_,_=>.bad
def Jt:Dat->Dat->Out Dat
 |.int i,.int j=>.ok (.int (if j < i then j else i))
 |_,_=>.bad
def intsOf:List Dat->Option (List Int)
 |[]=>some []
 |.int i::r=>(intsOf r).map (i::·)
 |_::_=>none
def qU:List Dat->Option (List Bool)
 |[]=>some []
 |.bool i::r=>(qU r).map (i::·)
 |_::_=>none
theorem Jf{K:aqZ}{g:Gh}{H:Hp}:∀{us:List V} {ds:List Dat} {ns:List Int},aM K g H us ds->intsOf ds=some ns->us=ns.map V.int
 |_,_,ns,.nil,e=>by cases e;rfl
 |_,_,ns,.cons (d:=d) (ds:=ds) h t,e=>by
  cases d with
  |int i=>
   rw[intsOf]at e
   cases hr:intsOf ds with
   |none=>rw[hr]at e;cases e
   |some r=>
    rw[hr]at e
    cases e
    cases h
    rw[Jf t hr]
    rfl
  |_=>cases e
theorem K7{K:aqZ}{g:Gh}{H:Hp}:∀{us:List V} {ds:List Dat} {ns:List Bool},aM K g H us ds->qU ds=some ns->us=ns.map V.bl
 |_,_,ns,.nil,e=>by cases e;rfl
 |_,_,ns,.cons (d:=d) (ds:=ds) h t,e=>by
  cases d with
  |bool i=>
   rw[qU]at e
   cases hr:qU ds with
   |none=>rw[hr]at e;cases e
   |some r=>
    rw[hr]at e
    cases e
    cases h
    rw[K7 t hr]
    rfl
  |_=>cases e
@[simp]theorem mD (ns:List Int):intsOf (ns.map PyData.int)=some ns:=by
 induction ns with
 |nil=>rfl
 |cons n ns ih=>rw[aq3,intsOf,ih];rfl
@[simp]theorem Ac (ns:List Bool):qU (ns.map PyData.bool)=some ns:=by
 induction ns with
 |nil=>rfl
 |cons n ns ih=>rw[aq3,qU,ih];rfl
def TQ:Dat->Out Dat
 |.list ds=>match intsOf ds with
  |some ns=>.ok (.int ns.sum)
  |none=>.bad
 |_=>.bad
def Fq:Int->List Int->Int
 |m,[]=>m
 |m,n::ns=>Fq (if n > m then n else m) ns
theorem Ea:∀(ns:List Int) (m:Int),(Fq m ns∈m::ns)/\∀y∈m::ns,y<=Fq m ns
 |[],m=>⟨by simp[Fq],fun y h=>by simp at h;subst h;exact Int.le_refl _⟩
 |n::ns,m=>by
  obtain⟨h1,h2⟩:=Ea ns (if n > m then n else m)
  have hm:m<=(if n > m then n else m):=by split <;> omega
  have hn:n<=(if n > m then n else m):=by split <;> omega
  have h3:=h2 _ aq4
  refine⟨?_,fun y hy=>?_⟩
  ·show Fq (if n > m then n else m) ns∈_
   rcases arh.mp h1 with e|e
   ·rw[e]
    split
    ·exact aq5 _ aq4
    ·exact aq4
   ·exact aq5 _ (aq5 _ e)
  ·show y<=Fq (if n > m then n else m) ns
   rcases arh.mp hy with e|hy
   ·omega
   ·rcases arh.mp hy with e|hy
    ·omega
    ·exact h2 y (aq5 _ hy)
def maxD:Dat->Out Dat
 |.list ds=>match intsOf ds with
  |some (n::ns)=>.ok (.int (Fq n ns))
  |_=>.bad
 |_=>.bad
def Jp:Dat->Out Dat
 |.list ds=>match qU ds with
  |some bs=>.ok (.bool (bs.all id))
  |none=>.bad
 |_=>.bad
def Qg:Dat->Out Dat
 |.list ds=>match qU ds with
  |some bs=>.ok (.bool (bs.any id))
  |none=>.bad
 |_=>.bad
def lN:Dat->Out Dat
 |.list ds=>.ok (.tuple ds)
 |.tuple ds=>.ok (.tuple ds)
 |_=>.bad
def M7:Dat->Out Dat
 |.list ds=>.ok (.list ds)
 |.tuple ds=>.ok (.list ds)
 |_=>.bad
def intD:Dat->Out Dat
 |.int i=>.ok (.int i)
 |.bool k=>.ok (.int (if k then 1 else 0))
 |.str x=>Out.when (decide (x.length<=640)) (match PySem.intText? x with
  |some n=>.ok (.int n)
  |none=>.bad)
 |_=>.bad
def agf(K:aqZ):List V->Hp->VK->Prop:=fun xs H Q=>(∃p ys,xs=[.ref p]/\(SqL K H p ys∨SqT K H p ys)/\Q (.int ys.length) H)∨∃z,xs=[.str z]/\z.length<=sizeLine/\Q (.int z.length) H
theorem aiQ{X:Cx}:CallR X (.builtin "len") (agf X.K):=fun pins s σ H xs us Q I r h=>h.elim (fun h=>call_len_seq pins s σ H xs us Q I r h) fun h=>call_len_str pins s σ H xs us Q I r h
def ago:List V->Hp->VK->Prop:=fun xs H Q=>((∃i,xs=[.int i]/\Q (.int i) H)∨∃k,xs=[.bl k]/\Q (.int (if k then 1 else 0)) H)∨∃a n,xs=[.str a]/\PySem.intText? a=some n/\a.length<=640/\Q (.int n) H
theorem ak9{X:Cx}:CallR X (.type "int") ago:=fun pins s σ H xs us Q I r h=>h.elim (fun h=>call_int1 pins s σ H xs us Q I r h) fun h=>call_int_str pins s σ H xs us Q I r h
section
variable{K:aqZ}{aj:aQ}{W:WX}
theorem ak1:JN aj K W pF (agf K):=fun σ g H x d Q k rx h=>by
 unfold pF at h
 split at h
 ·obtain⟨p,us,rfl,h1,h2⟩:=jh rx
  rw[←h2.length]at h
  exact .inl ⟨p,us,rfl,.inl h1,h _ H (Ex.refl H) (.int _)⟩
 ·obtain⟨p,us,rfl,h1,h2⟩:=lK rx
  rw[←h2.length]at h
  exact .inl ⟨p,us,rfl,.inr h1,h _ H (Ex.refl H) (.int _)⟩
 ·obtain⟨hz,h⟩:=h.pJ
  cases jU rx
  exact .inr ⟨_,rfl,sz_of (of_decide_eq_true hz),h _ H (Ex.refl H) (.int _)⟩
 ·exact False.elim h
theorem aj7:JN aj K W U0 (fun xs H Q=>∃i,xs=[.int i]/\Q (.int (if i < 0 then -i else i)) H):=fun σ g H x d Q k rx h=>by
 unfold U0 at h
 split at h
 ·cases cG rx
  exact⟨_,rfl,h _ H (Ex.refl H) (.int _)⟩
 ·exact False.elim h
theorem ahM:Fn2 aj K W sU (fun xs H Q=>∃i j,xs=[.int i,.int j]/\Q (.int (if j > i then j else i)) H):=fun σ g H x y d e Q k rx ry h=>by
 unfold sU at h
 split at h
 ·cases cG rx;cases cG ry
  exact⟨_,_,rfl,h _ H (Ex.refl H) (.int _)⟩
 ·exact False.elim h
theorem agU:Fn2 aj K W Jt (fun xs H Q=>∃i j,xs=[.int i,.int j]/\Q (.int (if j < i then j else i)) H):=fun σ g H x y d e Q k rx ry h=>by
 unfold Jt at h
 split at h
 ·cases cG rx;cases cG ry
  exact⟨_,_,rfl,h _ H (Ex.refl H) (.int _)⟩
 ·exact False.elim h
theorem aiL:JN aj K W TQ (rSum K):=fun σ g H x d Q k rx h=>by
 unfold TQ at h
 split at h
 ·split at h
  ·next ns e=>
   obtain⟨p,us,rfl,h1,h2⟩:=jh rx
   have:=Jf h2 e
   subst this
   exact⟨p,ns,rfl,h1,h _ H (Ex.refl H) (.int _)⟩
  ·exact False.elim h
 ·exact False.elim h
theorem akA:JN aj K W maxD (rMax K):=fun σ g H x d Q k rx h=>by
 unfold maxD at h
 split at h
 ·split at h
  ·next n ns e=>
   obtain⟨p,us,rfl,h1,h2⟩:=jh rx
   have:=Jf h2 e
   subst this
   obtain⟨m1,m2⟩:=Ea ns n
   refine⟨p,n::ns,rfl,h1,by simp,fun m hm hy=>?_⟩
   have e2:m=Fq n ns:=Int.le_antisymm (m2 m hm) (hy _ m1)
   rw[e2]
   exact h _ H (Ex.refl H) (.int _)
  ·exact False.elim h
 ·exact False.elim h
theorem akO:JN aj K W Jp (rAll K):=fun σ g H x d Q k rx h=>by
 unfold Jp at h
 split at h
 ·split at h
  ·next ns e=>
   obtain⟨p,us,rfl,h1,h2⟩:=jh rx
   have:=K7 h2 e
   subst this
   exact⟨p,ns,rfl,h1,h _ H (Ex.refl H) (.bl _)⟩
  ·exact False.elim h
 ·exact False.elim h
theorem ajg:JN aj K W Qg (rAny K):=fun σ g H x d Q k rx h=>by
 unfold Qg at h
 split at h
 ·split at h
  ·next ns e=>
   obtain⟨p,us,rfl,h1,h2⟩:=jh rx
   have:=K7 h2 e
   subst this
   exact⟨p,ns,rfl,h1,h _ H (Ex.refl H) (.bl _)⟩
  ·exact False.elim h
 ·exact False.elim h
theorem afX:JN aj K W lN (fun xs H Q=>∃p ys,xs=[.ref p]/\((SqL K H p ys/\∀l,H l=none->Q (.ref l) (upd H l (.tup ys)))∨(SqT K H p ys/\Q (.ref p) H))):=fun σ g H x d Q k rx h=>by
 unfold lN at h
 split at h
 ·obtain⟨p,us,rfl,h1,h2⟩:=jh rx
  exact⟨p,us,rfl,.inl ⟨h1,fun l nl=>h _ _ (Ex.new nl) (.tup (st_of upd_same) (h2.ex (Ex.new nl) k))⟩⟩
 ·obtain⟨p,us,rfl,h1,h2⟩:=lK rx
  exact⟨p,us,rfl,.inr ⟨h1,h _ H (Ex.refl H) (.tup h1 h2)⟩⟩
 ·exact False.elim h
theorem agB:JN aj K W M7 (fun xs H Q=>∃p ys,xs=[.ref p]/\(SqL K H p ys∨SqT K H p ys)/\∀l,H l=none->Q (.ref l) (upd H l (.lst ys))):=fun σ g H x d Q k rx h=>by
 unfold M7 at h
 split at h
 ·obtain⟨p,us,rfl,h1,h2⟩:=jh rx
  exact⟨p,us,rfl,.inl h1,fun l nl=>h _ _ (Ex.new nl) (.lst (.inl ⟨.inl upd_same,k.fresh nl⟩) (h2.ex (Ex.new nl) k))⟩
 ·obtain⟨p,us,rfl,h1,h2⟩:=lK rx
  exact⟨p,us,rfl,.inr h1,fun l nl=>h _ _ (Ex.new nl) (.lst (.inl ⟨.inl upd_same,k.fresh nl⟩) (h2.ex (Ex.new nl) k))⟩
 ·exact False.elim h
theorem akM:JN aj K W intD ago:=fun σ g H x d Q k rx h=>by
 unfold intD at h
 split at h
 ·cases cG rx
  exact .inl (.inl ⟨_,rfl,h _ H (Ex.refl H) (.int _)⟩)
 ·cases DR rx
  exact .inl (.inr ⟨_,rfl,h _ H (Ex.refl H) (.int _)⟩)
 ·obtain⟨hz,h⟩:=h.pJ
  split at h
  ·next n e=>
   cases jU rx
   exact .inr ⟨_,n,rfl,e,of_decide_eq_true hz,h _ H (Ex.refl H) (.int _)⟩
  ·exact False.elim h
 ·exact False.elim h
end
inductive NT where
 |int|bool|str|tuple|list
def NT.name:NT->String
 |.int=>"int"
 |.bool=>"bool"
 |.str=>"str"
 |.tuple=>"tuple"
 |.list=>"list"
def Bs(t:NT):Dat->Option Bool
 |.none=>some false
 |.int _=>some (match t with
  |.int=>true
  |_=>false)
 |.bool _=>some (match t with
  |.int=>true
  |.bool=>true
  |_=>false)
 |.str _=>some (match t with
  |.str=>true
  |_=>false)
 |.tuple _=>some (match t with
  |.tuple=>true
  |_=>false)
 |.list _=>some (match t with
  |.list=>true
  |_=>false)
 |.dict _=>none
def zq(t:NT)(d:Dat):Out Dat:=match Bs t d with
 |some b=>.ok (.bool b)
 |none=>.bad
def akm:Dat->String
 |.none=>"NoneType"
 |.int _=>"int"
 |.bool _=>"bool"
 |.str _=>"str"
 |.tuple _=>"tuple"
 |.list _=>"list"
 |.dict _=>"dict"
theorem aiC{K:aqZ}{H:Hp}{a:Addr}{xs:List V}(h:SqL K H a xs):TyX K H (.ref a) (.type "list"):=by
 rcases h with(h|⟨o,h⟩)|⟨o,its,n,h1,h2,_⟩
 ·exact .base (.lst h)
 ·exact .base (.frz h)
 ·exact .kList h1 h2
theorem akq{K:aqZ}{H:Hp}{a:Addr}{xs:List V}(h:SqT K H a xs):TyX K H (.ref a) (.type "tuple"):=by
 rcases h with(h|⟨o,h⟩)|⟨o,its,n,h1,h2,_⟩
 ·exact .base (.tup h)
 ·exact .fTuple h
 ·exact .kTuple h1 h2
theorem alY{K:aqZ}{g:Gh}{H:Hp}{x:V}{d:Dat}(h:eE K g H x d)(hd:∀kv,d≠.dict kv):TyX K H x (.type (akm d)):=by
 cases d with
 |none=>cases Gf h;exact .base .non
 |bool b=>cases DR h;exact .base (.bl _)
 |int b=>cases cG h;exact .base (.int _)
 |str b=>cases jU h;exact .base (.str _)
 |list b=>obtain⟨a,us,rfl,h1,_⟩:=jh h;exact aiC h1
 |tuple b=>obtain⟨a,us,rfl,h1,_⟩:=lK h;exact akq h1
 |dict kv=>exact absurd rfl (hd kv)
theorem aap{K:aqZ}:PySem.W.kitOne K (.type "int") (.type "int")=some true:=kit_ty (by decide +kernel)
theorem YZ{K:aqZ}:PySem.W.kitOne K (.type "int") (.type "bool")=some false:=kit_ty (by decide +kernel)
theorem aax{K:aqZ}:PySem.W.kitOne K (.type "int") (.type "str")=some false:=kit_ty (by decide +kernel)
theorem Xd{K:aqZ}:PySem.W.kitOne K (.type "int") (.type "tuple")=some false:=kit_ty (by decide +kernel)
theorem YX{K:aqZ}:PySem.W.kitOne K (.type "int") (.type "list")=some false:=kit_ty (by decide +kernel)
theorem ZJ{K:aqZ}:PySem.W.kitOne K (.type "bool") (.type "int")=some true:=kit_ty (by decide +kernel)
theorem W0{K:aqZ}:PySem.W.kitOne K (.type "bool") (.type "bool")=some true:=kit_ty (by decide +kernel)
theorem YM{K:aqZ}:PySem.W.kitOne K (.type "bool") (.type "str")=some false:=kit_ty (by decide +kernel)
theorem UW{K:aqZ}:PySem.W.kitOne K (.type "bool") (.type "tuple")=some false:=kit_ty (by decide +kernel)
theorem W9{K:aqZ}:PySem.W.kitOne K (.type "bool") (.type "list")=some false:=kit_ty (by decide +kernel)
theorem aam{K:aqZ}:PySem.W.kitOne K (.type "str") (.type "int")=some false:=kit_ty (by decide +kernel)
theorem YT{K:aqZ}:PySem.W.kitOne K (.type "str") (.type "bool")=some false:=kit_ty (by decide +kernel)
theorem aao{K:aqZ}:PySem.W.kitOne K (.type "str") (.type "str")=some true:=kit_ty (by decide +kernel)
theorem Xj{K:aqZ}:PySem.W.kitOne K (.type "str") (.type "tuple")=some false:=kit_ty (by decide +kernel)
theorem Z4{K:aqZ}:PySem.W.kitOne K (.type "str") (.type "list")=some false:=kit_ty (by decide +kernel)
theorem Xc{K:aqZ}:PySem.W.kitOne K (.type "tuple") (.type "int")=some false:=kit_ty (by decide +kernel)
theorem T9{K:aqZ}:PySem.W.kitOne K (.type "tuple") (.type "bool")=some false:=kit_ty (by decide +kernel)
theorem Xh{K:aqZ}:PySem.W.kitOne K (.type "tuple") (.type "str")=some false:=kit_ty (by decide +kernel)
theorem RW{K:aqZ}:PySem.W.kitOne K (.type "tuple") (.type "tuple")=some true:=kit_ty (by decide +kernel)
theorem Vf{K:aqZ}:PySem.W.kitOne K (.type "tuple") (.type "list")=some false:=kit_ty (by decide +kernel)
theorem Zq{K:aqZ}:PySem.W.kitOne K (.type "list") (.type "int")=some false:=kit_ty (by decide +kernel)
theorem WY{K:aqZ}:PySem.W.kitOne K (.type "list") (.type "bool")=some false:=kit_ty (by decide +kernel)
theorem ZL{K:aqZ}:PySem.W.kitOne K (.type "list") (.type "str")=some false:=kit_ty (by decide +kernel)
theorem U5{K:aqZ}:PySem.W.kitOne K (.type "list") (.type "tuple")=some false:=kit_ty (by decide +kernel)
theorem WL{K:aqZ}:PySem.W.kitOne K (.type "list") (.type "list")=some true:=kit_ty (by decide +kernel)
theorem Pj{K:aqZ}:PySem.W.kitOne K (.type "NoneType") (.type "int")=some false:=kit_ty (by decide +kernel)
theorem Nz{K:aqZ}:PySem.W.kitOne K (.type "NoneType") (.type "bool")=some false:=kit_ty (by decide +kernel)
theorem Ou{K:aqZ}:PySem.W.kitOne K (.type "NoneType") (.type "str")=some false:=kit_ty (by decide +kernel)
theorem Lz{K:aqZ}:PySem.W.kitOne K (.type "NoneType") (.type "tuple")=some false:=kit_ty (by decide +kernel)
theorem Nv{K:aqZ}:PySem.W.kitOne K (.type "NoneType") (.type "list")=some false:=kit_ty (by decide +kernel)
theorem ahp{K:aqZ}{t:NT}{d:Dat}{b:Bool}(h:Bs t d=some b):PySem.W.kitOne K (.type (akm d)) (.type t.name)=some b/\∀kv,d≠.dict kv:=by
 cases d with
 |dict kv=>cases h
 |none=>
  refine⟨?_,fun _ z=>nomatch z⟩
  cases t <;> cases h
  ·exact Pj
  ·exact Nz
  ·exact Ou
  ·exact Lz
  ·exact Nv
 |bool x=>
  refine⟨?_,fun _ z=>nomatch z⟩
  cases t <;> cases h
  ·exact ZJ
  ·exact W0
  ·exact YM
  ·exact UW
  ·exact W9
 |int x=>
  refine⟨?_,fun _ z=>nomatch z⟩
  cases t <;> cases h
  ·exact aap
  ·exact YZ
  ·exact aax
  ·exact Xd
  ·exact YX
 |str x=>
  refine⟨?_,fun _ z=>nomatch z⟩
  cases t <;> cases h
  ·exact aam
  ·exact YT
  ·exact aao
  ·exact Xj
  ·exact Z4
 |list x=>
  refine⟨?_,fun _ z=>nomatch z⟩
  cases t <;> cases h
  ·exact Zq
  ·exact WY
  ·exact ZL
  ·exact U5
  ·exact WL
 |tuple x=>
  refine⟨?_,fun _ z=>nomatch z⟩
  cases t <;> cases h
  ·exact Xc
  ·exact T9
  ·exact Xh
  ·exact RW
  ·exact Vf
def wY(t:NT)(a:QF):QF:=fj (zq t) a
section
variable{X:Cx}{aj:aQ}{W:WX}{a b:Expr}{fa:QF}{pos p p2:Pos}{x y:Str}
theorem akc{t:NT}(hg:Gl X x)(hm:X.mg x=none)(hv:BV (.builtin "isinstance") x)(hg2:Gl X y)(hm2:X.mg y=none)(hv2:BV (.type t.name) y)(ha:QW aj X W a fa)(hs:nst a=true):QE aj X W (.Call (.Name x p) [a,.Name y p2] [] pos) (wY t fa):=by
 have hb:PE X (.Name y p2) (tC (.ty t.name)):=pe_bltn hg2 hm2 hv2.1 rfl hv2.2.1 hv2.2.2
 have h1:=pa_cons ha (pa_cons hb pa_nil (cH (a:=.Name y p2) rfl [])) (cH hs [.Name y p2])
 have key:=pe_callB (pos:=pos) (p:=p) call_isi hg hm hv.1 h1 hv.2.1 hv.2.2 (cH hs [.Name y p2]) (star_any [.Name y p2] rfl)
 refine PE.weak key fun σ H Q ⟨g,ρ,M,I,h⟩=>?_
 refine tW.go I h.bnd fun d v H1 h1 e1 r1=>?_
 unfold zq at h1
 split at h1
 ·next bb e=>
  obtain⟨k1,k2⟩:=ahp (K:=X.K) e
  exact⟨v,_,_,_,bb,rfl,.ty _,alY r1 k2,k1,h1 _ H1 e1 (.bl _)⟩
 ·exact False.elim h1
end
inductive Src where
 |lst (a:Addr)|tup (a:Addr)|str (x:Str)
def chars(x:Str):List V:=x.cps.toList.map fun c=>V.str ⟨#[c]⟩
def Src.sq(K:aqZ)(H:Hp)(us:List V):Src->Prop
 |.lst a=>SqL K H a us
 |.tup a=>SqT K H a us
 |.str x=>us=chars x
def Src.it(h:Heap)(i:Addr)(n:Nat):Src->Prop
 |.lst a=>h.IsListIter i a n
 |.tup a=>h.IsTupleIter i a n
 |.str x=>∃t,h.IsStrIter i (strIterType x) x t n
def Src.ad:Src->List Addr
 |.lst a=>[a]
 |.tup a=>[a]
 |.str _=>[]
section
variable{X:Cx}{pins:List (Addr×Obj)}{σ:L2.St}{H:Hp}{s:Shared}
theorem Src.inj{S:Src}{us ws:List V}(I:L2.Inv X pins σ H s)(h:S.sq X.K H us)(h':S.sq X.K H ws):us=ws:=by
 cases S with
 |lst a=>exact I.list_inj h h'
 |tup a=>exact I.tuple_inj h h'
 |str x=>exact Eq.trans h (Eq.symm h')
theorem Src.draws{S:Src}{us:List V}{i:Addr}{n:Nat}(I:L2.Inv X pins σ H s)(hA:X.A.handled=none)(hs:S.sq X.K H us)(hi:S.it s.heap i n)(hne:∀a∈S.ad,a≠i) :
  ∃(P:Nat->Value->Prop) (St:Nat->Heap->Prop),Draws X.prog X.w X.A.in1 i (i::S.ad) us.length P St/\St n s.heap/\(∀m h,St m h->S.it h i m)/\∀(m:Nat) (v:Value) (x:V),P m v->us[m]?=some x->RelV x v:=by
 cases S with
 |lst a=>
  obtain⟨its,rv,p,hz⟩:=I.list hs
  have hl:=rv.length
  have D:=Draws.list (prog:=X.prog) (w:=X.w) (A:=X.A.in1) hA i a (hne a (by simp[Src.ad])) its.toArray
  rw[aso,←hl]at D
  refine⟨_,_,D,⟨hi,p.isList⟩,fun m h z=>z.1,fun m v x hv hx=>?_⟩
  obtain⟨u,hu,ru⟩:=rv.get hx
  have:v=u:=arn (hv.symm.trans (by simpa using hu))
  rw[this]
  exact ru
 |tup a=>
  obtain⟨its,rv,p,hz⟩:=I.tuple hs
  have hl:=rv.length
  have D:=Draws.tuple (prog:=X.prog) (w:=X.w) (A:=X.A.in1) hA i a (hne a (by simp[Src.ad])) its.toArray
  rw[aso,←hl]at D
  refine⟨_,_,D,⟨hi,p⟩,fun m h z=>z.1,fun m v x hv hx=>?_⟩
  obtain⟨u,hu,ru⟩:=rv.get hx
  have:v=u:=arn (hv.symm.trans (by simpa using hu))
  rw[this]
  exact ru
 |str x=>
  obtain⟨t,hi⟩:=hi
  have hl:us.length=x.cps.size:=by
   rw[show us=chars x from hs]
   unfold chars
   rw[aq9,arH]
  have D:=Draws.text (prog:=X.prog) (w:=X.w) (A:=X.A.in1) hA i x t
  rw[←hl]at D
  refine⟨_,_,D,hi,fun m h z=>⟨t,z⟩,fun m v y hv hy=>?_⟩
  obtain⟨c,u,hc,rfl⟩:=hv
  rw[show us=chars x from hs]at hy
  unfold chars at hy
  rw[ard,arS,hc]at hy
  cases hy
  exact⟨u,rfl⟩
theorem Src.Mv{S:Src}{h:Heap}{i:Addr}{n:Nat}(hi:S.it h i n):∃o,h.get? i=some o/\∀v,o.data≠.cell v:=by
 cases S with
 |lst a=>obtain⟨o,e,_,d⟩:=hi;exact⟨o,e,fun v q=>by rw[d]at q;cases q⟩
 |tup a=>obtain⟨o,e,_,d⟩:=hi;exact⟨o,e,fun v q=>by rw[d]at q;cases q⟩
 |str x=>obtain⟨t,o,e,_,d⟩:=hi;exact⟨o,e,fun v q=>by rw[d]at q;cases q⟩
theorem Src.MP{S:Src}{h h':Heap}{i:Addr}{n:Nat}(hi:S.it h i n)(k:∀o,h.get? i=some o->h'.get? i=some o):S.it h' i n:=by
 cases S with
 |lst a=>exact hi.at k
 |tup a=>exact hi.at k
 |str x=>obtain⟨t,o,e,r⟩:=hi;exact⟨t,o,k o e,r⟩
end
def ItE(K:aqZ)(S:Src)(k₀:Int):It:=
 ⟨fun i H=>∃(us:List V) (x:V),S.sq K H us/\us[i]?=some x,fun i H v H'=>∃T x,v=.ref T/\H T=none/\H'=upd H T (.tup [.int (k₀+(i:Int)),x])/\∀us,S.sq K H us->us[i]?=some x,fun i H=>∃us:List V,S.sq K H us/\us.length=i⟩
theorem amd{P:Program}{w:World}{K:aqZ}{elts:List Expr}{kk:Nat}{tpos:Pos}(S:Src)(e i0:Addr)(k₀:Int)(hne:e≠i0)(ha:∀a∈S.ad,e≠a/\a≠i0) :
  Turn P w K (.Tuple elts kk tpos) (ItE K S k₀) [e,i0] e (fun i h=>(∃old,IsEnum h e i0 (k₀+(i:Int)) old)/\S.it h i0 i) where
 mem:=by simp
 obj:=fun i h st b hb=>by
  obtain⟨⟨old,he⟩,hi⟩:=st
  have e':b=e∨b=i0:=by simpa using hb
  rcases e' with z|z
  ·rw[z];exact⟨_,he,fun v q=>nomatch q⟩
  ·rw[z];exact Src.Mv hi
 keep:=fun i h h' st k=>let ⟨⟨old,he⟩,hi⟩:=st;⟨⟨old,k e (by simp) _ he⟩,Src.MP hi fun o q=>k i0 (by simp) o q⟩
 item:=by
  intro X hP hw hK hc i pins s σ H E I hf st hg
  subst hP hw hK
  obtain⟨⟨old,he⟩,hit⟩:=st
  obtain⟨us,x,hq,hx⟩:=hg
  obtain⟨PP,St,D,st0,stI,rel⟩:=Src.draws I (I.ok.hd hc) hq hit fun a z=>(ha a z).2
  have hel:e < s.heap.objs.size:=Heap.lt_size he
  have hil:i0 < s.heap.objs.size:=by obtain⟨_,q,_⟩:=Src.Mv hit;exact Heap.lt_size q
  have hin:i < us.length:=(aq1.mp hx).1
  refine wpAny_pyNext_enum_itemC D he st0 hin hne (fun z=>?_) fun v h' tk hP ho hst' hT hsz hk=>?_
  ·rcases arh.mp z with z|z
   ·exact hne z
   ·exact(ha e z).1 rfl
  have ru:=rel i v x hP hx
  refine⟨_,rfl,wpAny_letOwnedTupleGo_enum (s:={ s with heap:=h',toks:=tk+1 }) ho fun h'' he' sb=>?_⟩
  have hT2:h''.get? s.heap.objs.size=some { cls:=.type "tuple",data:=.seq #[.int (k₀+(i:Int)) tk,v] }:=(sb.2 _ (Nat.ne_of_gt hel)).trans hT
  have new:ObjOk X.prog X.w (upd H s.heap.objs.size (.tup [.int (k₀+(i:Int)),x])) h'' s.heap.objs.size (.tup [.int (k₀+(i:Int)),x]):=
   ⟨by show 2<=sizeLine;decide,[.int (k₀+(i:Int)) tk,v],.cons ⟨_,rfl⟩ (.cons ru .nil),⟨_,hT2,rfl,_,rfl⟩⟩
  have I1:L2.Inv X pins σ (upd H s.heap.objs.size (.tup [.int (k₀+(i:Int)),x])) { s with heap:=h'',toks:=tk+1 }:=
   I.turnedNew (ch:=[e,i0]) (fun b ob hb q=>(sb.2 b (fun z=>hb (by simp[z]))).trans (hk b ob (fun z=>hb (by simp[z])) (fun z=>hb (by simp[z])) q)) hf (aru _) new
  refine⟨.ref s.heap.objs.size,_,I1,rfl,⟨_,x,rfl,I.hok.fresh (aru _),rfl,fun ys hy=>by rw[Src.inj I hy hq];exact hx⟩,⟨⟨v,?_⟩,Src.MP (stI _ _ hst') fun o q=>(sb.2 i0 (Ne.symm hne)).trans q⟩,fun b hb=>?_⟩
  ·have e1:k₀+((i+1:Nat):Int)=k₀+(i:Int)+1:=by omega
   rw[e1];exact he'
  ·have hb':b < s.heap.objs.size:=by
    have e':b=e∨b=i0:=by simpa using hb
    rcases e' with z|z
    ·rw[z];exact hel
    ·rw[z];exact hil
   rw[upd_ne (arF hb')]
   exact(hf b hb).1
 done:=by
  intro X hP hw hK hc i pins s σ H E I hf st hg
  subst hP hw hK
  obtain⟨⟨old,he⟩,hit⟩:=st
  obtain⟨us,hq,hx⟩:=hg
  obtain⟨PP,St,D,st0,stI,rel⟩:=Src.draws I (I.ok.hd hc) hq hit fun a z=>(ha a z).2
  obtain⟨f0,f1,f2,f3,f4,f5⟩:=hf i0 (by simp)
  rw[←hx]at st0
  exact wpAny_pyNext_enum_endD D he st0 fun h' eb=>⟨rfl,I.turned (t':=s.toks) (fun b o hb q=>eb b o hb q) f0 f1 f3 f4 f5⟩
 self:=fun A i s Q E st h=>let ⟨⟨_,he⟩,_⟩:=st;wpAny_pyIter_enum he h
theorem Src.begins{X:Cx}{pins:List (Addr×Obj)}{σ:L2.St}{H:Hp}{s:Shared}{S:Src}{us:List V}{x:V}{v:Value}(I:L2.Inv X pins σ H s)(hs:S.sq X.K H us)(hx:(∃a,x=.ref a/\S.ad=[a]/\(S=.lst a∨S=.tup a))∨∃y,S=.str y/\x=.str y)(r:RelV x v) :
  ∃(o:Obj) (B:Heap->Prop),Begins v o B/\B s.heap/\(∀h i,h.get? i=some o->S.it h i 0)/\∀a∈S.ad,a < s.heap.objs.size:=by
 rcases hx with⟨a,rfl,ha,h|h⟩|⟨y,h,rfl⟩
 ·subst h
  cases r
  obtain⟨its,rv,p,_⟩:=I.list hs
  obtain⟨o1,ho1,_⟩:=id p.isList
  refine⟨_,_,begins_list a its.toArray,p.isList,fun h i e=>⟨_,e,rfl,rfl⟩,fun b hb=>?_⟩
  rw[ha]at hb
  rw[aq7.mp hb]
  exact Heap.lt_size ho1
 ·subst h
  cases r
  obtain⟨its,rv,p,_⟩:=I.tuple hs
  obtain⟨o1,ho1,_⟩:=id p
  refine⟨_,_,begins_tuple a its.toArray,p,fun h i e=>⟨_,e,rfl,rfl⟩,fun b hb=>?_⟩
  rw[ha]at hb
  rw[aq7.mp hb]
  exact Heap.lt_size ho1
 ·subst h
  obtain⟨t,rfl⟩:=r
  exact⟨_,_,begins_text y t,trivial,fun h i e=>⟨t,_,e,rfl,rfl⟩,fun b hb=>nomatch hb⟩
def srcOf(x:V)(S:Src):Prop:=(∃a,x=.ref a/\S.ad=[a]/\(S=.lst a∨S=.tup a))∨∃y,S=.str y/\x=.str y
def iEn(K:aqZ)(ta:TA)(k₀:Int):TI:=fun σ H R=>ta σ H fun vs H1=>∃x S us,vs=[x]/\srcOf x S/\S.sq K H1 us/\R (ItE K S k₀) H1
section
variable{X:Cx}{a b:Expr}{ta tb:TA}{p pos tpos:Pos}{elts:List Expr}{kk:Nat}
theorem ajE{pins:List (Addr×Obj)}{σ:L2.St}{H:Hp}{s:Shared}(I:L2.Inv X pins σ H s):∀b∈[s.heap.objs.size+1,s.heap.objs.size],FpOk X pins H b:=fun b hb=>by
 have e':b=s.heap.objs.size+1∨b=s.heap.objs.size:=by simpa using hb
 have hle:s.heap.objs.size<=b:=by
  rcases e' with z|z
  ·rw[z];exact Nat.le_add_right _ _
  ·rw[z];exact aru _
 exact I.fpOk hle (I.hok.fresh hle)
theorem agi{pins:List (Addr×Obj)}{σ:L2.St}{H:Hp}{s:Shared}{S:Src}{us:List V}{x:V}{v:Value}{o:Obj}{k₀:Int}{R:It->Hp->Prop}{h':Heap}(I:L2.Inv X pins σ H s)(hlt:∀a∈S.ad,a < s.heap.objs.size)(hit:∀h i,h.get? i=some o->S.it h i 0)
  (he:IsEnum h' (s.heap.objs.size+1) s.heap.objs.size k₀ .none) (ho:h'.get? s.heap.objs.size=some o) (hk:∀b o,s.heap.get? b=some o->h'.get? b=some o) (q:R (ItE X.K S k₀) H) :
  wpAny (model X.prog X.w) X.A (pyIter (.ref (s.heap.objs.size+1))) (PIE X pins σ (.Tuple elts kk tpos) R) X.xe { s with heap:=h' }:=by
 refine wpAny_pyIter_enum he ?_
 have I2:L2.Inv X pins σ H { s with heap:=h' }:=I.kept (t':=s.toks) hk
 refine⟨s.heap.objs.size+1,[s.heap.objs.size+1,s.heap.objs.size],_,_,H,rfl,I2,amd S (s.heap.objs.size+1) s.heap.objs.size k₀ (Nat.succ_ne_self _) (fun a z=>?_),⟨⟨.none,?_⟩,hit _ _ ho⟩,ajE I,q⟩
 ·have:=hlt a z
  exact⟨Nat.ne_of_gt (ar3 this),arF this⟩
 ·rw[show k₀+((0:Nat):Int)=k₀ by simp]
  exact he
theorem afF{v:Value}{o:Obj}{B:Heap->Prop}(hB:Begins v o B) :
  Meets (Builtin.«enumerate.__new__» ⟨[.type "enumerate",v],[]⟩) (fun _ R s=>B s.heap/\
   R (.ok (.ret (.ref (s.heap.push o).objs.size))) { s with heap:=(s.heap.push o).push { cls:=.type "enumerate",data:=.fields #[.none,.bool false,.ref s.heap.objs.size,rawInt 0,.none,.none] } }):=
 .of_wp fun prog w A R s hh=>by
  obtain⟨hp,gs,dr,tk,os⟩:=s
  obtain⟨hb,hr⟩:=hh
  have hsub:=sub_enumerate
  have qi:∀{A':Around} {E:Value->Shared->Prop} {Q:Value->Shared->Prop},Q (.ref hp.objs.size) ⟨hp.push o,gs,dr,tk,os⟩->wpAny (model prog w) A' (pyIter v) Q E ⟨hp,gs,dr,tk,os⟩:=fun z=>hB.iter prog w _ _ ⟨hp,gs,dr,tk,os⟩ _ hb z
  wp_walk using qi
  refine wpAny_stack_any fun st=>wpAny_pure ?_
  split
  ·next c _ _ _ _ _=>
   cases(c==Value.type "enumerate") <;> (wp_walk using qi;exact⟨_,rfl,hr⟩)
  ·wp_walk using qi
   exact⟨_,rfl,hr⟩
theorem ac5{prog:Program}{w:World}{A:Around}{E:Value->Shared->Prop}{s:Shared}{v:Value}{o:Obj}{B:Heap->Prop}{Q:Value->Shared->Prop}(hB:Begins v o B)(hb:B s.heap)
  (h:∀h',IsEnum h' (s.heap.objs.size+1) s.heap.objs.size 0 .none->h'.get? s.heap.objs.size=some o->(∀b o,s.heap.get? b=some o->h'.get? b=some o)->Q (.ref (s.heap.objs.size+1)) { s with heap:=h' }) :
  wpAny (model prog w) A (call (.type "enumerate") [v]) Q E s:=by
 refine callType_new F.called_enumerate (by decide) (F.typeCall_enumerate_1 _) (F.newCall_enumerate_1 _) (fun ob=>F.args_object_init_2 ob _) F.entry_enumerate_new (afF hB) ⟨hb,?_⟩
 have hz:(s.heap.push o).objs.size=s.heap.objs.size+1:=Heap.size_push ..
 have he:=Heap.get?_push_size (s.heap.push o) (o:={ cls:=.type "enumerate",data:=.fields #[.none,.bool false,.ref s.heap.objs.size,rawInt 0,.none,.none] }) rfl
 show _/\_
 rw[hz]at he ⊢
 exact⟨⟨_,he,rfl⟩,h _ he (Heap.get?_push_of_some _ (Heap.get?_push_size _ hB.free)) fun b u z=>Heap.get?_push_of_some _ (Heap.get?_push_of_some _ z)⟩
theorem alu(hg:Gl X "enumerate")(hm:X.mg "enumerate"=none)(ha:PA X [a] ta)(hs:nst a=true):PI X (.Tuple elts kk tpos) (.Call (.Name "enumerate" p) [a] [] pos) (iEn X.K ta 0):=by
 refine⟨fun pins s σ H R I h=>?_⟩
 refine Call_ (ld_blt I hg hm boot_enumerate (PyProof.Rows.callWith_type1 (thn (ha.run pos pins s σ H _ I h) fun us s1 ⟨vs,H1,I1,r1,x,S,us',ev,hx,hq,q⟩=>?_) (cH hs []) (by with_unfolding_all rfl)))
 subst ev
 obtain⟨v,rfl,r⟩:=vals1 r1
 obtain⟨o,B,hB,hb,hit,hlt⟩:=Src.begins I1 hq hx r
 exact ac5 hB hb fun h' he ho hk=>agi (x:=x) (v:=v) (us:=us') I1 hlt hit he ho hk q
theorem acP{M:Model}{A:Around}{E:Value->Shared->Prop}{s:Shared}{pos:Pos}{T:String}{args:List (Bool×Sem Value)}{kws:List (Option Str×Sem Value)}{Q:Value->Shared->Prop}(h1:args.any (·.1)=false)(h2:kws.any (·.1.isNone)=false)
  (h:wpAny M A (evalArgs (.type T) true args kws) (fun z s₁=>wpAny M A (call (.type T) z.pos z.kw) Q E s₁) E s):wpAny M A (callWith pos (.type T) [] args kws) Q E s:=by
 unfold callWith
 refine wpAny_bind (wpAny_holding (wpAny_mono h (fun z s₁ hz=>wpAny_bind (wpAny_standAt ?_)) fun _ _ y=>y))
 rw[h1,h2]
 refine wpAny_bind (wpAny_pure ?_)
 exact wpAny_bind (wpAny_mono hz (fun r s₂ hr=>wpAny_bind (wpAny_holding (wpAny_point (wpAny_pure hr)))) fun _ _ y=>y)
theorem aj5{k₀:Int}{j:Nat}{kp kp2:Pos}(hk0 : -(2 ^ 63)<=k₀)(hk1:k₀ < 2 ^ 63)(hg:Gl X "enumerate")(hm:X.mg "enumerate"=none)(ha:PA X [a] ta)(hs:nst a=true) :
  PI X (.Tuple elts kk tpos) (.Call (.Name "enumerate" p) [a] [⟨some "start",.Constant (.int k₀) j kp,kp2⟩] pos) (iEn X.K ta k₀):=by
 refine⟨fun pins s σ H R I h=>?_⟩
 have hpk:PK X [⟨some "start",.Constant (.int k₀) j kp,kp2⟩] (tCons (tC (.int k₀)) tNil):=pk_cons pe_int pk_nil
 refine wpAny_Call_Name_kw (ld_blt I hg hm boot_enumerate (acP (star_any [a] (by simp[hs])) (by with_unfolding_all rfl) ?_))
 refine PyProof.Rows.evalArgs_kw2 (by with_unfolding_all rfl) (thn (ha.run pos pins s σ H _ I h) fun us s1 ⟨vs,H1,I1,r1,x,S,us',ev,hx,hq,q⟩=>?_) (by first | (rw[cH hs];done) | (rw[cH hs];rfl) | rw[cH hs])
 refine thn (hpk.run pos pins s1 σ H1 (fun zs H2=>zs=[.int k₀]/\H2=H1) I1 ⟨rfl,rfl⟩) fun ws s2 ⟨zs,H2,I2,r2,e1,e2⟩=>?_
 subst ev e1 e2
 obtain⟨v,rfl,r⟩:=vals1 r1
 obtain⟨w,rfl,t,rfl⟩:=vals1 r2
 obtain⟨o,B,hB,hb,hit,hlt⟩:=Src.begins I2 hq hx r
 exact enum_begins_start hB hb hk0 hk1 fun h' he ho _ hk=>agi (x:=x) (v:=v) (us:=us') I2 hlt hit he ho hk q
def ItZ(K:aqZ)(S T:Src):It:=
 ⟨fun i H=>∃(us ws:List V) (x y:V),S.sq K H us/\T.sq K H ws/\us[i]?=some x/\ws[i]?=some y,fun i H v H'=>∃U x y,v=.ref U/\H U=none/\H'=upd H U (.tup [x,y])/\(∀us,S.sq K H us->us[i]?=some x)/\∀ws,T.sq K H ws->ws[i]?=some y,
  fun i H=>∃us ws:List V,S.sq K H us/\T.sq K H ws/\i=min us.length ws.length⟩
theorem als{P:Program}{w:World}{K:aqZ}{S T:Src}{N:Addr}(h1:∀a∈S.ad,a < N)(h2:∀a∈T.ad,a < N) :
  Turn P w K (.Tuple elts kk tpos) (ItZ K S T) [N+4,N+2,N+3,N,N+1] (N+4) (fun n h=>IsZip h (N+4) (N+2) (N+3) .none/\IsPair h (N+2) (.ref N) (.ref (N+1))/\(∃x y,IsPair h (N+3) x y)/\S.it h N n/\T.it h (N+1) n) where
 mem:=by simp
 obj:=fun n h q c hc=>by
  obtain⟨gz,gI,⟨x,y,gO⟩,i1,i2⟩:=q
  simp only[arh,arD,or_false]at hc
  rcases hc with rfl|rfl|rfl|rfl|rfl
  ·exact⟨_,gz,fun v q=>nomatch q⟩
  ·exact⟨_,gI,fun v q=>nomatch q⟩
  ·exact⟨_,gO,fun v q=>nomatch q⟩
  ·exact Src.Mv i1
  ·exact Src.Mv i2
 keep:=fun n h h' q k=>by
  obtain⟨gz,gI,⟨x,y,gO⟩,i1,i2⟩:=q
  exact⟨k _ (by simp) _ gz,k _ (by simp) _ gI,⟨x,y,k _ (by simp) _ gO⟩,Src.MP i1 fun o e=>k _ (by simp) o e,Src.MP i2 fun o e=>k _ (by simp) o e⟩
 item:=by
  intro X hP hw hK hc n pins s σ H E I hf q hg
  subst hP hw hK
  obtain⟨gz,gI,⟨x0,y0,gO⟩,i1,i2⟩:=q
  obtain⟨us,ws,x,y,qx,qy,hx,hy⟩:=hg
  obtain⟨P1,St1,D1,st1,b1,rel1⟩:=Src.draws I (I.ok.hd hc) qx i1 fun a z=>arF (h1 a z)
  obtain⟨P2,St2,D2,st2,b2,rel2⟩:=Src.draws I (I.ok.hd hc) qy i2 fun a z=>arF (ar3 (h2 a z))
  have hzl:N+4 < s.heap.objs.size:=Heap.lt_size gz
  refine wpAny_pyNext_zipD2_item (zip_sep2 h1 h2) D1 D2 gz gI gO st1 st2 (aq1.mp hx).1 (aq1.mp hy).1 fun v1 v2 h' tk p1 p2 z' o' s1 s2 hT hsz hk=>?_
  refine⟨_,rfl,wpAny_letOwnedTupleGo_zip (s:={ s with heap:=h',toks:=tk }) z' fun h'' z'' sb=>?_⟩
  have hT2:=(sb.2 _ (Nat.ne_of_gt hzl)).trans hT
  have new:ObjOk X.prog X.w (upd H s.heap.objs.size (.tup [x,y])) h'' s.heap.objs.size (.tup [x,y]):=⟨by show 2<=sizeLine;decide,[v1,v2],.cons (rel1 n v1 x p1 hx) (.cons (rel2 n v2 y p2 hy) .nil),⟨_,hT2,rfl,_,rfl⟩⟩
  have I1:L2.Inv X pins σ (upd H s.heap.objs.size (.tup [x,y])) { s with heap:=h'',toks:=tk }:=by
   refine I.turnedNew (t':=tk) (ch:=[N+4,N+2,N+3,N,N+1]) (fun c o hb e=>?_) hf (aru _) new
   simp only[arh,arD,or_false,not_or]at hb
   exact(sb.2 c hb.1).trans (hk c o hb.1 hb.2.2.1 hb.2.2.2.1 hb.2.2.2.2 e)
  have ne4:∀k,k≠4->N+k≠N+4:=fun k hk z=>hk (asx z)
  refine⟨.ref s.heap.objs.size,_,I1,rfl,⟨_,x,y,rfl,I.hok.fresh (aru _),rfl,fun l hl=>by rw[Src.inj I hl qx];exact hx,fun l hl=>by rw[Src.inj I hl qy];exact hy⟩,⟨z'',?_,⟨v1,v2,?_⟩,?_,?_⟩,fun c hcm=>?_⟩
  ·exact(sb.2 _ (ne4 2 (by decide))).trans (hk _ _ (ne4 2 (by decide)) (fun z=>absurd (asx z) (by decide)) (fun z=>absurd (asx (z.trans (Nat.add_zero N).symm)) (by decide)) (fun z=>absurd (asx z) (by decide)) gI)
  ·exact(sb.2 _ (ne4 3 (by decide))).trans o'
  ·exact Src.MP (b1 _ _ s1) fun o e=>(sb.2 _ (ne4 0 (by decide))).trans e
  ·exact Src.MP (b2 _ _ s2) fun o e=>(sb.2 _ (ne4 1 (by decide))).trans e
  ·have hlt:c < s.heap.objs.size:=by
    simp only[arh,arD,or_false]at hcm
    rcases hcm with rfl|rfl|rfl|rfl|rfl
    ·exact hzl
    ·exact Heap.lt_size gI
    ·exact Heap.lt_size gO
    ·obtain⟨_,e1,_⟩:=Src.Mv i1
     exact Heap.lt_size e1
    ·obtain⟨_,e2,_⟩:=Src.Mv i2
     exact Heap.lt_size e2
   rw[upd_ne (arF hlt)]
   exact(hf c hcm).1
 done:=by
  intro X hP hw hK hc n pins s σ H E I hf q hg
  subst hP hw hK
  obtain⟨gz,gI,⟨x0,y0,gO⟩,i1,i2⟩:=q
  obtain⟨us,ws,qx,qy,hn⟩:=hg
  obtain⟨P1,St1,D1,st1,b1,rel1⟩:=Src.draws I (I.ok.hd hc) qx i1 fun a z=>arF (h1 a z)
  obtain⟨P2,St2,D2,st2,b2,rel2⟩:=Src.draws I (I.ok.hd hc) qy i2 fun a z=>arF (ar3 (h2 a z))
  refine wpAny_pyNext_zipD2_end (zip_sep2 h1 h2) D1 D2 gz gI gO st1 st2 (by omega) (by omega) (by omega) fun h' tk hk=>⟨rfl,?_⟩
  refine I.turnedL (t':=tk) (ch:=[N+4,N+2,N+3,N,N+1]) (fun c o hb e=>?_) hf
  simp only[arh,arD,or_false,not_or]at hb
  exact hk c o hb.1 hb.2.2.1 hb.2.2.2.1 hb.2.2.2.2 e
 self:=fun A n s Q E q h=>wpAny_pyIter_zip q.1 h
def iZp(K:aqZ)(ta:TA):TI:=fun σ H R=>ta σ H fun vs H1=>∃x y S T us ws,vs=[x,y]/\srcOf x S/\srcOf y T/\S.sq K H1 us/\T.sq K H1 ws/\R (ItZ K S T) H1
theorem alF(hg:Gl X "zip")(hm:X.mg "zip"=none)(ha:PA X [a,b] ta)(hs:nst a=true)(hs2:nst b=true):PI X (.Tuple elts kk tpos) (.Call (.Name "zip" p) [a,b] [] pos) (iZp X.K ta):=by
 refine⟨fun pins s σ H R I h=>?_⟩
 refine Call_ (ld_blt I hg hm PyProof.Rows.boot_zip (PyProof.Rows.callWith_type1 (thn (ha.run pos pins s σ H _ I h) fun us s1 ⟨vs,H1,I1,r1,x,y,S,T,us',ws',ev,hx,hy,hq,hq2,q⟩=>?_) (cH hs [b]) (star_any [b] (by simp[hs2]))))
 subst ev
 obtain⟨v1,v2,rfl,rv1,rv2⟩:=vals2 r1
 obtain⟨o1,B1,hB1,hb1,hit1,hlt1⟩:=Src.begins I1 hq hx rv1
 obtain⟨o2,B2,hB2,hb2,hit2,hlt2⟩:=Src.begins I1 hq2 hy rv2
 refine zip_begins2 hB1 hB2 hb1 hb2 fun h' hz hTI hTO e1 e2 hsz hk=>wpAny_pyIter_zip hz ?_
 have I2:L2.Inv X pins σ H1 { s1 with heap:=h' }:=I1.kept (t':=s1.toks) hk
 refine⟨s1.heap.objs.size+4,_,_,_,H1,rfl,I2,als hlt1 hlt2,⟨hz,hTI,⟨_,_,hTO⟩,hit1 _ _ e1,hit2 _ _ e2⟩,fun c hcm=>?_,q⟩
 have hle:s1.heap.objs.size<=c:=by
  simp only[arh,arD,or_false]at hcm
  rcases hcm with rfl | rfl | rfl | rfl | rfl <;> first | exact aru _ | exact Nat.le_add_right _ _
 exact I1.fpOk hle (I1.hok.fresh hle)
end
section
variable{K:aqZ}{aj:aQ}{q:Bool}{g g':Gh}{H H':Hp}{v:V}{d:Dat}{σ:L2.St}{ρ:Env}{M:Mo}
theorem jC.up{l:Addr}:∀{n:Bool} {kvs:List (Dat×Dat)} (r:Gr true g g' H H') (e:Ex H H') (k:Kd g H) (h:jC K aj g H l n kvs),jC K aj g' H' l n kvs
 |false,_,r,e,k,⟨kv,h1,h2,h3⟩=>⟨kv,e _ _ h1,h2,h3.gr r k⟩
 |true,_,r,e,k,⟨o,xs,vs,h1,h2,h3,h4,h5,h6⟩=>⟨o,xs,vs,e _ _ h1,h2,h3,h4.gr r k,h5,h6.gr r k⟩
theorem dY.up{h:Nat}{f:Str}(r:Gr true g g' H H')(e:Ex H H')(k:Kd g H):∀{fl:jk},dY K aj g H h f v fl->dY K aj g' H' h f v fl
 |.dat _,z=>Rep.gr r k z
 |.lst _ _,⟨l,us,h1,h2,h3,h4,h5⟩=>⟨l,us,h1,e _ _ h2,by rw[(r.qg rfl).2];exact h3,h4.gr r k,r.tb h5⟩
 |.dic _ _,⟨l,h1,h2,h3⟩=>⟨l,h1,by rw[(r.qg rfl).2];exact h2,h3.up r e k⟩
theorem cJ.up{h:Nat}(r:Gr true g g' H H')(e:Ex H H')(k:Kd g H):∀{fs:List (Str×V)} {gs:List (Str×jk)},cJ K aj g H h fs gs->cJ K aj g' H' h fs gs
 |_,_,.nil=>.nil
 |_,_,.cons z t=>.cons (dY.up r e k z) (cJ.up r e k t)
theorem fZ.up(r:Gr true g g' H H')(e:Ex H H')(k:Kd g H)(w:fZ K aj g H M):fZ K aj g' H' M where
 len:=by rw[(r.qg rfl).1];exact w.len
 inj:=by rw[(r.qg rfl).1];exact w.inj
 ins:=fun h a i ha hi hc=>by
  rw[(r.qg rfl).1]at ha
  obtain⟨C,dx,fs,c1,c2,c3⟩:=w.ins h a i ha hi hc
  exact⟨C,dx,fs,c1,e _ _ c2,c3.up r e k⟩
 nd:=w.nd
 fd:=w.fd
 tw:=by rw[(r.qg rfl).1,(r.qg rfl).2];exact w.tw
 dm:=w.dm
 nc:=w.nc
theorem SInv.up(r:Gr true g g' H H')(e:Ex H H')(k':Kd g' H')(I:SInv K aj σ H g ρ M):SInv K aj σ H' g' ρ M where
 kd:=k'
 wok:=I.wok.up r e I.kd
 len:=I.len
 dat:=fun i d h=>by
  obtain⟨v,h1,h2⟩:=I.dat i d h
  exact⟨v,h1,h2.gr r I.kd⟩
 own:=fun i xs h=>by
  obtain⟨l,us,h1,h2,h3,h4⟩:=I.own i xs h
  exact⟨l,us,h1,e _ _ h2,r.Lo l h3,h4.gr r I.kd⟩
 sep:=I.sep
def Gh.add(g:Gh)(D:Addr):Gh:={ g with Lo:=fun a=>g.Lo a∨a=D }
theorem Gh.CN{D:Addr}(n:H D=none)(e:Ex H H'):Gr true g (g.add D) H H' where
 keep:=fun a o h _ _=>e a o h
 keepW:=fun _ a o h _=>e a o h
 dom:=Dh e
 tbl:=⟨[],by simp[Gh.add]⟩
 W:=fun _ h=>h
 nW:=fun _ h=>.inl h
 qg:=fun _=>⟨rfl,rfl⟩
 Lc:=rfl
 Lo:=fun _ h=>.inl h
 nLo:=fun a h=>h.elim .inl fun z=>.inr (by rw[z];exact n)
theorem Gh.aiI{D:Addr}{o:HO}(k:Kd g H)(n:H D=none)(e:Ex H H')(hD:H' D=some o)(m:Jy o):Kd (g.add D) H' where
 ob:=fun a z=>by
  rcases z with z|z|z|z
  ·obtain⟨o,h,m⟩:=k.ob a (.inl z);exact⟨o,e a o h,m⟩
  ·obtain⟨o,h,m⟩:=k.ob a (.inr (.inl z));exact⟨o,e a o h,m⟩
  ·obtain⟨o,h,m⟩:=k.ob a (.inr (.inr z));exact⟨o,e a o h,m⟩
  ·rw[z];exact⟨o,hD,m⟩
 lo:=fun a z=>by
  rcases z with z|z
  ·exact k.lo a z
  ·intro w
   subst z
   exact k.fresh n (.inl w)
 lc:=fun a z=>⟨(k.lc a z).1,fun y=>y.elim (k.lc a z).2 fun y=>by subst y;exact k.fresh n (.inr (.inl z))⟩
theorem SInv.add{D:Addr}{o:HO}(I:SInv K aj σ H g ρ M)(n:H D=none)(e:Ex H H')(hD:H' D=some o)(m:Jy o):SInv K aj σ H' (g.add D) ρ M:=
 I.up (Gh.CN n e) e (Gh.aiI I.kd n e hD m)
theorem SInv.set{j:Nat}(I:SInv K aj σ H g ρ M)(r:Rep K g H v d):SInv K aj (σ.set j (some v)) H g (ρ.set j (some (.dat d))) M where
 kd:=I.kd
 wok:=I.wok
 len:=by rw[arw,arw];exact I.len
 dat:=fun i e h=>by
  by_cases z:j=i
  ·subst z
   have hj:j < ρ.length:=by
    have:=(aq1.mp h).1
    rw[arw]at this
    exact this
   rw[arl hj]at h
   cases h
   exact⟨v,by rw[arl (by rw[I.len];exact hj)],r⟩
  ·rw[aq8 z]at h
   obtain⟨u,h1,h2⟩:=I.dat i e h
   exact⟨u,by rw[aq8 z];exact h1,h2⟩
 own:=fun i xs h=>by
  by_cases z:j=i
  ·subst z
   have hj:j < ρ.length:=by
    have:=(aq1.mp h).1
    rw[arw]at this
    exact this
   rw[arl hj]at h
   cases h
  ·rw[aq8 z]at h
   obtain⟨l,us,h1,h2⟩:=I.own i xs h
   exact⟨l,us,by rw[aq8 z];exact h1,h2⟩
 sep:=fun i k xs ys l ne h1 h2 h3=>by
  have nj:∀{i:Nat} {xs:List Dat},(ρ.set j (some (.dat d)))[i]?=some (some (.mut xs))->j≠i:=fun {i xs} h z=>by
   subst z
   have hj:j < ρ.length:=by
    have:=(aq1.mp h).1
    rw[arw]at this
    exact this
   rw[arl hj]at h
   cases h
  have n1:=nj h1
  have n2:=nj h2
  rw[aq8 n1]at h1 h3
  rw[aq8 n2]at h2
  rw[aq8 n2]
  exact I.sep i k xs ys l ne h1 h2 h3
theorem SInv.forget{j:Nat}(I:SInv K aj σ H g ρ M):SInv K aj (σ.set j none) H g (ρ.set j none) M where
 kd:=I.kd
 wok:=I.wok
 len:=by rw[arw,arw];exact I.len
 dat:=fun i e h=>by
  by_cases z:j=i
  ·subst z
   have hj:j < ρ.length:=by
    have:=(aq1.mp h).1
    rw[arw]at this
    exact this
   rw[arl hj]at h
   cases h
  ·rw[aq8 z]at h ⊢
   exact I.dat i e h
 own:=fun i xs h=>by
  by_cases z:j=i
  ·subst z
   have hj:j < ρ.length:=by
    have:=(aq1.mp h).1
    rw[arw]at this
    exact this
   rw[arl hj]at h
   cases h
  ·rw[aq8 z]at h ⊢
   exact I.own i xs h
 sep:=fun i k xs ys l ne h1 h2 h3=>by
  have nj:∀{i:Nat} {xs:List Dat},(ρ.set j none)[i]?=some (some (.mut xs))->j≠i:=fun {i xs} h z=>by
   subst z
   have hj:j < ρ.length:=by
    have:=(aq1.mp h).1
    rw[arw]at this
    exact this
   rw[arl hj]at h
   cases h
  have n1:=nj h1
  have n2:=nj h2
  rw[aq8 n1]at h1 h3
  rw[aq8 n2]at h2
  rw[aq8 n2]
  exact I.sep i k xs ys l ne h1 h2 h3
def bT(ρ:Env):List Nat->Env
 |[]=>ρ
 |j::js=>(bT ρ js).set j none
theorem SInv.wipe(I:SInv K aj σ H g ρ M):∀vs:List Nat,SInv K aj (L2.wipe σ vs) H g (bT ρ vs) M
 |[]=>I
 |j::js=>(SInv.wipe I js).forget
end
abbrev fK:=Dat->Env->Option Env
def aF(j:Nat):fK:=fun d ρ=>some (ρ.set j (some (.dat d)))
def rP:List Nat->List Dat->Env->Option Env
 |[],[],ρ=>some ρ
 |j::js,d::ds,ρ=>rP js ds (ρ.set j (some (.dat d)))
 |_,_,_=>none
def bx(js:List Nat):fK:=fun d ρ=>match d with
 |.tuple ds=>rP js ds ρ
 |_=>none
def sets(σ:L2.St):List Nat->List V->L2.St
 |j::js,v::vs=>sets (σ.set j (some v)) js vs
 |_,_=>σ
def xO(K:aqZ)(aj:aQ)(js:List Nat)(f:fK):TG:=fun v σ H Q=>∃g ρ M d ρ',SInv K aj σ H g ρ M/\Rep K g H v d/\f d ρ=some ρ'/\∀vs,SInv K aj (sets σ js vs) H g ρ' M->Q (sets σ js vs) H
def QG(aj:aQ)(X:Cx)(tg:Expr)(js:List Nat)(f:fK):Prop:=PG X tg (xO X.K aj js f)
theorem PG.weak{X:Cx}{e:Expr}{t t':TG}(h:PG X e t)(k:∀v σ H Q,t' v σ H Q->t v σ H Q):PG X e t':=⟨fun pins s σ H v u Q I r q=>h.run pins s σ H v u Q I r (k v σ H Q q)⟩
section
variable{X:Cx}{aj:aQ}{pos:Pos}
theorem Uu{j:Nat}{x:Str}(hN:X.N.Nodup)(hi:X.N[j]?=some x)(hx:Loc X.env.scope x)(hf:X.fn x=true∨X.env.scope.names.lookup x=some .local):QG aj X (.Name x pos) [j] (aF j):=
 PG.weak (pg_name hN hi hx hf) fun v σ H Q ⟨g,ρ,M,d,ρ',I,r,e,q⟩=>by
  cases e
  exact q [v] (I.set r)
def Ru(X:Cx):List Expr->List Nat->Prop
 |[],[]=>True
 |.Name x _::es,j::js=>X.N[j]?=some x/\Loc X.env.scope x/\(X.fn x=true∨X.env.scope.names.lookup x=some .local)/\Ru X es js
 |_,_=>False
theorem afb{es:List Expr}{js:List Nat}(h:Ru X es js):(assignEach es X.env).length=js.length/\(assignEach es X.env).findIdx? (·.1)=none:=by
 induction es generalizing js with
 |nil=>
  cases js with
  |nil=>exact⟨by with_unfolding_all rfl,by with_unfolding_all rfl⟩
  |cons j js=>exact False.elim h
 |cons e es ih=>
  cases js with
  |nil=>cases e <;> exact False.elim h
  |cons j js=>
   cases e with
   |Name x p=>
    obtain⟨h1,h2⟩:=ih h.2.2.2
    have e1:assignEach (.Name x p::es) X.env=(false,assign (.Name x p) X.env)::assignEach es X.env:=by with_unfolding_all rfl
    rw[e1]
    refine⟨by simp[h1],?_⟩
    rw[List.findIdx?_cons,h2]
    rfl
   |_=>exact False.elim h
def gNs(js:List Nat):TGs:=fun vs σ H Q=>vs.length=js.length/\Q (sets σ js vs) H
theorem Vw(hN:X.N.Nodup):∀{es:List Expr} {js:List Nat},Ru X es js->PGs X es (gNs js)
 |[],[],_=>⟨fun pins s σ H vs us Q I r h=>by
  obtain⟨e,h⟩:=h
  have:vs=[]:=List.length_eq_zero_iff.mp e
  subst this
  exact pgs_nil.run pins s σ H [] us Q I r ⟨rfl,h⟩⟩
 |.Name x p::es,j::js,h=>by
  have hp:=pgs_cons (pg_name (pos:=p) hN h.1 h.2.1 h.2.2.1) (Vw hN h.2.2.2) (by with_unfolding_all rfl)
  refine⟨fun pins s σ H vs us Q I r hq=>?_⟩
  obtain⟨e,hq⟩:=hq
  cases vs with
  |nil=>cases e
  |cons v vs=>exact hp.run pins s σ H (v::vs) us Q I r ⟨v,vs,rfl,arX e,hq⟩
 |[],_::_,h=>False.elim h
 |.Name _ _::_,[],h=>False.elim h
theorem HX{K:aqZ}{g:Gh}{H:Hp}{M:Mo}:∀{js:List Nat} {ds:List Dat} {vs:List V} {σ:L2.St} {ρ ρ':Env},SInv K aj σ H g ρ M->aM K g H vs ds->rP js ds ρ=some ρ'->vs.length=js.length/\SInv K aj (sets σ js vs) H g ρ' M
 |[],_,_,_,_,_,I,.nil,e=>by cases e;exact⟨rfl,I⟩
 |[],_,_,_,_,_,I,.cons _ _,e=>by cases e
 |j::js,_,_,_,_,_,I,.nil,e=>by cases e
 |j::js,_,_,_,_,_,I,.cons r t,e=>by
  obtain⟨h1,h2⟩:=HX (js:=js) (I.set (j:=j) r) t e
  exact⟨by simp[h1],h2⟩
theorem adE{es:List Expr}{js:List Nat}{k:Nat}(hc:X.calm=true)(hN:X.N.Nodup)(h:Ru X es js):QG aj X (.Tuple es k pos) js (bx js):=by
 obtain⟨h1,h2⟩:=afb h
 refine PG.weak (pg_tup (n:=js.length) hc (Vw hN h) h1 h2) fun v σ H Q ⟨g,ρ,M,d,ρ',I,r,e,q⟩=>?_
 unfold bx at e
 split at e
 ·obtain⟨a,us,rfl,s1,t1⟩:=lK r.weak
  obtain⟨l1,I1⟩:=HX I t1 e
  exact⟨a,us,rfl,s1,l1,l1,q us I1⟩
 ·cases e
theorem wN:∀(js:List Nat) (vs:List V) (σ:L2.St) (ws:List Nat),(∀j∈js,j∈ws)->L2.wipe (sets σ js vs) ws=L2.wipe σ ws
 |[],_,_,_,_=>by unfold sets;rfl
 |_::_,[],_,_,_=>by unfold sets;rfl
 |j::js,v::vs,σ,ws,h=>by
  show L2.wipe (sets (σ.set j (some v)) js vs) ws=_
  rw[wN js vs _ ws fun k hk=>h k (aq5 _ hk)]
  have hj:j∈ws:=h j aq4
  have key:∀(ws:List Nat) (σ:L2.St),j∈ws->L2.wipe (σ.set j (some v)) ws=L2.wipe σ ws:=by
   intro ws
   induction ws with
   |nil=>intro σ z;cases z
   |cons k ws ih=>
    intro σ z
    show(L2.wipe (σ.set j (some v)) ws).set k none=(L2.wipe σ ws).set k none
    by_cases hk:j∈ws
    ·rw[ih σ hk]
    ·have e:j=k:=by
      rcases arh.mp z with z|z
      ·exact z
      ·exact absurd z hk
     subst e
     have comm:∀(ws:List Nat),j∉ws->L2.wipe (σ.set j (some v)) ws=(L2.wipe σ ws).set j (some v):=by
      intro ws
      induction ws with
      |nil=>intro _;rfl
      |cons m ws ih2=>
       intro hm
       show(L2.wipe (σ.set j (some v)) ws).set m none=((L2.wipe σ ws).set m none).set j (some v)
       rw[ih2 fun z=>hm (aq5 _ z),List.set_comm _ _ (fun z=>hm (by rw[z];exact aq4))]
     rw[comm ws hk,List.set_set]
  exact key ws σ hj
end
structure JL(K:aqZ)(J:It)(C:Gh->Hp->Prop)(ds:List Dat):Prop where
 go:∀g i H,C g H->i < ds.length->J.go i H
 yld:∀g i H x H' d,Kd g H->C g H->ds[i]?=some d->J.yld i H x H'->Ex H H'/\Rep K g H' x d
 stop:∀g i H,C g H->i=ds.length->J.stop i H
 ex:∀g H H',Kd g H->C g H->Ex H H'->C g H'
 add:∀g g' H H',Kd g H->C g H->Gr true g g' H H'->Ex H H'->C g' H'
def ach(C:Gh->Hp->Prop):Prop:=∀q g g' H H',Kd g H->C g H->Gr q g g' H H'->C g' H'
abbrev IF:=Mo->Env->Out (List Dat)
def tI(K:aqZ)(aj:aQ)(W:WX)(firm:Bool)(f:IF):TI:=fun σ H R=>∃g ρ M,SInv K aj σ H g ρ M/\(f M ρ).sat (fun ds=>∀J C H',Ex H H'->JL K J C ds->C g H'->(firm=true->ach C)->R J H') (qG K aj W g H σ)
def QI(aj:aQ)(X:Cx)(W:WX)(firm:Bool)(tg e:Expr)(f:IF):Prop:=PI X tg e (tI X.K aj W firm f)
def XQ(x:Str):List Dat:=x.cps.toList.map fun c=>.str ⟨#[c]⟩
def oN:Dat->Out (List Dat)
 |.list ds=>.ok ds
 |.tuple ds=>.ok ds
 |.str x=>.ok (XQ x)
 |_=>.bad
def cU(a:QF):IF:=fun M ρ=>(a M ρ).bind oN
def Src.cw(K:aqZ)(S:Src)(ds:List Dat)(g:Gh)(H:Hp):Prop:=∃us,S.sq K H us/\aM K g H us ds
def Src.cf(K:aqZ)(S:Src)(ds:List Dat)(g:Gh)(H:Hp):Prop:=∃us,(match S with
 |.lst a=>Pg K g H a us
 |.tup a=>SqT K H a us
 |.str x=>us=chars x)/\aM K g H us ds
section
variable{K:aqZ}{g g':Gh}{H H':Hp}{ds es:List Dat}{S T:Src}
theorem Src.alg{us:List V}(e:Ex H H')(h:S.sq K H us):S.sq K H' us:=by
 cases S with
 |lst a=>exact ex_l e h
 |tup a=>exact ex_t e h
 |str x=>exact h
theorem Src.abK(h:S.cf K ds g H):S.cw K ds g H:=by
 obtain⟨us,h1,h2⟩:=h
 refine⟨us,?_,h2⟩
 cases S with
 |lst a=>exact Pg.sq h1
 |tup a=>exact h1
 |str x=>exact h1
theorem Src.uX:ach (S.cf K ds):=fun q g g' H H' k ⟨us,h1,h2⟩ r=>by
 refine⟨us,?_,h2.gr r k⟩
 cases S with
 |lst a=>exact r.ls h1
 |tup a=>exact r.sqT k h1
 |str x=>exact h1
theorem Src.Ml(k:Kd g H)(h:S.cw K ds g H)(r:Gr true g g' H H')(e:Ex H H'):S.cw K ds g' H':=by
 obtain⟨us,h1,h2⟩:=h
 exact⟨us,Src.alg e h1,h2.gr r k⟩
theorem Src.Xz(k:Kd g H)(h:S.cw K ds g H)(e:Ex H H'):S.cw K ds g H':=Src.Ml k h (Gr.ex e) e
end
section
variable{K:aqZ}{ds es:List Dat}{S T:Src}
def ItS(K:aqZ):Src->It
 |.lst a=>Itl K a
 |.tup a=>Itt K a
 |.str x=>Its x
theorem Es{g:Gh}{H:Hp}(x:Str):aM K g H (chars x) (XQ x):=by
 unfold chars XQ
 induction x.cps.toList with
 |nil=>exact .nil
 |cons c cs ih=>exact .cons (.str _) ih
theorem JL.of{J:It}{C C':Gh->Hp->Prop}(w:JL K J C ds)(h:∀g H,C' g H->C g H)(e:∀g H H',Kd g H->C' g H->Ex H H'->C' g H')(a:∀g g' H H',Kd g H->C' g H->Gr true g g' H H'->Ex H H'->C' g' H'):JL K J C' ds where
 go:=fun g i H c hi=>w.go g i H (h g H c) hi
 yld:=fun g i H x H' d k c e y=>w.yld g i H x H' d k (h g H c) e y
 stop:=fun g i H c e=>w.stop g i H (h g H c) e
 ex:=e
 add:=a
theorem abD:JL K (ItS K S) (S.cw K ds) ds where
 go:=fun g i H ⟨us,h1,h2⟩ hi=>by
  have hx:us[i]?=some (us[i]'(by rw[h2.length];exact hi)):=aq2 _
  cases S with
  |lst a=>exact⟨us,_,h1,hx⟩
  |tup a=>exact⟨us,_,h1,hx⟩
  |str x=>
   show i < x.cps.size
   have:=h2.length
   rw[show us=chars x from h1]at this
   unfold chars at this
   rw[aq9,arH]at this
   omega
 yld:=fun g i H x H' d k ⟨us,h1,h2⟩ e y=>by
  obtain⟨v,hv,rv⟩:=h2.get e
  cases S with
  |lst a=>
   obtain⟨rfl,y⟩:=y
   have:x=v:=arn ((y us h1).symm.trans hv)
   rw[this]
   exact⟨Ex.refl _,rv⟩
  |tup a=>
   obtain⟨rfl,y⟩:=y
   have:x=v:=arn ((y us h1).symm.trans hv)
   rw[this]
   exact⟨Ex.refl _,rv⟩
  |str z=>
   obtain⟨rfl,c,hc,rfl⟩:=y
   rw[show us=chars z from h1]at hv
   unfold chars at hv
   rw[ard,arS,hc]at hv
   cases hv
   exact⟨Ex.refl _,rv⟩
 stop:=fun g i H ⟨us,h1,h2⟩ e=>by
  have hl:=h2.length
  cases S with
  |lst a=>exact⟨us,h1,by omega⟩
  |tup a=>exact⟨us,h1,by omega⟩
  |str x=>
   show x.cps.size<=i
   rw[show us=chars x from h1]at hl
   unfold chars at hl
   rw[aq9,arH]at hl
   omega
 ex:=fun g H H' k h e=>Src.Xz k h e
 add:=fun g g' H H' k h r e=>Src.Ml k h r e
def pN(k₀:Int)(ds:List Dat):List Dat:=ds.mapIdx fun i d=>.tuple [.int (k₀+(i:Int)),d]
theorem afg{k₀:Int}:JL K (ItE K S k₀) (S.cw K ds) (pN k₀ ds) where
 go:=fun g i H ⟨us,h1,h2⟩ hi=>by
  have hl:i < us.length:=by
   rw[h2.length]
   unfold pN at hi
   rw[List.length_mapIdx]at hi
   exact hi
  exact⟨us,us[i],h1,aq2 hl⟩
 yld:=fun g i H x H' d k ⟨us,h1,h2⟩ e y=>by
  unfold pN at e
  rw[arM]at e
  cases hd:ds[i]? with
  |none=>rw[hd]at e;cases e
  |some d0=>
   rw[hd]at e
   cases e
   obtain⟨v,hv,rv⟩:=h2.get hd
   obtain⟨T,x0,rfl,nT,rfl,y⟩:=y
   have:x0=v:=arn ((y us h1).symm.trans hv)
   subst this
   exact⟨Ex.new nT,.tup (st_of upd_same) (.cons (.int _) (.cons (rv.ex (Ex.new nT) k) .nil))⟩
 stop:=fun g i H ⟨us,h1,h2⟩ e=>by
  unfold pN at e
  rw[List.length_mapIdx,←h2.length]at e
  exact⟨us,h1,e.symm⟩
 ex:=fun g H H' k h e=>Src.Xz k h e
 add:=fun g g' H H' k h r e=>Src.Ml k h r e
def xU(ds es:List Dat):List Dat:=List.zipWith (fun d e=>.tuple [d,e]) ds es
theorem aaV:JL K (ItZ K S T) (fun g H=>S.cw K ds g H/\T.cw K es g H) (xU ds es) where
 go:=fun g i H ⟨⟨us,h1,h2⟩,⟨ws,h3,h4⟩⟩ hi=>by
  unfold xU at hi
  rw[List.length_zipWith,←h2.length,←h4.length]at hi
  exact⟨us,ws,us[i],ws[i],h1,h3,aq2 (by omega),aq2 (by omega)⟩
 yld:=fun g i H x H' d k ⟨⟨us,h1,h2⟩,⟨ws,h3,h4⟩⟩ e y=>by
  unfold xU at e
  rw[List.getElem?_zipWith]at e
  cases hd:ds[i]? with
  |none=>rw[hd]at e;cases e
  |some d0=>
   cases he:es[i]? with
   |none=>rw[hd,he]at e;cases e
   |some e0=>
    rw[hd,he]at e
    cases e
    obtain⟨v,hv,rv⟩:=h2.get hd
    obtain⟨u,hu,ru⟩:=h4.get he
    obtain⟨U,x0,y0,rfl,nU,rfl,y1,y2⟩:=y
    have:x0=v:=arn ((y1 us h1).symm.trans hv)
    subst this
    have:y0=u:=arn ((y2 ws h3).symm.trans hu)
    subst this
    exact⟨Ex.new nU,.tup (st_of upd_same) (.cons (rv.ex (Ex.new nU) k) (.cons (ru.ex (Ex.new nU) k) .nil))⟩
 stop:=fun g i H ⟨⟨us,h1,h2⟩,⟨ws,h3,h4⟩⟩ e=>by
  unfold xU at e
  rw[List.length_zipWith,←h2.length,←h4.length]at e
  exact⟨us,ws,h1,h3,e⟩
 ex:=fun g H H' k h e=>⟨Src.Xz k h.1 e,Src.Xz k h.2 e⟩
 add:=fun g g' H H' k h r e=>⟨Src.Ml k h.1 r e,Src.Ml k h.2 r e⟩
def gQ(lo:Int)(n:Nat):List Dat:=(List.range n).map fun(i:Nat)=>.int (lo+(i:Int))
theorem Vu{lo:Int}{n:Nat}:JL K (Itr lo n) (fun _ _=>True) (gQ lo n) where
 go:=fun g i H _ hi=>by
  unfold gQ at hi
  rw[aq9,List.length_range]at hi
  exact hi
 yld:=fun g i H x H' d k _ e y=>by
  obtain⟨rfl,rfl⟩:=y
  unfold gQ at e
  rw[ard]at e
  cases hr:(List.range n)[i]? with
  |none=>rw[hr]at e;cases e
  |some j=>
   rw[hr]at e
   cases e
   have:j=i:=by
    obtain⟨h1,h2⟩:=aq1.mp hr
    rw[List.getElem_range]at h2
    exact h2.symm
   subst this
   exact⟨Ex.refl _,.int _⟩
 stop:=fun g i H _ e=>by
  unfold gQ at e
  rw[aq9,List.length_range]at e
  show n<=i
  omega
 ex:=fun _ _ _ _ _ _=>trivial
 add:=fun _ _ _ _ _ _ _ _=>trivial
end
section
variable{X:Cx}{aj:aQ}{W:WX}{tg a b:Expr}{fa fb:QF}{pos p tpos:Pos}{elts:List Expr}{kk:Nat}
theorem M6{K:aqZ}{g:Gh}{H:Hp}{v:V}{d:Dat}{ds:List Dat}{firm:Bool}(r:if firm=true then Rep K g H v d else eE K g H v d)(h:oN d=.ok ds):∃S,srcOf v S/\S.cw K ds g H/\(firm=true->S.cf K ds g H):=by
 have rw:eE K g H v d:=by
  cases firm with
  |true=>exact Rep.weak r
  |false=>exact r
 cases d with
 |list es=>
  cases h
  obtain⟨l,us,rfl,h1,h2⟩:=jh rw
  refine⟨.lst l,.inl ⟨l,rfl,rfl,.inl rfl⟩,⟨us,h1,h2⟩,fun z=>?_⟩
  subst z
  have r:Rep K g H (.ref l) (.list ds):=r
  cases r with
  |lst h3 h4=>exact⟨_,h3,h4⟩
 |tuple es=>
  cases h
  obtain⟨l,us,rfl,h1,h2⟩:=lK rw
  exact⟨.tup l,.inl ⟨l,rfl,rfl,.inr rfl⟩,⟨us,h1,h2⟩,fun _=>⟨us,h1,h2⟩⟩
 |str x=>
  cases h
  cases jU rw
  exact⟨.str x,.inr ⟨x,rfl,rfl⟩,⟨_,rfl,Es x⟩,fun _=>⟨_,rfl,Es x⟩⟩
 |_=>cases h
def tF(K:aqZ)(aj:aQ)(W:WX)(firm:Bool)(f:QF):TE:=if firm=true then tQ K aj W f else tW K aj W f
def QF'(aj:aQ)(X:Cx)(W:WX)(firm:Bool)(e:Expr)(f:QF):Prop:=PE X e (tF X.K aj W firm f)
theorem tF.go{K:aqZ}{firm:Bool}{g:Gh}{H:Hp}{σ:L2.St}{ρ:Env}{M:Mo}{f:QF}{k:Dat->Prop}{Q:VK}(I:SInv K aj σ H g ρ M)(h:(f M ρ).sat k (qG K aj W g H σ))(hk:∀d v H',k d->Ex H H'->(if firm=true then Rep K g H' v d else eE K g H' v d)->Q v H'):tF K aj W firm f σ H Q:=by
 cases firm with
 |true=>exact tQ.go I h hk
 |false=>exact tW.go I h hk
theorem alI{K:aqZ}{firm:Bool}{g:Gh}{H H':Hp}{v:V}{d:Dat}(e:Ex H H')(k:Kd g H)(r:if firm=true then Rep K g H v d else eE K g H v d):if firm=true then Rep K g H' v d else eE K g H' v d:=by
 cases firm with
 |true=>exact Rep.ex e k r
 |false=>exact eE.ex e k r
theorem wf{K:aqZ}{S:Src}{firm:Bool}{J:It}{ds es:List Dat}{R:It->Hp->Prop}{g:Gh}{H H1:Hp}(h:∀J C H',Ex H H'->JL K J C ds->C g H'->(firm=true->ach C)->R J H')(e1:Ex H H1)(w:JL K J (S.cw K es) ds)(hw:S.cw K es g H1)(hf:firm=true->S.cf K es g H1):R J H1:=by
 cases firm with
 |true=>exact h J (S.cf K es) H1 e1 (w.of (fun _ _ z=>Src.abK z) (fun g H H' k c e=>Src.uX true g g H H' k c (Gr.ex e)) fun g g' H H' k c r e=>Src.uX true g g' H H' k c r) (hf rfl) fun _=>Src.uX
 |false=>exact h J (S.cw K es) H1 e1 w hw fun z=>nomatch z
theorem Yz{firm:Bool}(ha:QF' aj X W firm a fa):QI aj X W firm tg a (cU fa):=by
 refine⟨fun pins s σ H R I h=>?_⟩
 obtain⟨g,ρ,M,SI,hs⟩:=h
 have hs:=hs.bnd
 have fin:∀(S:Src) (x:V) (H1:Hp) (ds:List Dat),(∀J C H',Ex H H'->JL X.K J C ds->C g H'->(firm=true->ach C)->R J H')->Ex H H1->S.cw X.K ds g H1->(firm=true->S.cf X.K ds g H1)->R (ItS X.K S) H1:=fun S x H1 ds h e1 hw hf=>wf h e1 abD hw hf
 cases hfa:fa M ρ with
 |bad=>rw[hfa]at hs;exact False.elim hs
 |exc x=>
  rw[hfa]at hs
  exact(pi_list ha).run pins s σ H R I (tF.go (k:=fun _=>False) SI (by rw[hfa];exact hs) fun d v H' z=>False.elim z)
 |ok d=>
  rw[hfa]at hs
  cases d with
  |list ds=>
   refine(pi_list ha).run pins s σ H R I (tF.go (k:=fun z=>z=.list ds) SI (by rw[hfa];rfl) fun d v H' z e1 r=>?_)
   subst z
   obtain⟨S,hS,hw,hf⟩:=M6 (firm:=firm) r (ds:=ds) rfl
   have rw:eE X.K g H' v (.list ds):=by
    cases firm with
    |true=>exact Rep.weak r
    |false=>exact r
   obtain⟨l,us,rfl,h1,h2⟩:=jh rw
   refine⟨l,rfl,⟨us,h1⟩,?_⟩
   rcases hS with⟨a',e,ha',hl|ht⟩|⟨y,_,e⟩
   ·cases e
    subst hl
    exact fin (.lst l) (.ref l) H' ds hs e1 hw hf
   ·cases e
    subst ht
    refine wf (S:=.lst l) hs e1 (abD (S:=.lst l)) ⟨us,h1,h2⟩ fun z=>?_
    subst z
    have r:Rep X.K g H' (.ref l) (.list ds):=r
    cases r with
    |lst h3 h4=>exact⟨_,h3,h4⟩
   ·cases e
  |tuple ds=>
   refine(pi_tup ha).run pins s σ H R I (tF.go (k:=fun z=>z=.tuple ds) SI (by rw[hfa];rfl) fun d v H' z e1 r=>?_)
   subst z
   have rw:eE X.K g H' v (.tuple ds):=by
    cases firm with
    |true=>exact Rep.weak r
    |false=>exact r
   obtain⟨l,us,rfl,h1,h2⟩:=lK rw
   exact⟨l,rfl,⟨us,h1⟩,fin (.tup l) (.ref l) H' ds hs e1 ⟨us,h1,h2⟩ fun _=>⟨us,h1,h2⟩⟩
  |str x=>
   refine(pi_str ha).run pins s σ H R I (tF.go (k:=fun z=>z=.str x) SI (by rw[hfa];rfl) fun d v H' z e1 r=>?_)
   subst z
   have rw:eE X.K g H' v (.str x):=by
    cases firm with
    |true=>exact Rep.weak r
    |false=>exact r
   cases jU rw
   exact⟨x,rfl,fin (.str x) (.str x) H' _ hs e1 ⟨_,rfl,Es x⟩ fun _=>⟨_,rfl,Es x⟩⟩
  |_=>exact False.elim hs
def zm(a:QF):IF:=fun M ρ=>(a M ρ).bind fun d=>(Bl d).bind fun n=>Out.when (decide (n<=100000/\-100000<=n)) (.ok (gQ 0 n.toNat))
def Cu(a b:QF):IF:=fun M ρ=>(a M ρ).bind fun d=>(b M ρ).bind fun e=>(Bl d).bind fun lo=>(Bl e).bind fun n=>Out.when (decide (n<=100000/\-100000<=n/\lo<=100000/\-100000<=lo)) (.ok (gQ lo (n - lo).toNat))
def yE(k₀:Int)(a:QF):IF:=fun M ρ=>(a M ρ).bind fun d=>(oN d).bind fun ds=>.ok (pN k₀ ds)
def Fv(a b:QF):IF:=fun M ρ=>(a M ρ).bind fun d=>(b M ρ).bind fun e=>(oN d).bind fun ds=>(oN e).bind fun es=>.ok (xU ds es)
theorem adF{firm:Bool}(hg:Gl X "range")(hm:X.mg "range"=none)(ha:QW aj X W a fa)(hs:nst a=true):QI aj X W firm tg (.Call (.Name "range" p) [a] [] pos) (zm fa):=by
 refine⟨fun pins s σ H R I h=>?_⟩
 refine(pi_range1 hg hm (pa_cons ha pa_nil (cH hs [])) (cH hs [])).run pins s σ H R I ?_
 obtain⟨g,ρ,M,SI,h⟩:=h
 refine tW.go SI h.bnd fun d v H1 h1 e1 r1=>?_
 have h1:=h1.bnd
 unfold Bl at h1
 split at h1
 ·obtain⟨hz,h1⟩:=h1.pJ
  have hz:=of_decide_eq_true hz
  cases cG r1
  exact⟨_,rfl,by omega,by omega,h1 _ _ H1 e1 Vu trivial fun _=>fun _ _ _ _ _ _ _ _=>trivial⟩
 ·exact False.elim h1
theorem adg{firm:Bool}(hg:Gl X "range")(hm:X.mg "range"=none)(ha:QW aj X W a fa)(hb:QW aj X W b fb)(hs:nst a=true)(hs2:nst b=true):QI aj X W firm tg (.Call (.Name "range" p) [a,b] [] pos) (Cu fa fb):=by
 refine⟨fun pins s σ H R I h=>?_⟩
 refine(pi_range2 hg hm (pa_cons ha (pa_cons hb pa_nil (cH hs2 [])) (cH hs [b])) (by rw[cH hs,cH hs2];rfl) (cH hs2 [])).run pins s σ H R I ?_
 obtain⟨g,ρ,M,SI,h⟩:=h
 refine tW.go SI h.bnd fun d v H1 h1 e1 r1=>?_
 refine tW.go (SI.ex e1) (h1.bnd.mono (fun _ z=>z) fun _ z=>z.ex e1) fun d2 v2 H2 h2 e2 r2=>?_
 have h2:=h2.bnd
 unfold Bl at h2
 split at h2
 ·have h2:=Out.sat.bnd h2
  split at h2
  ·obtain⟨hz,h2⟩:=Out.sat.pJ h2
   have hz:=of_decide_eq_true hz
   cases cG r1
   cases cG r2
   exact⟨_,_,rfl,⟨by omega,by omega,by omega,by omega⟩,h2 _ _ H2 (e1.trans e2) Vu trivial fun _=>fun _ _ _ _ _ _ _ _=>trivial⟩
  ·exact False.elim h2
 ·exact False.elim h2
theorem aga{firm:Bool}{k₀:Int}(σ:L2.St)(H:Hp)(R:It->Hp->Prop)(h:tI X.K aj W firm (yE k₀ fa) σ H R):iEn X.K (tCons (tF X.K aj W firm fa) tNil) k₀ σ H R:=by
 obtain⟨g,ρ,M,SI,h⟩:=h
 refine tF.go SI h.bnd fun d v H1 h1 e1 r1=>?_
 cases hd:oN d with
 |bad=>rw[hd]at h1;exact False.elim h1
 |exc x=>cases d <;> cases hd
 |ok ds=>
  rw[hd]at h1
  obtain⟨S,hS,hw,hf⟩:=M6 r1 hd
  exact⟨v,S,_,rfl,hS,hw.choose_spec.1,wf h1 e1 afg hw hf⟩
theorem ahJ{firm:Bool}(hg:Gl X "enumerate")(hm:X.mg "enumerate"=none)(ha:QF' aj X W firm a fa)(hs:nst a=true):QI aj X W firm (.Tuple elts kk tpos) (.Call (.Name "enumerate" p) [a] [] pos) (yE 0 fa):=
 ⟨fun pins s σ H R I h=>(alu hg hm (pa_cons ha pa_nil (cH hs [])) hs).run pins s σ H R I (aga σ H R h)⟩
theorem aeS{firm:Bool}{k₀:Int}{j:Nat}{kp kp2:Pos}(hk0 : -(2 ^ 63)<=k₀)(hk1:k₀ < 2 ^ 63)(hg:Gl X "enumerate")(hm:X.mg "enumerate"=none)(ha:QF' aj X W firm a fa)(hs:nst a=true):QI aj X W firm (.Tuple elts kk tpos) (.Call (.Name "enumerate" p) [a] [⟨some "start",.Constant (.int k₀) j kp,kp2⟩] pos) (yE k₀ fa):=
 ⟨fun pins s σ H R I h=>(aj5 hk0 hk1 hg hm (pa_cons ha pa_nil (cH hs [])) hs).run pins s σ H R I (aga σ H R h)⟩
theorem aiS{firm:Bool}(hg:Gl X "zip")(hm:X.mg "zip"=none)(ha:QF' aj X W firm a fa)(hb:QF' aj X W firm b fb)(hs:nst a=true)(hs2:nst b=true):QI aj X W firm (.Tuple elts kk tpos) (.Call (.Name "zip" p) [a,b] [] pos) (Fv fa fb):=by
 refine⟨fun pins s σ H R I h=>(alF hg hm (pa_cons ha (pa_cons hb pa_nil (cH hs2 [])) (cH hs [b])) hs hs2).run pins s σ H R I ?_⟩
 obtain⟨g,ρ,M,SI,h⟩:=h
 refine tF.go SI h.bnd fun d v H1 h1 e1 r1=>?_
 refine tF.go (SI.ex e1) (h1.bnd.mono (fun _ z=>z) fun _ z=>z.ex e1) fun d2 v2 H2 h2 e2 r2=>?_
 cases hd:oN d with
 |bad=>rw[hd]at h2;exact False.elim h2
 |exc x=>cases d <;> cases hd
 |ok ds=>
  cases he:oN d2 with
  |bad=>rw[hd,he]at h2;exact False.elim h2
  |exc x=>cases d2 <;> cases he
  |ok es=>
   rw[hd,he]at h2
   obtain⟨S,hS,hw,hf⟩:=M6 (alI e2 (SI.ex e1).kd r1) hd
   obtain⟨T,hT,hw2,hf2⟩:=M6 r2 he
   refine⟨v,v2,S,T,_,_,rfl,hS,hT,hw.choose_spec.1,hw2.choose_spec.1,?_⟩
   cases firm with
   |true=>exact h2 _ (fun g H=>S.cf X.K ds g H/\T.cf X.K es g H) H2 (e1.trans e2) (aaV.of (fun _ _ z=>⟨Src.abK z.1,Src.abK z.2⟩) (fun g H H' k c e=>⟨Src.uX true g g H H' k c.1 (Gr.ex e),Src.uX true g g H H' k c.2 (Gr.ex e)⟩) fun g g' H H' k c r e=>⟨Src.uX true g g' H H' k c.1 r,Src.uX true g g' H H' k c.2 r⟩) ⟨hf rfl,hf2 rfl⟩ fun _=>fun q g g' H H' k c r=>⟨Src.uX q g g' H H' k c.1 r,Src.uX q g g' H H' k c.2 r⟩
   |false=>exact h2 _ _ H2 (e1.trans e2) aaV ⟨hw,hw2⟩ fun z=>nomatch z
end
def WF:WX:=fun _ _ _ _=>False
def wZ{α:Type}:Out α->Out α
 |.ok a=>.ok a
 |_=>.bad
@[simp]theorem X7 {α:Type} (a:α):wZ (.ok a)=.ok a:=rfl
theorem wV{α:Type}{o:Out α}{P:α->Prop}{E E':dU->Prop}(h:(wZ o).sat P E):o.sat P E':=by
 cases o
 ·exact h
 ·exact False.elim h
 ·exact h
def cO(tg:fK)(tt:QT)(te:QF)(M:Mo)(ρ:Env):List Dat->Out (List Dat)
 |[]=>.ok []
 |d::ds=>match tg d ρ with
  |none=>.bad
  |some ρ1=>(wZ (tt M ρ1)).bind fun b=>if b=true then(wZ (te M ρ1)).bind fun y=>(cO tg tt te M ρ ds).bind fun r=>.ok (y::r) else cO tg tt te M ρ ds
def dH(it:IF)(tg:fK)(vs:List Nat)(tt:QT)(te:QF):QF:=fun M ρ=>(it M ρ).bind fun ds=>Out.when (decide (ds.length<=50000)) ((cO tg tt te M (bT ρ vs) ds).bind fun r=>.ok (.list r))
def gJ:QT:=fun _ _=>.ok true
def tFr(K:aqZ)(aj:aQ)(W:WX)(f:IF):TE:=fun σ H Q=>∃g ρ M,SInv K aj σ H g ρ M/\(f M ρ).sat (fun xs=>∀l us H',H l=none->Ex H H'->H' l=some (.lst us)->aM K (g.add l) H' us xs->Q (.ref l) H') (qG K aj W g H σ)
def Bb(it:IF)(tg:fK)(vs:List Nat)(tt:QT)(te:QF):IF:=fun M ρ=>(it M ρ).bind fun ds=>Out.when (decide (ds.length<=50000)) (cO tg tt te M (bT ρ vs) ds)
section
variable{K:aqZ}{aj:aQ}{W:WX}
theorem Zf{g:Gh}{H:Hp}{D:Addr}{o o':HO}{vs:List V}{ds:List Dat}(k:Kd g H)(h:H D=some o)(l:g.Lo D)(r:aM K g H vs ds):aM K g (upd H D o') vs ds:=r.gr (Gr.upd (q:=true) k h (.inr l)) k
theorem ahK{g:Gh}{H:Hp}{D:Addr}{o o':HO}{v:V}{d:Dat}(k:Kd g H)(h:H D=some o)(l:g.Lo D)(r:Rep K g H v d):Rep K g (upd H D o') v d:=r.gr (Gr.upd (q:=true) k h (.inr l)) k
theorem mH{tg:fK}{tt:QT}{te:QF}{M:Mo}{ρ:Env}:∀{ds:List Dat} {x:dU},cO tg tt te M ρ ds≠.exc x
 |[],_,h=>nomatch h
 |d::ds,x,h=>by
  rw[cO]at h
  split at h
  ·cases h
  ·next ρ1 e=>
   cases h1:tt M ρ1 with
   |bad=>rw[h1]at h;cases h
   |exc y=>rw[h1]at h;cases h
   |ok b=>
    rw[h1]at h
    cases b with
    |false=>exact mH h
    |true=>
     have h:((wZ (te M ρ1)).bind fun y=>(cO tg tt te M ρ ds).bind fun r=>Out.ok (y::r))=.exc x:=h
     cases h2:te M ρ1 with
     |bad=>rw[h2]at h;cases h
     |exc y=>rw[h2]at h;cases h
     |ok y=>
      rw[h2]at h
      cases h3:cO tg tt te M ρ ds with
      |bad=>rw[h3]at h;cases h
      |exc z=>exact mH h3
      |ok r=>rw[h3]at h;cases h
theorem P0(σ:L2.St)(i:Nat):∀vs:List Nat,(L2.wipe σ vs)[i]?=if i∈vs then(σ[i]?).map (fun _=>none) else σ[i]?
 |[]=>by simp[L2.wipe]
 |v::vs=>by
  show((L2.wipe σ vs).set v none)[i]?=_
  by_cases h:v=i
  ·subst h
   by_cases hl:v < σ.length
   ·rw[arl (by rw[wipe_length];exact hl),if_pos aq4,aq2 hl]
    rfl
   ·have h1:σ[v]?=none:=List.getElem?_eq_none_iff.mpr (by omega)
    rw[if_pos aq4,h1,List.getElem?_eq_none_iff.mpr (by rw[arw,wipe_length];omega)]
    rfl
  ·rw[aq8 h,P0 σ i vs]
   have:i∈v::vs↔i∈vs:=⟨fun z=>by
    rcases arh.mp z with z|z
    ·exact absurd z.symm h
    ·exact z,aq5 _⟩
   simp only[this]
theorem Ae(σ:L2.St)(vs:List Nat):L2.wipe (L2.wipe σ vs) vs=L2.wipe σ vs:=by
 apply arx
 intro i
 rw[P0 (L2.wipe σ vs) i vs,P0 σ i vs]
 split
 ·cases σ[i]? <;> rfl
 ·rfl
theorem Zm{it:IF}{tg:fK}{js vs:List Nat}{tt:QT}{te:QF}(hj:∀j∈js,j∈vs)(σ:L2.St)(H:Hp)(Q:VK)(h:tFr K aj W (Bb it tg vs tt te) σ H Q) :
  tLc (tI K aj W false it) (xO K aj js tg) (jJ K aj WF tt) (tQ K aj WF te) vs σ H Q:=by
 obtain⟨g,ρ,M,I,h⟩:=h
 refine⟨g,ρ,M,I,h.bnd.mono (fun ds hk J C H1 e1 w c _ D nD=>?_) fun _ z=>z⟩
 obtain⟨hz,hk⟩:=hk.pJ
 have hlen:=of_decide_eq_true hz
 obtain⟨total,htot,hQ⟩:∃total,cO tg tt te M (bT ρ vs) ds=.ok total/\∀l us H',H l=none->Ex H H'->H' l=some (.lst us)->aM K (g.add l) H' us total->Q (.ref l) H':=by
  cases hc:cO tg tt te M (bT ρ vs) ds with
  |bad=>rw[hc]at hk;exact False.elim hk
  |exc x=>exact absurd hc mH
  |ok total=>
   rw[hc]at hk
   exact⟨total,rfl,hk⟩
 have I1:=(I.ex e1).wipe vs
 have kD:∀{Ha:Hp} {us:List V},Ex H1 Ha->Ha D=some (.lst us)->SInv K aj (L2.wipe σ vs) Ha (g.add D) (bT ρ vs) M:=fun ea hu=>I1.add nD ea hu trivial
 let Pv:Nat->Hp->Prop:=fun i Ha=>Ex H1 Ha/\i<=ds.length/\∃us ys,Ha D=some (.lst us)/\aM K (g.add D) Ha us ys/\ys.length<=i/\(cO tg tt te M (bT ρ vs) (ds.drop i)).sat (fun r=>total=ys++r) fun _=>False
 refine⟨fun i m Ha=>m=ds.length - i/\Pv i Ha,⟨ds.length,rfl,Ex.new nD,arO _,[],[],upd_same,.nil,aru _,?_⟩,?_⟩
 ·rw[asq,htot]
  rfl
 ·rintro i m Ha ⟨rfl,ea,hi,us,ys,hu,hU,hy,hs⟩
  have Ia:=kD ea hu
  have Ca:=w.add g (g.add D) H1 Ha (I.kd.ex e1) c (Gh.CN nD ea) ea
  by_cases hlt:i < ds.length
  ·refine .inr ⟨w.go _ i Ha Ca hlt,Pv (i+1),fun H' p=>⟨ds.length - (i+1),by omega,rfl,p⟩,fun x H' y=>?_⟩
   have hd:ds[i]?=some ds[i]:=aq2 hlt
   obtain⟨e2,rx⟩:=w.yld _ i Ha x H' _ Ia.kd Ca hd y
   have I2:=Ia.ex e2
   rw[arR hlt,cO]at hs
   split at hs
   ·exact False.elim hs
   ·next ρ1 he=>
    refine⟨g.add D,_,M,_,ρ1,I2,rx,he,fun ws I3=>⟨wN js ws _ vs hj |>.trans (Ae σ vs),?_⟩⟩
    refine jJ.go I3 (wV hs.bnd) fun b H3 hb e3=>?_
    have I4:=I3.ex e3
    have hu3:=e3 _ _ (e2 _ _ hu)
    have hU3:=(hU.ex e2 Ia.kd).ex e3 I2.kd
    cases b with
    |false=>
     have hb:(cO tg tt te M (bT ρ vs) (ds.drop (i+1))).sat (fun r=>total=ys++r) fun _=>False:=hb
     exact⟨(ea.trans e2).trans e3,hlt,us,ys,hu3,hU3,Nat.le_succ_of_le hy,hb⟩
    |true=>
     have hb:((wZ (te M ρ1)).bind fun y=>(cO tg tt te M (bT ρ vs) (ds.drop (i+1))).bind fun r=>Out.ok (y::r)).sat (fun r=>total=ys++r) fun _=>False:=hb
     refine tQ.go I4 (wV hb.bnd) fun y v H4 hyv e4 ry=>?_
     have I5:=I4.ex e4
     have hu4:=e4 _ _ hu3
     have hU4:=hU3.ex e4 I4.kd
     have lD:(g.add D).Lo D:=.inr rfl
     refine⟨us,hu4,sz_lt (by rw[hU.length];omega),Ex.mut (((ea.trans e2).trans e3).trans e4) nD,hlt,us++[v],ys++[y],upd_same,?_,by simp;omega,hyv.bnd.mono (fun r hr=>?_) fun _ z=>z⟩
     ·exact Zf I5.kd hu4 lD (hU4.append (.cons ry .nil))
     ·have hr:total=ys++y::r:=hr
      rw[hr]
      simp
  ·have e:i=ds.length:=by omega
   refine .inl ⟨w.stop _ i Ha Ca e,?_⟩
   rw[e,arY]at hs
   have hs:total=ys++[]:=hs
   rw[arQ]at hs
   subst hs
   exact hQ D us Ha (Dh e1 D nD) (e1.trans ea) hu hU
theorem agk{it:IF}{tg:fK}{js vs:List Nat}{tt:QT}{te:QF}(hj:∀j∈js,j∈vs)(σ:L2.St)(H:Hp)(Q:VK)(h:tQ K aj W (dH it tg vs tt te) σ H Q) :
  tLc (tI K aj W false it) (xO K aj js tg) (jJ K aj WF tt) (tQ K aj WF te) vs σ H Q:=by
 obtain⟨g,ρ,M,I,h⟩:=h
 refine Zm hj σ H Q ⟨g,ρ,M,I,?_⟩
 unfold Bb
 unfold dH at h
 cases hi:it M ρ with
 |bad=>rw[hi]at h;exact False.elim h
 |exc x=>rw[hi]at h;exact h
 |ok ds=>
  rw[hi]at h
  obtain⟨hz,h⟩:=Out.sat.pJ h
  have h:=h.bnd
  show(Out.when (decide (ds.length<=50000)) (cO tg tt te M (bT ρ vs) ds)).sat _ _
  rw[hz,Out.Vr]
  exact h.mono (fun xs z l us H' n e hl r=>z _ H' e (.lst (.inl ⟨.inl hl,I.kd.fresh n⟩) (aM.less (g:=g.add l) (g':=g) rfl (fun a z=>z.elim .inl fun z=>.inr (z.elim .inl fun z=>.inr (.inl z))) r))) fun _ z=>z
end
section
variable{X:Cx}{aj:aQ}{W:WX}{elt tg iter:Expr}{pos p tpos:Pos}
theorem akX{X:Cx}:Takes X WF:=fun u s' ⟨a,B,sI,pins,σ,H,cls,d,e,I,nb,up,sky,na,os,ag,w⟩=>False.elim w
theorem alk{scope:Scope}{own:List (Str×Nat)}{it:IF}{tgf:fK}{js:List Nat}{tt:QT}{te:QF}{ifs:List Expr}(hc:X.calm=true)(hN:X.N.Nodup)(hi:QI aj X W false tg iter it)(ok:blkC X.N X.env.scope scope own=true)(hj:∀j∈js,j∈own.map (·.2))
  (hg:∀(s:Shared) (H:Hp) (C:Addr) (cl:List (Str×Addr)) (fp:List Addr),QG aj (X.blk s H scope (compEnvC scope cl C X.env) fp) tg js tgf)
  (ht:∀(s:Shared) (H:Hp) (C:Addr) (cl:List (Str×Addr)) (fp:List Addr),PTs (X.blk s H scope (compEnvC scope cl C X.env) fp) ifs (jJ X.K aj WF tt))
  (he:∀(s:Shared) (H:Hp) (C:Addr) (cl:List (Str×Addr)) (fp:List Addr),QE aj (X.blk s H scope (compEnvC scope cl C X.env) fp) WF elt te) (hs:∀x,foldedSetIterable iter X.env x=pure x) :
  QE aj X W (.ListComp elt [⟨tg,iter,ifs,0⟩] scope pos) (dH it tgf (own.map (·.2)) tt te):=
 PE.weak (pe_lc (g:=xO X.K aj js tgf) (tt:=jJ X.K aj WF tt) (te:=tQ X.K aj WF te) hc hN hi (blkOk_by ok) (fun s H C cl fp=>hg s H C cl fp) ht (fun s H C cl fp=>he s H C cl fp) hs) fun σ H Q h=>agk hj σ H Q h
theorem alM{scope:Scope}{own:List (Str×Nat)}{it:IF}{tgf:fK}{js:List Nat}{tt:QT}{te:QF}{ifs:List Expr}(hc:X.calm=true)(hN:X.N.Nodup)(hi:QI aj X W false tg iter it)(ok:blkC X.N X.env.scope scope own=true)(hj:∀j∈js,j∈own.map (·.2))
  (hg:∀(s:Shared) (H:Hp) (C:Addr) (cl:List (Str×Addr)) (fp:List Addr),QG aj (X.blk s H scope (compEnvC scope cl C X.env) fp) tg js tgf)
  (ht:∀(s:Shared) (H:Hp) (C:Addr) (cl:List (Str×Addr)) (fp:List Addr),PTs (X.blk s H scope (compEnvC scope cl C X.env) fp) ifs (jJ X.K aj WF tt))
  (he:∀(s:Shared) (H:Hp) (C:Addr) (cl:List (Str×Addr)) (fp:List Addr),QE aj (X.blk s H scope (compEnvC scope cl C X.env) fp) WF elt te) (hs:∀x,foldedSetIterable iter X.env x=pure x) :
  PE X (.ListComp elt [⟨tg,iter,ifs,0⟩] scope pos) (tFr X.K aj W (Bb it tgf (own.map (·.2)) tt te)):=
 PE.weak (pe_lc (g:=xO X.K aj js tgf) (tt:=jJ X.K aj WF tt) (te:=tQ X.K aj WF te) hc hN hi (blkOk_by ok) (fun s H C cl fp=>hg s H C cl fp) ht (fun s H C cl fp=>he s H C cl fp) hs) fun σ H Q h=>Zm hj σ H Q h
end
def bf.sat{α:Type}(o:bf α)(P:α->Mo->Prop)(E:dU->Mo->Prop):Prop:=
 match o with
 |.ok a M=>P a M
 |.exc x M=>E x M
 |.bad=>False
def bf.bind{α β:Type}(o:bf α)(k:α->Mo->bf β):bf β:=
 match o with
 |.ok a M=>k a M
 |.exc x M=>.exc x M
 |.bad=>.bad
@[simp]theorem bf.zH {α β:Type} (a:α) (M:Mo) (k:α->Mo->bf β):(bf.ok a M).bind k=k a M:=rfl
@[simp]theorem bf.afB {α β:Type} (x:dU) (M:Mo) (k:α->Mo->bf β):(bf.exc x M:bf α).bind k=.exc x M:=rfl
@[simp]theorem bf.afj {α β:Type} (k:α->Mo->bf β):(bf.bad:bf α).bind k=.bad:=rfl
theorem bf.sat.bnd{α β:Type}{o:bf α}{k:α->Mo->bf β}{P:β->Mo->Prop}{E:dU->Mo->Prop}(h:(o.bind k).sat P E):o.sat (fun a M=>(k a M).sat P E) E:=by
 cases o <;> exact h
theorem bf.sat.mono{α:Type}{o:bf α}{P P':α->Mo->Prop}{E E':dU->Mo->Prop}(h:o.sat P E)(hp:∀a M,P a M->P' a M)(he:∀x M,E x M->E' x M):o.sat P' E':=by
 cases o
 ·exact hp _ _ h
 ·exact he _ _ h
 ·exact h
def Out.at{α:Type}(o:Out α)(M:Mo):bf α:=
 match o with
 |.ok a=>.ok a M
 |.exc x=>.exc x M
 |.bad=>.bad
@[simp]theorem Out.aqR {α:Type} (a:α) (M:Mo):(Out.ok a).at M=.ok a M:=rfl
@[simp]theorem Out.apz {α:Type} (x:dU) (M:Mo):(Out.exc x:Out α).at M=.exc x M:=rfl
@[simp]theorem Out.ao3 {α:Type} (M:Mo):(Out.bad:Out α).at M=.bad:=rfl
theorem Out.jm{α:Type}{o:Out α}{M:Mo}{P:α->Mo->Prop}{E:dU->Mo->Prop}(h:(o.at M).sat P E):o.sat (fun a=>P a M) fun x=>E x M:=by
 cases o <;> exact h
abbrev GF:=Mo->Env->bf Dat
abbrev GT:=Mo->Env->bf Bool
def tM.sat(o:tM)(nx:Env->Mo->Prop)(rt:Dat->Mo->Prop)(bk ct:Env->Mo->Prop)(ex:dU->Env->Mo->Prop):Prop:=
 match o with
 |.next ρ M=>nx ρ M
 |.ret d M=>rt d M
 |.brk ρ M=>bk ρ M
 |.cont ρ M=>ct ρ M
 |.exc x ρ M=>ex x ρ M
 |.bad=>False
theorem tM.sat.mono{o:tM}{nx nx':Env->Mo->Prop}{rt rt':Dat->Mo->Prop}{bk bk' ct ct':Env->Mo->Prop}{ex ex':dU->Env->Mo->Prop}(h:o.sat nx rt bk ct ex)(h1:∀ρ M,nx ρ M->nx' ρ M)(h2:∀d M,rt d M->rt' d M)(h3:∀ρ M,bk ρ M->bk' ρ M)(h4:∀ρ M,ct ρ M->ct' ρ M)(h5:∀x ρ M,ex x ρ M->ex' x ρ M):o.sat nx' rt' bk' ct' ex':=by
 cases o
 ·exact h1 _ _ h
 ·exact h2 _ _ h
 ·exact h3 _ _ h
 ·exact h4 _ _ h
 ·exact h5 _ _ _ h
 ·exact h
abbrev SF:=Mo->Env->tM
def Gh.fr(g:Gh):Gh:={ g with Lo:=fun _=>False }
section
variable(K:aqZ)(aj:aQ)(W:WX)(q:Bool)
def gE(g:Gh)(H:Hp)(σ:L2.St)(ρ:Env)(x:dU)(M':Mo):Prop:=∀H' g' c dd,Gr q g g' H H'->SInv K aj σ H' g' ρ M'->qY K aj g' H' x c dd->W c dd σ H'
def tE(f:GF):TE:=fun σ H Q=>∃g ρ M,SInv K aj σ H g ρ M/\(f M ρ).sat (fun d M'=>∀v H' g',Gr q g g' H H'->SInv K aj σ H' g' ρ M'->Rep K g' H' v d->Q v H') (gE K aj W q g H σ ρ)
def tET(f:GT):TT:=fun σ H Q=>∃g ρ M,SInv K aj σ H g ρ M/\(f M ρ).sat (fun b M'=>∀H' g',Gr q g g' H H'->SInv K aj σ H' g' ρ M'->Q b H') (gE K aj W q g H σ ρ)
def sN(k:L2.St->Hp->Prop)(g:Gh)(H:Hp)(ρ':Env)(M':Mo):Prop:=∀σ' H' g',Gr q g g' H H'->SInv K aj σ' H' g' ρ' M'->k σ' H'
def sR(k:VK)(g:Gh)(H:Hp)(d:Dat)(M':Mo):Prop:=∀v H' g',Gr q g g' H H'->Kd g'.fr H'->fZ K aj g'.fr H' M'->Rep K g'.fr H' v d->k v H'
def sX(g:Gh)(H:Hp)(x:dU)(ρ':Env)(M':Mo):Prop:=∀σ' H' g' c dd,Gr q g g' H H'->SInv K aj σ' H' g' ρ' M'->qY K aj g'.fr H' x c dd->W c dd σ' H'
def tS(f:SF):TS:=fun D σ H=>∃g ρ M,SInv K aj σ H g ρ M/\(f M ρ).sat (sN K aj q D.nx g H) (sR K aj q D.rt g H) (sN K aj q D.bk g H) (sN K aj q D.ct g H) (sX K aj W q g H)
end
section
variable{K:aqZ}{aj:aQ}{W:WX}{q:Bool}{g g1:Gh}{H H1:Hp}{σ:L2.St}{ρ:Env}{M:Mo}
theorem gE.gr{x:dU}{M':Mo}(r:Gr q g g1 H H1)(h:gE K aj W q g H σ ρ x M'):gE K aj W q g1 H1 σ ρ x M':=fun H' g' c dd r' I z=>h H' g' c dd (r.trans r') I z
theorem sN.gr{k:L2.St->Hp->Prop}{ρ':Env}{M':Mo}(r:Gr q g g1 H H1)(h:sN K aj q k g H ρ' M'):sN K aj q k g1 H1 ρ' M':=fun σ' H' g' r' I=>h σ' H' g' (r.trans r') I
theorem sR.gr{k:VK}{d:Dat}{M':Mo}(r:Gr q g g1 H H1)(h:sR K aj q k g H d M'):sR K aj q k g1 H1 d M':=fun v H' g' r' I z y=>h v H' g' (r.trans r') I z y
theorem sX.gr{x:dU}{ρ':Env}{M':Mo}(r:Gr q g g1 H H1)(h:sX K aj W q g H x ρ' M'):sX K aj W q g1 H1 x ρ' M':=fun σ' H' g' c dd r' I z=>h σ' H' g' c dd (r.trans r') I z
theorem tE.go{f:GF}{k:Dat->Mo->Prop}{Q:VK}(I:SInv K aj σ H g ρ M)(h:(f M ρ).sat k (gE K aj W q g H σ ρ))(hk:∀d M' v H' g',k d M'->Gr q g g' H H'->SInv K aj σ H' g' ρ M'->Rep K g' H' v d->Q v H'):tE K aj W q f σ H Q:=
 ⟨g,ρ,M,I,h.mono (fun d M' hd v H' g' e I' r=>hk d M' v H' g' hd e I' r) fun _ _ z=>z⟩
theorem tET.go{f:GT}{k:Bool->Mo->Prop}{Q:Bool->Hp->Prop}(I:SInv K aj σ H g ρ M)(h:(f M ρ).sat k (gE K aj W q g H σ ρ))(hk:∀b M' H' g',k b M'->Gr q g g' H H'->SInv K aj σ H' g' ρ M'->Q b H'):tET K aj W q f σ H Q:=
 ⟨g,ρ,M,I,h.mono (fun d M' hd H' g' e I'=>hk d M' H' g' hd e I') fun _ _ z=>z⟩
theorem tS.go{f:SF}{D:Ends}(I:SInv K aj σ H1 g1 ρ M)(r:Gr q g g1 H H1)(h:(f M ρ).sat (sN K aj q D.nx g H) (sR K aj q D.rt g H) (sN K aj q D.bk g H) (sN K aj q D.ct g H) (sX K aj W q g H)):tS K aj W q f D σ H1:=
 ⟨g1,ρ,M,I,h.mono (fun _ _ z=>z.gr r) (fun _ _ z=>z.gr r) (fun _ _ z=>z.gr r) (fun _ _ z=>z.gr r) (fun _ _ _ z=>z.gr r)⟩
theorem lA.less{g':Gh}{fs:List (Str×V)}{gs:List (Str×Dat)}(e:g'.tbl=g.tbl)(n:∀a,g'.A a->g.A a)(h:lA K g H fs gs):lA K g' H fs gs:=by
 induction h with
 |nil=>exact .nil
 |cons r _ ih=>exact .cons (r.less e n) ih
theorem qY.less{g':Gh}{x:dU}{c:Value}{dd:Option Addr}(e:g'.tbl=g.tbl)(n:∀a,g'.A a->g.A a)(h:qY K aj g H x c dd):qY K aj g' H x c dd:=by
 obtain⟨C,h1,h2,h3⟩:=h
 refine⟨C,h1,h2,h3.imp id fun⟨a,fs,e1,e2,e3⟩=>⟨a,fs,e1,e2,e3.less e n⟩⟩
theorem wO(g:Gh):∀a,g.fr.A a->g.A a:=fun a z=>z.elim .inl fun z=>.inr (z.elim .inl fun z=>False.elim z)
theorem Rep.fr{v:V}{d:Dat}(h:Rep K g H v d):Rep K g.fr H v d:=Rep.less (g:=g) (g':=g.fr) rfl (wO g) h
theorem aM.fr{v:List V}{d:List Dat}(h:aM K g H v d):aM K g.fr H v d:=aM.less (g:=g) (g':=g.fr) rfl (wO g) h
theorem qY.fr{x:dU}{c:Value}{dd:Option Addr}(h:qY K aj g H x c dd):qY K aj g.fr H x c dd:=qY.less (g:=g) (g':=g.fr) rfl (wO g) h
end
def GE(aj:aQ)(X:Cx)(W:WX)(q:Bool)(e:Expr)(f:GF):Prop:=PE X e (tE X.K aj W q f)
def GTe(aj:aQ)(X:Cx)(W:WX)(q:Bool)(e:Expr)(f:GT):Prop:=PT X e (tET X.K aj W q f)
def SE(aj:aQ)(X:Cx)(W:WX)(q:Bool)(s:Stmt)(f:SF):Prop:=PS X s (tS X.K aj W q f)
def JV(aj:aQ)(X:Cx)(W:WX)(q:Bool)(s:List Stmt)(f:SF):Prop:=PSs X s (tS X.K aj W q f)
theorem PS.weak{X:Cx}{e:Stmt}{t t':TS}(h:PS X e t)(k:∀D σ H,t' D σ H->t D σ H):PS X e t':=⟨fun pins s σ H D I z=>h.run pins s σ H D I (k D σ H z)⟩
theorem PSs.weak{X:Cx}{e:List Stmt}{t t':TS}(h:PSs X e t)(k:∀D σ H,t' D σ H->t D σ H):PSs X e t':=⟨fun pins s σ H D I z=>h.run pins s σ H D I (k D σ H z)⟩
def gOf(f:QF):GF:=fun M ρ=>(f M ρ).at M
def afk(f:QT):GT:=fun M ρ=>(f M ρ).at M
section
variable{X:Cx}{aj:aQ}{W:WX}{q:Bool}{a b e:Expr}{pos:Pos}
theorem agh{f:QF}(h:QE aj X W e f):GE aj X W q e (gOf f):=PE.weak h fun σ H Q ⟨g,ρ,M,I,z⟩=>
 ⟨g,ρ,M,I,(Out.jm z).mono (fun d k v H' e r=>k v H' g (Gr.ex e) (I.ex e) r) fun x k H' c dd e r=>k H' g c dd (Gr.ex e) (I.ex e) r⟩
theorem alh{f:QT}(h:tD aj X W e f):GTe aj X W q e (afk f):=PT.weak h fun σ H Q ⟨g,ρ,M,I,z⟩=>
 ⟨g,ρ,M,I,(Out.jm z).mono (fun d k H' e=>k H' g (Gr.ex e) (I.ex e)) fun x k H' c dd e r=>k H' g c dd (Gr.ex e) (I.ex e) r⟩
def aU:SF:=fun M ρ=>.next ρ M
def aD(f k:SF):SF:=fun M ρ=>match f M ρ with
 |.next ρ' M'=>k M' ρ'
 |o=>o
theorem aj8:JV aj X W q [] aU:=PSs.weak pss_nil fun D σ H ⟨g,ρ,M,I,z⟩=>z σ H g .refl I
theorem ajP{s:Stmt}{f:SF}(h:SE aj X W q s f):JV aj X W q [s] f:=pss_one h
theorem ahO{s:Stmt}{ss:List Stmt}{f k:SF}(h:SE aj X W q s f)(hs:JV aj X W q ss k):JV aj X W q (s::ss) (aD f k):=by
 refine PSs.weak (pss_cons h hs) fun D σ H ⟨g,ρ,M,I,z⟩=>?_
 refine⟨g,ρ,M,I,?_⟩
 unfold aD at z
 cases hf:f M ρ with
 |next ρ' M'=>
  rw[hf]at z
  exact fun σ' H' g' r I'=>tS.go I' r z
 |ret d M'=>rw[hf]at z;exact z
 |brk ρ' M'=>rw[hf]at z;exact z
 |cont ρ' M'=>rw[hf]at z;exact z
 |exc x ρ' M'=>rw[hf]at z;exact z
 |bad=>rw[hf]at z;exact z
def bf.then{α:Type}(o:bf α)(ρ:Env)(k:α->Mo->tM):tM:=
 match o with
 |.ok a M=>k a M
 |.exc x M=>.exc x ρ M
 |.bad=>.bad
@[simp]theorem bf.aok {α:Type} (a:α) (M:Mo) (ρ:Env) (k:α->Mo->tM):(bf.ok a M).then ρ k=k a M:=rfl
@[simp]theorem bf.ani {α:Type} (x:dU) (M:Mo) (ρ:Env) (k:α->Mo->tM):(bf.exc x M:bf α).then ρ k=.exc x ρ M:=rfl
@[simp]theorem bf.anm {α:Type} (ρ:Env) (k:α->Mo->tM):(bf.bad:bf α).then ρ k=.bad:=rfl
theorem dD{α:Type}{K:aqZ}{g:Gh}{H:Hp}{σ:L2.St}{ρ:Env}{o:bf α}{k:α->Mo->tM}{nx bk ct:Env->Mo->Prop}{rt:Dat->Mo->Prop}(h:(o.then ρ k).sat nx rt bk ct (sX K aj W q g H)):o.sat (fun a M=>(k a M).sat nx rt bk ct (sX K aj W q g H)) (gE K aj W q g H σ ρ):=by
 cases o with
 |ok a M=>exact h
 |exc x M=>exact fun H' g' c dd r I z=>h σ H' g' c dd r I z.fr
 |bad=>exact h
def bB(tg:fK)(f:GF):SF:=fun M ρ=>(f M ρ).then ρ fun d M'=>match tg d ρ with
 |some ρ'=>.next ρ' M'
 |none=>.bad
theorem XD{tg:Expr}{js:List Nat}{tf:fK}{f:GF}(he:GE aj X W q e f)(hg:QG aj X tg js tf)(hs:swapsWithSole [tg] e pos.line X.env=pure false)(hw:swappedStores [tg] e X.env=pure none)(h1:(assignEach [tg] X.env).map (·.2)=[assign tg X.env]):SE aj X W q (.Assign [tg] e pos) (bB tf f):=by
 refine PS.weak (ps_asg he hg hs hw h1) fun D σ H ⟨g,ρ,M,I,z⟩=>?_
 refine tE.go I (dD (σ:=σ) z) fun d M' v H' g' k r I' rv=>?_
 split at k
 ·next ρ' e'=>exact⟨g',ρ,M',d,ρ',I',rv,e',fun vs I2=>k _ H' g' r I2⟩
 ·exact False.elim k
def cD(f:GF):SF:=fun M ρ=>(f M ρ).then ρ fun _ M'=>.next ρ M'
theorem Vb{f:GF}(he:GE aj X W q e f)(hs:swapsWith e none pos.line X.env=pure false):SE aj X W q (.Expr e pos) (cD f):=by
 refine PS.weak (ps_expr he hs) fun D σ H ⟨g,ρ,M,I,z⟩=>?_
 exact tE.go I (dD (σ:=σ) z) fun d M' v H' g' k r I' rv=>k σ H' g' r I'
end
def Rh:Cell->Cell
 |.mut xs=>.dat (.list xs)
 |c=>c
def sE(ρ:Env):Env:=ρ.map fun o=>o.map Rh
section
variable{K:aqZ}{aj:aQ}{W:WX}{q:Bool}{g:Gh}{H:Hp}{σ:L2.St}{ρ:Env}{M:Mo}
theorem jC.less{g':Gh}{l:Addr}(e:g'.tbl=g.tbl)(n:∀a,g'.A a->g.A a):∀{b:Bool} {kvs:List (Dat×Dat)},jC K aj g H l b kvs->jC K aj g' H l b kvs
 |false,_,⟨kv,h1,h2,h3⟩=>⟨kv,h1,h2,h3.less e n⟩
 |true,_,⟨o,xs,vs,h1,h2,h3,h4,h5,h6⟩=>⟨o,xs,vs,h1,h2,h3,h4.less e n,h5,h6.less e n⟩
theorem dY.less{g':Gh}{h:Nat}{f:Str}{v:V}(e:g'.tbl=g.tbl)(e2:g'.ow=g.ow)(n:∀a,g'.A a->g.A a):∀{fl:jk},dY K aj g H h f v fl->dY K aj g' H h f v fl
 |.dat _,z=>Rep.less e n z
 |.lst _ _,⟨l,us,h1,h2,h3,h4,h5⟩=>⟨l,us,h1,h2,by rw[e2];exact h3,h4.less e n,by rw[e];exact h5⟩
 |.dic _ _,⟨l,h1,h2,h3⟩=>⟨l,h1,by rw[e2];exact h2,h3.less e n⟩
theorem cJ.less{g':Gh}{h:Nat}(e:g'.tbl=g.tbl)(e2:g'.ow=g.ow)(n:∀a,g'.A a->g.A a):∀{fs:List (Str×V)} {gs:List (Str×jk)},cJ K aj g H h fs gs->cJ K aj g' H h fs gs
 |_,_,.nil=>.nil
 |_,_,.cons z t=>.cons (dY.less e e2 n z) (cJ.less e e2 n t)
theorem fZ.less{g':Gh}(e:g'.tbl=g.tbl)(e2:g'.ow=g.ow)(n:∀a,g'.A a->g.A a)(w:fZ K aj g H M):fZ K aj g' H M where
 len:=by rw[e];exact w.len
 inj:=by rw[e];exact w.inj
 ins:=fun h a i ha hi hc=>by
  rw[e]at ha
  obtain⟨C,dx,fs,c1,c2,c3⟩:=w.ins h a i ha hi hc
  exact⟨C,dx,fs,c1,c2,c3.less e e2 n⟩
 nd:=w.nd
 fd:=w.fd
 tw:=by rw[e,e2];exact w.tw
 dm:=w.dm
 nc:=w.nc
theorem PN{i:Nat}{c:Cell}(h:(sE ρ)[i]?=some (some c)):∃c',ρ[i]?=some (some c')/\c=Rh c':=by
 unfold sE at h
 rw[ard]at h
 cases hr:ρ[i]? with
 |none=>rw[hr]at h;cases h
 |some o=>
  rw[hr]at h
  cases o with
  |none=>cases h
  |some c'=>
   cases h
   exact⟨c',rfl,rfl⟩
theorem SInv.sE(I:SInv K aj σ H g ρ M):SInv K aj σ H g.fr (sE ρ) M where
 kd:=⟨fun a z=>I.kd.ob a (wO g a z),fun a z=>False.elim z,fun a z=>⟨(I.kd.lc a z).1,fun y=>y⟩⟩
 wok:=fZ.less (g:=g) (g':=g.fr) rfl rfl (wO g) I.wok
 len:=by unfold Rf.sE;rw[aq9];exact I.len
 dat:=fun i d h=>by
  obtain⟨c,h1,h2⟩:=PN h
  cases c with
  |dat d'=>
   cases h2
   obtain⟨v,e1,e2⟩:=I.dat i _ h1
   exact⟨v,e1,e2.fr⟩
  | «mut» xs=>
   cases h2
   obtain⟨l,us,e1,e2,e3,e4⟩:=I.own i _ h1
   refine⟨_,e1,.lst (.inl ⟨.inl e2,fun z=>?_⟩) e4.fr⟩
   rcases z with z|z|z
   ·exact I.kd.lo l e3 z
   ·exact(I.kd.lc l z).2 e3
   ·exact z
 own:=fun i xs h=>by
  obtain⟨c,h1,h2⟩:=PN h
  cases c <;> cases h2
 sep:=fun i j xs ys l ne h1=>by
  obtain⟨c,h1,h2⟩:=PN h1
  cases c <;> cases h2
end
section
variable{K:aqZ}{aj:aQ}{W:WX}{q:Bool}{g g':Gh}{H H':Hp}{σ:L2.St}{ρ:Env}{M:Mo}
theorem Kd.fr(k:Kd g H):Kd g.fr H:=⟨fun a z=>k.ob a (wO g a z),fun a z=>False.elim z,fun a z=>⟨(k.lc a z).1,fun y=>y⟩⟩
theorem fZ.fr(w:fZ K aj g H M):fZ K aj g.fr H M:=fZ.less (g:=g) (g':=g.fr) rfl rfl (wO g) w
theorem bH{α:Type}{l:List (Option α)}{j i:Nat}{c:α}{o:Option α}(h:(l.set j o)[i]?=some (some c)):(j=i/\o=some c/\j < l.length)∨(j≠i/\l[i]?=some (some c)):=by
 by_cases z:j=i
 ·subst z
  have hj:j < l.length:=by
   have:=(aq1.mp h).1
   rw[arw]at this
   exact this
  rw[arl hj]at h
  exact .inl ⟨rfl,arn h,hj⟩
 ·rw[aq8 z]at h
  exact .inr ⟨z,h⟩
theorem SInv.akT{j:Nat}{l:Addr}{us:List V}{xs:List Dat}(I:SInv K aj σ H g ρ M)(n:H l=none)(e:Ex H H')(hl:H' l=some (.lst us))(r:aM K (g.add l) H' us xs):SInv K aj (σ.set j (some (.ref l))) H' (g.add l) (ρ.set j (some (.mut xs))) M:=by
 have I1:=I.add n e hl trivial
 have nl:∀(i:Nat) (ys:List Dat),ρ[i]?=some (some (.mut ys))->σ[i]?≠some (some (.ref l)):=fun i ys h z=>by
  obtain⟨l',us',h1,h2,_⟩:=I.own i ys h
  rw[z]at h1
  cases h1
  rw[n]at h2
  cases h2
 refine⟨I1.kd,I1.wok,by rw[arw,arw];exact I.len,fun i d h=>?_,fun i ys h=>?_,fun i k ys zs a ne h1 h2 h3 h4=>?_⟩
 ·rcases bH h with⟨_,h,_⟩|⟨ne,h⟩
  ·cases h
  ·rw[aq8 ne]
   exact I1.dat i d h
 ·rcases bH h with⟨rfl,h,hj⟩|⟨ne,h⟩
  ·cases h
   exact⟨l,us,by rw[arl (by rw[I.len];exact hj)],hl,.inr rfl,r⟩
  ·rw[aq8 ne]
   exact I1.own i ys h
 ·rcases bH h1 with⟨rfl,h1,hj⟩|⟨n1,h1⟩
  ·rcases bH h2 with⟨rfl,h2,_⟩|⟨n2,h2⟩
   ·exact ne rfl
   ·rw[arl (by rw[I.len];exact hj)]at h3
    cases h3
    rw[aq8 n2]at h4
    exact nl k zs h2 h4
  ·rcases bH h2 with⟨rfl,h2,hj⟩|⟨n2,h2⟩
   ·rw[arl (by rw[I.len];exact hj)]at h4
    cases h4
    rw[aq8 n1]at h3
    exact nl i ys h1 h3
   ·rw[aq8 n1]at h3
    rw[aq8 n2]at h4
    exact I.sep i k ys zs a ne h1 h2 h3 h4
theorem dY.loc{l:Addr}{us us':List V}{h:Nat}{f:Str}{v:V}(k:Kd g H)(hl:H l=some (.lst us))(lo:g.Lo l):∀{fl:jk},dY K aj g H h f v fl->dY K aj g (upd H l (.lst us')) h f v fl:=fun {fl} z=>by
 have r:Gr true g g H (upd H l (.lst us')):=Gr.upd k hl (.inr lo)
 cases fl with
 |dat d=>exact Rep.gr r k z
 |lst n xs=>
  obtain⟨a,ws,h1,h2,h3,h4,h5⟩:=z
  exact⟨a,ws,h1,by rw[upd_ne (fun z=>by subst z;exact k.lo _ lo (.inr (by rw[h3];exact fun z=>nomatch z)))];exact h2,h3,h4.gr r k,h5⟩
 |dic n kvs=>
  obtain⟨a,h1,h2,h3⟩:=z
  have na:a≠l:=fun z=>by subst z;exact k.lo _ lo (.inr (by rw[h2];exact fun z=>nomatch z))
  refine⟨a,h1,h2,?_⟩
  cases n with
  |false=>
   obtain⟨kv,h3,h4,h5⟩:=h3
   exact⟨kv,by rw[upd_ne na];exact h3,h4,h5.gr r k⟩
  |true=>
   obtain⟨o,xs,vs,h3,h4,h5,h6,h7,h8⟩:=h3
   exact⟨o,xs,vs,by rw[upd_ne na];exact h3,h4,h5,h6.gr r k,h7,h8.gr r k⟩
theorem cJ.loc{l:Addr}{us us':List V}{h:Nat}(k:Kd g H)(hl:H l=some (.lst us))(lo:g.Lo l):∀{fs:List (Str×V)} {gs:List (Str×jk)},cJ K aj g H h fs gs->cJ K aj g (upd H l (.lst us')) h fs gs
 |_,_,.nil=>.nil
 |_,_,.cons z t=>.cons (dY.loc k hl lo z) (cJ.loc k hl lo t)
theorem fZ.loc{l:Addr}{us us':List V}(k:Kd g H)(hl:H l=some (.lst us))(lo:g.Lo l)(w:fZ K aj g H M):fZ K aj g (upd H l (.lst us')) M where
 len:=w.len
 inj:=w.inj
 ins:=fun h a i ha hi hc=>by
  obtain⟨C,dx,fs,c1,c2,c3⟩:=w.ins h a i ha hi hc
  exact⟨C,dx,fs,c1,by rw[upd_ne (fun z=>by subst z;exact k.lo _ lo (.inl (aq6 ha)))];exact c2,c3.loc k hl lo⟩
 nd:=w.nd
 fd:=w.fd
 tw:=w.tw
 dm:=w.dm
 nc:=w.nc
theorem SInv.change{j:Nat}{xs ys:List Dat}(I:SInv K aj σ H g ρ M)(hj:ρ[j]?=some (some (.mut xs))):∃l us,σ[j]?=some (some (.ref l))/\H l=some (.lst us)/\g.Lo l/\aM K g H us xs/\∀us',aM K g H us' ys->SInv K aj σ (upd H l (.lst us')) g (ρ.set j (some (.mut ys))) M:=by
 obtain⟨l,us,h1,h2,h3,h4⟩:=I.own j xs hj
 refine⟨l,us,h1,h2,h3,h4,fun us' r=>?_⟩
 have gr:Gr true g g H (upd H l (.lst us')):=Gr.upd I.kd h2 (.inr h3)
 refine⟨I.kd.upd trivial,I.wok.loc I.kd h2 h3,by rw[arw];exact I.len,fun i d h=>?_,fun i zs h=>?_,fun i k zs ws a ne e1 e2 e3 e4=>?_⟩
 ·rcases bH h with⟨_,h,_⟩|⟨ne,h⟩
  ·cases h
  ·obtain⟨v,e1,e2⟩:=I.dat i d h
   exact⟨v,e1,e2.gr gr I.kd⟩
 ·rcases bH h with⟨rfl,h,_⟩|⟨ne,h⟩
  ·cases h
   exact⟨l,us',h1,upd_same,h3,r.gr gr I.kd⟩
  ·obtain⟨l',ws,e1,e2,e3,e4⟩:=I.own i zs h
   have nl:l'≠l:=fun z=>by
    subst z
    exact I.sep i j zs xs l' (Ne.symm ne) h hj e1 h1
   exact⟨l',ws,e1,by rw[upd_ne nl];exact e2,e3,e4.gr gr I.kd⟩
 ·have k1:∃xs,ρ[i]?=some (some (.mut xs)):=by
   rcases bH e1 with⟨rfl,_,_⟩|⟨_,h⟩
   ·exact⟨xs,hj⟩
   ·exact⟨zs,h⟩
  have k2:∃xs,ρ[k]?=some (some (.mut xs)):=by
   rcases bH e2 with⟨rfl,_,_⟩|⟨_,h⟩
   ·exact⟨xs,hj⟩
   ·exact⟨ws,h⟩
  obtain⟨x1,k1⟩:=k1
  obtain⟨x2,k2⟩:=k2
  exact I.sep i k x1 x2 a ne k1 k2 e3 e4
end
section
variable{X:Cx}{aj:aQ}{W:WX}{q:Bool}{a b e:Expr}{pos:Pos}
def aR(f:QF):SF:=fun M ρ=>((f M (sE ρ)).at M).then ρ fun d M'=>.ret d M'
def iG(f:GF):SF:=fun M ρ=>(f M ρ).then ρ fun d M'=>.ret d M'
theorem akW{f:QF}(he:QE aj X W e f):SE aj X W q (.Return (some e) pos) (aR f):=by
 refine PS.weak (ps_ret he) fun D σ H ⟨g,ρ,M,I,z⟩=>?_
 refine⟨g.fr,sE ρ,M,I.sE,?_⟩
 unfold aR at z
 cases hf:f M (sE ρ) with
 |ok d=>
  rw[hf]at z
  exact fun v H' e r=>z v H' g (Gr.ex e) (I.ex e).kd.fr (I.ex e).wok.fr r
 |exc x=>
  rw[hf]at z
  exact fun H' c dd e r=>z σ H' g c dd (Gr.ex e) (I.ex e) r
 |bad=>rw[hf]at z;exact False.elim z
theorem agH{f:GF}(he:GE aj X W q e f):SE aj X W q (.Return (some e) pos) (iG f):=by
 refine PS.weak (ps_ret he) fun D σ H ⟨g,ρ,M,I,z⟩=>?_
 exact tE.go I (dD (σ:=σ) z) fun d M' v H' g' k r I' rv=>k v H' g' r I'.kd.fr I'.wok.fr rv.fr
def bW(t:QT)(f k:SF):SF:=fun M ρ=>((t M (sE ρ)).at M).then ρ fun c M'=>if c=true then f M' ρ else k M' ρ
def ank(t:GT)(f k:SF):SF:=fun M ρ=>(t M ρ).then ρ fun c M'=>if c=true then f M' ρ else k M' ρ
theorem alS{c:Expr}{s1 s2:List Stmt}{t:QT}{f k:SF}(hc:tD aj X W c t)(h1:JV aj X W q s1 f)(h2:JV aj X W q s2 k):SE aj X W q (.If c s1 s2 pos) (bW t f k):=by
 refine PS.weak (ps_if hc h1 h2) fun D σ H ⟨g,ρ,M,I,z⟩=>?_
 refine⟨g.fr,sE ρ,M,I.sE,?_⟩
 unfold bW at z
 cases hf:t M (sE ρ) with
 |ok d=>
  rw[hf]at z
  intro H' e
  cases d with
  |true=>exact tS.go (I.ex e) (Gr.ex e) z
  |false=>exact tS.go (I.ex e) (Gr.ex e) z
 |exc x=>
  rw[hf]at z
  exact fun H' c dd e r=>z σ H' g c dd (Gr.ex e) (I.ex e) r
 |bad=>rw[hf]at z;exact False.elim z
def gR(tg:fK)(body:SF):List Dat->Mo->Env->tM
 |[],M,ρ=>.next ρ M
 |d::ds,M,ρ=>match tg d ρ with
  |none=>.bad
  |some ρ1=>match body M ρ1 with
   |.next ρ2 M2=>gR tg body ds M2 ρ2
   |.cont ρ2 M2=>gR tg body ds M2 ρ2
   |.brk ρ2 M2=>.next ρ2 M2
   |.ret d M2=>.ret d M2
   |.exc x ρ2 M2=>.exc x ρ2 M2
   |.bad=>.bad
def qM(it:IF)(tg:fK)(body:SF):SF:=fun M ρ=>((it M ρ).at M).then ρ fun ds M'=>gR tg body ds M' ρ
theorem akb{tg iter:Expr}{body:List Stmt}{it:IF}{js:List Nat}{tf:fK}{f:SF}(hp:PassesOwn (model X.prog X.w) X.A X.env X.xe)(hc:X.calm=true)(hi:QI aj X W true tg iter it)(hg:QG aj X tg js tf)(hb:JV aj X W q body f)(hs:∀x,foldedSetIterable iter X.env x=pure x) :
  SE aj X W q (.For tg iter body [] pos) (qM it tf f):=by
 refine PS.weak (ps_for hp hc hi hg hb hs) fun D σ H ⟨g,ρ,M,I,z⟩=>?_
 refine⟨g,ρ,M,I,?_⟩
 unfold qM at z
 cases hf:it M ρ with
 |exc x=>
  rw[hf]at z
  exact fun H' c dd e r=>z σ H' g c dd (Gr.ex e) (I.ex e) r.fr
 |bad=>rw[hf]at z;exact False.elim z
 |ok ds=>
  rw[hf]at z
  intro J C H1 e1 w c1 firm
  have firm:=firm rfl
  have z:(gR tf f ds M ρ).sat (sN X.K aj q D.nx g H) (sR X.K aj q D.rt g H) (sN X.K aj q D.bk g H) (sN X.K aj q D.ct g H) (sX X.K aj W q g H):=z
  let Pv:Nat->L2.St->Hp->Prop:=fun i σi Hi=>i<=ds.length/\∃gi ρi Mi,Gr q g gi H Hi/\SInv X.K aj σi Hi gi ρi Mi/\C gi Hi/\(gR tf f (ds.drop i) Mi ρi).sat (sN X.K aj q D.nx g H) (sR X.K aj q D.rt g H) (sN X.K aj q D.bk g H) (sN X.K aj q D.ct g H) (sX X.K aj W q g H)
  refine⟨fun i m σi Hi=>m=ds.length - i/\Pv i σi Hi,⟨ds.length,rfl,arO _,g,ρ,M,Gr.ex e1,I.ex e1,c1,by rw[asq];exact z⟩,?_⟩
  rintro i m σi Hi ⟨rfl,hi,gi,ρi,Mi,ri,Ii,Ci,zi⟩
  by_cases hlt:i < ds.length
  ·refine .inr ⟨w.go _ i Hi Ci hlt,Pv (i+1),fun σ' H' p=>⟨ds.length - (i+1),by omega,rfl,p⟩,fun x H' y=>?_⟩
   have hd:ds[i]?=some ds[i]:=aq2 hlt
   obtain⟨e2,rx⟩:=w.yld _ i Hi x H' _ Ii.kd Ci hd y
   rw[arR hlt,gR]at zi
   split at zi
   ·exact False.elim zi
   ·next ρ1 he=>
    have I2:=Ii.ex e2
    refine⟨gi,ρi,Mi,_,ρ1,I2,rx,he,fun vs I3=>⟨gi,ρ1,Mi,I3,?_⟩⟩
    have r2:=ri.trans (Gr.ex e2)
    cases hb':f Mi ρ1 with
    |next ρ2 M2=>
     rw[hb']at zi
     exact fun σ' H2 g2 r I'=>⟨hlt,g2,ρ2,M2,r2.trans r,I',firm q gi g2 H' H2 I2.kd (w.ex _ _ _ Ii.kd Ci e2) r,zi⟩
    |cont ρ2 M2=>
     rw[hb']at zi
     exact fun σ' H2 g2 r I'=>⟨hlt,g2,ρ2,M2,r2.trans r,I',firm q gi g2 H' H2 I2.kd (w.ex _ _ _ Ii.kd Ci e2) r,zi⟩
    |brk ρ2 M2=>
     rw[hb']at zi
     exact sN.gr r2 zi
    |ret d M2=>
     rw[hb']at zi
     exact sR.gr r2 zi
    |exc x ρ2 M2=>
     rw[hb']at zi
     exact sX.gr r2 zi
    |bad=>rw[hb']at zi;exact False.elim zi
  ·have e:i=ds.length:=by omega
   refine .inl ⟨w.stop _ i Hi Ci e,?_⟩
   rw[e,arY]at zi
   exact zi σi Hi gi ri Ii
def Qc(j:Nat)(f:QF):SF:=fun M ρ=>match ρ[j]? with
 |some (some (.dat (.int i)))=>((f M ρ).at M).then ρ fun d M'=>match d with
  |.int k=>.next (ρ.set j (some (.dat (.int (i+k))))) M'
  |_=>.bad
 |_=>.bad
theorem aiY{j:Nat}{x:Str}{f:QF}{pos':Pos}(hN:X.N.Nodup)(hi:X.N[j]?=some x)(hx:Loc X.env.scope x)(hf:X.fn x=true∨X.env.scope.names.lookup x=some .local)(he:QE aj X W e f):SE aj X W q (.AugAssign (.Name x pos') .Add e pos) (Qc j f):=by
 refine PS.weak (ps_aug hN hi hx he ip_add hf) fun D σ H ⟨g,ρ,M,I,z⟩=>?_
 unfold Qc at z
 split at z
 ·next i hj=>
  obtain⟨v,h1,h2⟩:=I.dat j _ hj
  cases h2
  refine⟨.int i,h1,⟨g,ρ,M,I,?_⟩⟩
  cases hf':f M ρ with
  |exc x=>rw[hf']at z;exact fun H' c dd e r=>z σ H' g c dd (Gr.ex e) (I.ex e) r.fr
  |bad=>rw[hf']at z;exact False.elim z
  |ok d=>
   rw[hf']at z
   intro u H' e r
   cases d with
   |int k=>
    cases r
    exact⟨i,k,rfl,rfl,z _ H' g (Gr.ex e) ((I.ex e).set (.int _))⟩
   |_=>exact False.elim z
 ·exact False.elim z
def FE(aj:aQ)(X:Cx)(W:WX)(e:Expr)(f:IF):Prop:=PE X e (tFr X.K aj W f)
def IV(j:Nat)(f:IF):SF:=fun M ρ=>((f M ρ).at M).then ρ fun xs M'=>.next (ρ.set j (some (.mut xs))) M'
theorem ac1{j:Nat}{f:IF}(D:Ends)(σ:L2.St)(H:Hp)(h:tS X.K aj W q (IV j f) D σ H):tAsg (tFr X.K aj W f) (gName j) D σ H:=by
 obtain⟨g,ρ,M,I,z⟩:=h
 refine⟨g,ρ,M,I,?_⟩
 unfold IV at z
 cases hf:f M ρ with
 |exc x=>rw[hf]at z;exact fun H' c dd e r=>z σ H' g c dd (Gr.ex e) (I.ex e) r.fr
 |bad=>rw[hf]at z;exact False.elim z
 |ok xs=>
  rw[hf]at z
  intro l us H' n e hl r
  have gr:Gr true g (g.add l) H H':=Gh.CN n e
  refine z _ H' (g.add l) ?_ (I.akT n e hl r)
  cases q with
  |true=>exact gr
  |false=>exact gr.loud
theorem adz{j:Nat}{x:Str}{f:IF}{pos':Pos}(hN:X.N.Nodup)(hi:X.N[j]?=some x)(hx:Loc X.env.scope x)(hf:X.fn x=true∨X.env.scope.names.lookup x=some .local)(he:FE aj X W e f)(hs:swapsWith e (some (.Name x pos')) pos.line X.env=pure false):SE aj X W q (.Assign [.Name x pos'] e pos) (IV j f):=
 PS.weak (ps_set hN hi hx he hs hf) fun D σ H h=>ac1 D σ H h
def Ro(f:QA):IF:=fun M ρ=>(f M ρ).bind fun xs=>Out.when (decide (xs.length<=100000)) (.ok xs)
theorem afS{K:aqZ}{g:Gh}{H:Hp}{l:Addr}{vs:List V}{ds:List Dat}(k:Kd g H)(n:H l=none)(r:aM K g H vs ds){o:HO}:aM K (g.add l) (upd H l o) vs ds:=r.gr (Gh.CN n (Ex.new n)) k
theorem aiy{es:List Expr}{fr:QA}(h:Dt aj X W es fr):FE aj X W (.List es pos) (Ro fr):=
 PE.weak (pe_lst h) fun σ H Q ⟨g,ρ,M,I,h⟩=>by
  refine Oc.go I h.bnd fun ds vs H1 h1 e1 r1=>?_
  obtain⟨hz,h1⟩:=h1.pJ
  have hl:vs.length<=100000:=by
   rw[r1.length]
   exact of_decide_eq_true hz
  exact⟨sz_of hl,fun p np=>h1 p vs _ (Dh e1 p np) (e1.trans (Ex.new np)) upd_same (afS (I.kd.ex e1) np r1)⟩
def Xx:Dat->Out (List Dat)
 |.list ds=>.ok ds
 |.tuple ds=>.ok ds
 |_=>.bad
def afc(f:QF):IF:=fun M ρ=>(f M ρ).bind Xx
def baseOk:Expr->Bool
 |.Call (.Name _ _) _ _ _=>false
 |_=>true
theorem mU{o:Expr}{m:Str}{env:PySem.Env}{w:Sem Value}(h:baseOk o=true):attributeBase o m env w=w:=by
 cases o with
 | Call f as ks p=>cases f <;> first | rfl | cases h
 |_=>rfl
theorem Y0{env:PySem.Env}{pos:Pos}:∀(es:List Expr),es.all nst=true->(backTo pos (starEach es env)).all (fun x=>!x.1)=true
 |[],_=>by with_unfolding_all rfl
 |a::es,h=>by
  rw[arK,aq0]at h
  rw[cH h.1]
  have ih:=Y0 (env:=env) (pos:=pos) es h.2
  unfold backTo at ih ⊢
  rw[aq3,arK,ih]
  rfl
theorem few{env:PySem.Env}{pos:Pos}{es:List Expr}(h:es.all nst=true)(hl:es.length < 30):((backTo pos (starEach es env)).all (fun x=>!x.1)&&(backToKw pos (keywordEach [] env)).all (fun x=>x.1.isSome)&&decide (es.length+([]:List Keyword).length+(if ([]:List Keyword).isEmpty then 0 else 1) < 30))=true:=by
 rw[Y0 es h]
 have:(backToKw pos (keywordEach [] env)).all (fun x=>x.1.isSome)=true:=by with_unfolding_all rfl
 rw[this]
 simpa using hl
def Pb(j:Nat)(f:QF):SF:=fun M ρ=>match ρ[j]? with
 |some (some (.mut xs))=>((f M ρ).at M).then ρ fun d M'=>if xs.length < 100000 then .next (ρ.set j (some (.mut (xs++[d])))) M' else .bad
 |_=>.bad
theorem aiu{j:Nat}{x:Str}{f:QF}{p apos:Pos}{epos:Pos}(hN:X.N[j]?=some x)(hv:Vis X.env.scope x)(hd:(x==("__debug__" : Str))=false)(hcd:(x==("__classdict__" : Str))=false)(he:QE aj X W e f)(hs:nst e=true)
  (hl:(apos.endLine==pos.line)=true):SE aj X W q (.Expr (.Call (.Attribute (.Name x p) "append" apos) [e] [] pos) epos) (Pb j f):=by
 have h0:=pe_var (X:=X) (pos:=p) hN hv hd hcd
 have h1:=pa_cons he pa_nil (cH hs [])
 have key:=pe_bm (X:=X) (cpos:=pos) (apos:=apos) PySem.F.plainAttrs_list PySem.F.slot_list_append PySem.F.type_list_append mt_append h0 h1 (mU rfl) (few (by simp[hs]) (by simp)) hl (cH hs []) (by with_unfolding_all rfl)
 refine PS.weak (ps_expr key (by with_unfolding_all rfl)) fun D σ H ⟨g,ρ,M,I,z⟩=>?_
 unfold Pb at z
 split at z
 ·next xs hj=>
  obtain⟨l,us,e1,e2,e3,e4⟩:=I.own j xs hj
  refine⟨.ref l,e1,.inl ⟨rfl,us,sq_of e2⟩,⟨g,ρ,M,I,?_⟩⟩
  cases hf:f M ρ with
  |exc x=>rw[hf]at z;exact fun H' c dd e r=>z σ H' g c dd (Gr.ex e) (I.ex e) r.fr
  |bad=>rw[hf]at z;exact False.elim z
  |ok d=>
   rw[hf]at z
   intro v H' e r
   have z:(if xs.length < 100000 then tM.next (ρ.set j (some (.mut (xs++[d])))) M else .bad).sat (sN X.K aj q D.nx g H) (sR X.K aj q D.rt g H) (sN X.K aj q D.bk g H) (sN X.K aj q D.ct g H) (sX X.K aj W q g H):=z
   split at z
   ·next hlen=>
    have I1:=I.ex e
    obtain⟨l',us',f1,f2,f3,f4,f5⟩:=I1.change (ys:=xs++[d]) hj
    rw[e1]at f1
    cases f1
    rw[e _ _ e2]at f2
    cases f2
    refine⟨l,us,v,rfl,rfl,e _ _ e2,sz_lt (by rw[e4.length];exact hlen),?_⟩
    exact z _ _ g ((Gr.ex e).trans (Gr.upd I1.kd (e _ _ e2) (.inr f3))) (f5 _ (f4.append (.cons r .nil)))
   ·exact False.elim z
 ·exact False.elim z
def alz(j:Nat)(fi f:QF):SF:=fun M ρ=>match ρ[j]? with
 |some (some (.mut xs))=>((f M ρ).at M).then ρ fun d M'=>((fi M' ρ).at M').then ρ fun i M2=>match i with
  |.int k=>match ixN xs.length k with
   |some n=>.next (ρ.set j (some (.mut (xs.set n d)))) M2
   |none=>.bad
  |_=>.bad
 |_=>.bad
end
structure Gc(g g':Gh)(H H':Hp):Prop where
 keep:∀a o,H a=some o->¬g.W a->H' a=some o
 dom:∀a,H' a=none->H a=none
 tbl:∃more,g'.tbl=g.tbl++more
 W:∀a,g.W a->g'.W a
 nW:∀a,g'.W a->g.W a∨H a=none
 Lc:g'.Lc=g.Lc
 Lo:g'.Lo=g.Lo
def Vs(K:aqZ)(aj:aQ)(n:Nat)(m:Mo->List Dat->Out Dat):Sp:=fun vs H Q E=>vs.length=n/\∃g M ds,Kd g H/\fZ K aj g H M/\aM K g H vs ds/\
 (m M ds).sat (fun d=>∀v H',Ex H H'->Rep K g H' v d->Q v H') fun x=>∀H' c dd,Ex H H'->qY K aj g H' x c dd->E c dd H'
def JG(K:aqZ)(aj:aQ)(n:Nat)(m:Mo->List Dat->bf Dat):Sp:=fun vs H Q E=>vs.length=n/\∃g M ds,Kd g H/\fZ K aj g H M/\aM K g H vs ds/\
 (m M ds).sat (fun d M'=>∀v H' g',Gc g g' H H'->Kd g' H'->fZ K aj g' H' M'->Rep K g' H' v d->Q v H') fun x M'=>∀H' g' c dd,Gc g g' H H'->Kd g' H'->fZ K aj g' H' M'->qY K aj g' H' x c dd->E c dd H'
section
variable{K:aqZ}{aj:aQ}{W:WX}{g g':Gh}{H H':Hp}{σ:L2.St}{ρ:Env}{M M':Mo}
theorem Gc.gr(r:Gc g g' H H'):Gr false g g' H H':=⟨fun a o h n _=>r.keep a o h n,(fun z=>nomatch z),r.dom,r.tbl,r.W,r.nW,(fun z=>nomatch z),r.Lc,fun a h=>by rw[r.Lo];exact h,fun a h=>by rw[r.Lo]at h;exact .inl h⟩
theorem SInv.call(r:Gc g g' H H')(k':Kd g' H')(w':fZ K aj g' H' M')(I:SInv K aj σ H g ρ M):SInv K aj σ H' g' ρ M' where
 kd:=k'
 wok:=w'
 len:=I.len
 dat:=fun i d h=>by
  obtain⟨v,h1,h2⟩:=I.dat i d h
  exact⟨v,h1,h2.gr r.gr I.kd⟩
 own:=fun i xs h=>by
  obtain⟨l,us,h1,h2,h3,h4⟩:=I.own i xs h
  exact⟨l,us,h1,r.keep _ _ h2 (I.kd.lo l h3),by rw[r.Lo];exact h3,h4.gr r.gr I.kd⟩
 sep:=I.sep
def Gh.in(g:Gh):Gh:={ g with Lc:=fun a=>g.Lc a∨g.Lo a,Lo:=fun _=>False }
theorem ZC(g:Gh)(a:Addr):g.in.A a↔g.A a:=by
 constructor
 ·rintro(z|(z|z)|z)
  ·exact .inl z
  ·exact .inr (.inl z)
  ·exact .inr (.inr z)
  ·exact False.elim z
 ·rintro(z|z|z)
  ·exact .inl z
  ·exact .inr (.inl (.inl z))
  ·exact .inr (.inl (.inr z))
theorem Kd.in(k:Kd g H):Kd g.in H:=⟨fun a z=>k.ob a ((ZC g a).mp z),fun a z=>False.elim z,fun a z=>⟨z.elim (fun z=>(k.lc a z).1) (fun z=>k.lo a z),fun y=>y⟩⟩
def ini(n:Nat)(ds:List Dat):Env:=ds.map (fun d=>some (.dat d))++List.replicate (n - ds.length) none
theorem abp{N:List Str}{vs:List V}{ds:List Dat}(k:Kd g H)(w:fZ K aj g H M)(r:aM K g H vs ds):SInv K aj (start N vs) H g (ini N.length ds) M where
 kd:=k
 wok:=w
 len:=by
  unfold L2.start ini
  rw[arT,arT,aq9,aq9,List.length_replicate,List.length_replicate,r.length]
 dat:=fun i d h=>by
  unfold ini at h
  unfold L2.start
  by_cases hi:i < ds.length
  ·rw[ara (by rw[aq9];exact hi),ard]at h
   cases hd:ds[i]? with
   |none=>rw[hd]at h;cases h
   |some d'=>
    rw[hd]at h
    cases h
    obtain⟨v,h1,h2⟩:=r.get hd
    refine⟨v,?_,h2⟩
    rw[ara (by rw[aq9,r.length];exact hi),ard,h1]
    rfl
  ·rw[aro (by rw[aq9];omega)]at h
   rw[List.getElem?_replicate]at h
   split at h <;> cases h
 own:=fun i xs h=>by
  unfold ini at h
  by_cases hi:i < ds.length
  ·rw[ara (by rw[aq9];exact hi),ard]at h
   cases hd:ds[i]? with
   |none=>rw[hd]at h;cases h
   |some d'=>rw[hd]at h;cases h
  ·rw[aro (by rw[aq9];omega)]at h
   rw[List.getElem?_replicate]at h
   split at h <;> cases h
 sep:=fun i j xs ys l ne h=>by
  unfold ini at h
  by_cases hi:i < ds.length
  ·rw[ara (by rw[aq9];exact hi),ard]at h
   cases hd:ds[i]? with
   |none=>rw[hd]at h;cases h
   |some d'=>rw[hd]at h;cases h
  ·rw[aro (by rw[aq9];omega)]at h
   rw[List.getElem?_replicate]at h
   split at h <;> cases h
end
def mQ(n:Nat)(body:SF):Mo->List Dat->Out Dat:=fun M ds=>match body M (ini n ds) with
 |.ret d _=>.ok d
 |.next _ _=>.ok .none
 |.exc x _ _=>.exc x
 |_=>.bad
def mG(n:Nat)(body:SF):Mo->List Dat->bf Dat:=fun M ds=>match body M (ini n ds) with
 |.ret d M'=>.ok d M'
 |.next _ M'=>.ok .none M'
 |.exc x _ M'=>.exc x M'
 |_=>.bad
section
variable{P:Program}{w:World}{K:aqZ}{mg:Str->Option Value}{base:Heap}{aj:aQ}
def afn(E:XK):WX:=fun c d _ H=>E c d H
theorem Rep.same{g g':Gh}{H:Hp}{v:V}{d:Dat}(e:g'.tbl=g.tbl)(n:∀a,g'.A a↔g.A a)(h:Rep K g H v d):Rep K g' H v d:=h.less e fun a z=>(n a).mp z
theorem acD{g g':Gh}{H H':Hp}(r:Gr true g.in g' H H'):Ex H H':=fun a o h=>by
 by_cases w:g.W a
 ·exact r.keepW rfl a o h w
 ·exact r.keep a o h w fun z=>z
theorem ak0{q:Bool}{g g':Gh}{H H':Hp}(r:Gr q g.in g' H H')(a:Addr):g'.fr.A a↔(g'.W a∨g.Lc a∨g.Lo a):=by
 have hl:g'.Lc=g.in.Lc:=r.Lc
 constructor
 ·rintro(z|z|z)
  ·exact .inl z
  ·have z:g'.Lc a:=z
   rw[hl]at z
   exact .inr z
  ·exact False.elim z
 ·rintro(z|z)
  ·exact .inl z
  ·refine .inr (.inl ?_)
   show g'.Lc a
   rw[hl]
   exact z
theorem amW{x qual:Str}{st:Stmt}{f:Addr}{fd:FuncData}{N ps:List Str}{k:Nat}{body:SF}(F:Fun K x qual st f fd)(S:FnScope N ps (defScope st))
  (hb:∀(cdv:Value) (A:Around) (outer:List PySem.Env) (s:Shared) (H:Hp) (E:XK),Room k (A.deeper (envOfC qual (defScope st) s.heap.objs.size f cdv))->JV aj (cxOf (L2.CX P w) P w K mg base N qual (defScope st) f cdv A outer s H E) (afn E) true (defBody st) body) :
  FnOk P w K mg base (L2.CX P w) (k+1) f fd ps (Vs K aj ps.length (mQ N.length body)):=by
 refine F.okX S (fun vs H Q E h=>h.1) (fun cdv A outer s H vs Q E hr h=>⟨_,hb cdv A outer s H E hr,?_⟩)
 obtain⟨hl,g,M,ds,kd,wk,rs,h⟩:=h
 have wk':fZ K aj g.in H M:=fZ.less (g:=g) (g':=g.in) rfl rfl (fun a z=>(ZC g a).mp z) wk
 refine⟨g.in,ini N.length ds,M,abp kd.in wk' (aM.less (g:=g) (g':=g.in) rfl (fun a z=>(ZC g a).mp z) rs),?_⟩
 have back:∀{g':Gh} {H':Hp},Gr true g.in g' H H'->∀a,g.A a↔g'.fr.A a:=fun {g' H'} r a=>by
  rw[ak0 r a]
  have e:=(r.qg rfl)
  have ew:g'.W a↔g.W a:=by
   unfold Gh.W
   rw[e.1,e.2]
   rfl
  unfold Gh.A
  rw[ew]
 unfold mQ at h
 cases hf:body M (ini N.length ds) with
 |next ρ' M'=>
  rw[hf]at h
  exact fun σ' H' g' r I'=>h _ H' (acD r) .non
 |ret d M'=>
  rw[hf]at h
  exact fun v H' g' r k' w' rv=>h v H' (acD r) (Rep.same (g:=g'.fr) (g':=g) (r.qg rfl).1.symm (back r) rv)
 |exc x ρ' M'=>
  rw[hf]at h
  exact fun σ' H' g' c dd r I' rx=>h H' c dd (acD r) (qY.less (g:=g'.fr) (g':=g) (r.qg rfl).1.symm (fun a z=>(back r a).mp z) rx)
 |brk ρ' M'=>rw[hf]at h;exact False.elim h
 |cont ρ' M'=>rw[hf]at h;exact False.elim h
 |bad=>rw[hf]at h;exact False.elim h
theorem amY{x qual:Str}{st:Stmt}{f:Addr}{fd:FuncData}{N ps:List Str}{k:Nat}{body:SF}(F:Fun K x qual st f fd)(S:FnScope N ps (defScope st))
  (hb:∀(cdv:Value) (A:Around) (outer:List PySem.Env) (s:Shared) (H:Hp) (E:XK),Room k (A.deeper (envOfC qual (defScope st) s.heap.objs.size f cdv))->JV aj (cxOf (L2.CX P w) P w K mg base N qual (defScope st) f cdv A outer s H E) (afn E) false (defBody st) body) :
  FnOk P w K mg base (L2.CX P w) (k+1) f fd ps (JG K aj ps.length (mG N.length body)):=by
 refine F.okX S (fun vs H Q E h=>h.1) (fun cdv A outer s H vs Q E hr h=>⟨_,hb cdv A outer s H E hr,?_⟩)
 obtain⟨hl,g,M,ds,kd,wk,rs,h⟩:=h
 have wk':fZ K aj g.in H M:=fZ.less (g:=g) (g':=g.in) rfl rfl (fun a z=>(ZC g a).mp z) wk
 refine⟨g.in,ini N.length ds,M,abp kd.in wk' (aM.less (g:=g) (g':=g.in) rfl (fun a z=>(ZC g a).mp z) rs),?_⟩
 let gb:Gh->Gh:=fun g'=>{ tbl:=g'.tbl,ow:=g'.ow,Lc:=g.Lc,Lo:=g.Lo }
 have gc:∀{g':Gh} {H':Hp},Gr false g.in g' H H'->Gc g (gb g') H H':=fun {g' H'} r=>⟨fun a o h n=>r.keep a o h n fun z=>z,r.dom,r.tbl,r.W,r.nW,rfl,rfl⟩
 have eA:∀{g':Gh} {H':Hp},Gr false g.in g' H H'->∀a,(gb g').A a↔g'.fr.A a:=fun {g' H'} r a=>by
  rw[ak0 r a]
  exact Iff.rfl
 have kk:∀{g':Gh} {H':Hp},Gr false g.in g' H H'->Kd g'.fr H'->Kd (gb g') H':=fun {g' H'} r k'=>by
  have nw:∀a,(g.Lc a∨g.Lo a)->¬g'.W a:=fun a z y=>by
   have:g'.fr.Lc a:=by
    show g'.Lc a
    rw[show g'.Lc=g.in.Lc from r.Lc]
    exact z
   exact(k'.lc a this).1 y
  exact⟨fun a z=>k'.ob a ((eA r a).mp z),fun a z=>nw a (.inr z),fun a z=>⟨nw a (.inl z),(kd.lc a z).2⟩⟩
 unfold mG at h
 cases hf:body M (ini N.length ds) with
 |next ρ' M'=>
  rw[hf]at h
  exact fun σ' H' g' r I'=>h _ H' (gb g') (gc r) (kk r I'.kd.fr) (fZ.less (g:=g'.fr) (g':=gb g') rfl rfl (fun a z=>(eA r a).mp z) I'.wok.fr) .non
 |ret d M'=>
  rw[hf]at h
  exact fun v H' g' r k' w' rv=>h v H' (gb g') (gc r) (kk r k') (fZ.less (g:=g'.fr) (g':=gb g') rfl rfl (fun a z=>(eA r a).mp z) w') (Rep.same (g:=g'.fr) (g':=gb g') rfl (eA r) rv)
 |exc x ρ' M'=>
  rw[hf]at h
  exact fun σ' H' g' c dd r I' rx=>h H' (gb g') c dd (gc r) (kk r I'.kd.fr) (fZ.less (g:=g'.fr) (g':=gb g') rfl rfl (fun a z=>(eA r a).mp z) I'.wok.fr) (qY.less (g:=g'.fr) (g':=gb g') rfl (fun a z=>(eA r a).mp z) rx)
 |brk ρ' M'=>rw[hf]at h;exact False.elim h
 |cont ρ' M'=>rw[hf]at h;exact False.elim h
 |bad=>rw[hf]at h;exact False.elim h
end
def aZ(m:Mo->List Dat->Out Dat)(as:QA):QF:=fun M ρ=>(as M ρ).bind fun ds=>m M ds
section
variable{X:Cx}{aj:aQ}{W:WX}{q:Bool}{a b e:Expr}{es:List Expr}{pos p:Pos}{x:Str}{k:Nat}{f:Addr}{fd:FuncData}{ps:List Str}
theorem ahI{m:Mo->List Dat->Out Dat}{as:QA}(tk:Takes X W)(F:FnOk X.prog X.w X.K X.mg X.base (L2.CX X.prog X.w) k f fd ps (Vs X.K aj ps.length m))(hr:Room k X.A)(hg:Gl X x)(hm:X.mg x=some (.ref f))(hk:PySem.W.keepIn X.K (.ref f)=true)(hb:Binds X.K fd ps [])
  (ha:Dt aj X W (e::es) as) (hl:(e::es).length=ps.length) (hd:(x==("__debug__" : Str))=false) (hs:(e::es).all nst=true) (hn:∀M ρ ds,as M ρ=.ok ds->ds.length=(e::es).length):QE aj X W (.Call (.Name x p) (e::es) [] pos) (aZ m as):=by
 have hs':=hs
 rw[arK,aq0]at hs'
 refine PE.weak (pe_callS (E:=fun σ=>WE W σ) F hr hg hm hk hb (fun σ=>passAt tk σ) ha hd (cH hs'.1 es) (star_any es hs'.2)) fun σ H Q ⟨g,ρ,M,I,h⟩=>?_
 refine⟨g,ρ,M,I,?_⟩
 have h:=h.bnd
 cases has:as M ρ with
 |exc x=>rw[has]at h;exact h
 |bad=>rw[has]at h;exact h
 |ok ds=>
  rw[has]at h
  have h:(m M ds).sat (fun d=>∀v H',Ex H H'->Rep X.K g H' v d->Q v H') (qG X.K aj W g H σ):=h
  intro vs H1 e1 r1
  refine⟨by rw[r1.length,hn M ρ ds has];exact hl,g,M,ds,I.kd.ex e1,I.wok.ex e1 I.kd,r1,h.mono (fun d k v H' e' r'=>k v H' (e1.trans e') r') fun x k H' c dd e' r'=>k H' c dd (e1.trans e') r'⟩
end
theorem afv{n:Nat}(h:n<=16001):n<=sizeLine:=arv h (by decide)
theorem alo{prog:Program}{w:World}{A:Around}{E:Value->Shared->Prop}{s:Shared}{l:Addr}{v0:Value}{vs:List Value}{Q:List Value->Shared->Prop}(hh:A.handled=none)(hl:s.heap.IsList l (v0::vs).toArray∨IsTup s.heap l (v0::vs).toArray)(hz:vs.length<=16000)
  (h:∀(h₂:Heap) (tk:Nat),(∀b o,s.heap.get? b=some o->h₂.get? b=some o)->Q [v0,.ref h₂.objs.size] { s with heap:=h₂.push { cls:=.type "list",data:=.seq vs.toArray },toks:=tk }):wpAny (model prog w) A (unpackItems (.ref l) 2 (some 1)) Q E s:=by
 have hll:l < s.heap.objs.size:=by
  rcases hl with⟨o,ho,_⟩|⟨o,ho,_⟩ <;> exact Heap.lt_size ho
 have hlt:l≠s.heap.objs.size:=arF hll
 have hsz:(v0::vs).toArray.size=vs.length+1:=by simp
 have hb:(v0::vs).toArray.size<=sizeLine:=afv (by rw[hsz];omega)
 have hd:(v0::vs).toArray.toList.drop 1=vs:=by simp
 have ht:((v0::vs).toArray.toList.drop 0).take 1=[v0]:=by simp
 have fin:∀(h₂:Heap) (tk:Nat),(∀b o,b≠s.heap.objs.size->s.heap.get? b=some o->h₂.get? b=some o)->wpAny (model prog w) A (newList vs >>= fun d=>pure ([v0]++[d]++[])) Q E { s with heap:=h₂,toks:=tk }:=fun h₂ tk k=>by
  refine wpAny_bind (wpAny_newObj_type (wpAny_pure ?_) (afv (by simp;omega)))
  exact h h₂ tk fun b o e=>k b o (arF (Heap.lt_size e)) e
 unfold unpackItems
 refine wpAny_bind ?_
 unfold notIterableAtAll
 rcases hl with hl|hl
 ·refine wpAny_bind (wpAny_specialOf hl.typeIs slot_list_iter.lookup (wpAny_pure ?_))
  simp only[arz,if_false]
  refine wpAny_bind (wpAny_holding (wpAny_pyIter_list hl ?_))
  refine wpAny_bind (wpAny_holding (PySem.W.kun_draw hlt 1 0 _ _ ⟨_,Heap.get?_push_size _ rfl,rfl,rfl⟩ (hl.push _) (by rw[hsz];omega) fun h₁ i1 b1=>?_))
  have hl₁:=(hl.push _).extBut b1.extBut hlt
  obtain⟨oi,hoi,_⟩:=id i1
  obtain⟨ol,hol,_⟩:=id hl₁
  rw[ht]
  refine wpAny_bind (wpAny_holding (PySem.W.kun_collect (s:={ s with heap:=h₁ }) (T:="list_iterator") (.inr (.inr (.inl rfl))) (Walks.list (A:=A.in1) hh s.heap.objs.size l hlt (v0::vs).toArray) (fun j u st=>st.1.typeIs) (k:=1) (by rw[hsz];omega) ⟨i1,hl₁⟩ (Heap.lt_size hoi) (Heap.lt_size hol) (fun h₂ tk hk=>?_) hb))
  rw[hd]
  show wpAny _ _ (if vs.length < 0 then _ else newList (vs.take (vs.length - 0)) >>= fun d=>pure ([v0]++[d]++vs.drop (vs.length - 0))) _ _ _
  rw[if_neg (Nat.not_lt_zero _),Nat.sub_zero,List.take_length,arY]
  exact fin h₂ tk fun b o ne e=>hk b o ne (b1.extBut b o ne (Heap.get?_push_of_some _ e))
 ·refine wpAny_bind (wpAny_specialOf hl.typeIs slot_tuple_iter.lookup (wpAny_pure ?_))
  simp only[arz,if_false]
  refine wpAny_bind (wpAny_holding (iter_tuple hl ?_))
  refine wpAny_bind (wpAny_holding (draw_tuple hlt 1 0 _ _ ⟨_,Heap.get?_push_size _ rfl,rfl,rfl⟩ (hl.push _) (by rw[hsz];omega) fun h₁ i1 b1=>?_))
  have hl₁:IsTup h₁ l (v0::vs).toArray:=(hl.push _).extBut b1.extBut hlt
  obtain⟨oi,hoi,_⟩:=id i1
  obtain⟨ol,hol,_⟩:=id hl₁
  rw[ht]
  refine wpAny_bind (wpAny_holding (PySem.W.kun_collect (s:={ s with heap:=h₁ }) (T:="tuple_iterator") (.inr (.inr (.inr rfl))) (Walks.tuple (A:=A.in1) hh s.heap.objs.size l hlt (v0::vs).toArray) (fun j u st=>st.1.typeIs) (k:=1) (by rw[hsz];omega) ⟨i1,hl₁⟩ (Heap.lt_size hoi) (Heap.lt_size hol) (fun h₂ tk hk=>?_) hb))
  rw[hd]
  show wpAny _ _ (if vs.length < 0 then _ else newList (vs.take (vs.length - 0)) >>= fun d=>pure ([v0]++[d]++vs.drop (vs.length - 0))) _ _ _
  rw[if_neg (Nat.not_lt_zero _),Nat.sub_zero,List.take_length,arY]
  exact fin h₂ tk fun b o ne e=>hk b o ne (b1.extBut b o ne (Heap.get?_push_of_some _ e))
def agd(K:aqZ)(i j:Nat):TG:=fun v σ H Q=>∃a v0 us,v=.ref a/\(SqL K H a (v0::us)∨SqT K H a (v0::us))/\us.length<=16000/\∀D,H D=none->Q ((σ.set i (some v0)).set j (some (.ref D))) (upd H D (.lst us))
def Tt(X:Cx)(j:Nat)(x:Str):Prop:=X.N[j]?=some x/\Loc X.env.scope x/\(X.fn x=true∨X.env.scope.names.lookup x=some .local)
theorem aho{X:Cx}{i j k:Nat}{x y:Str}{px py ps pos:Pos}(hc:X.calm=true)(hN:X.N.Nodup)(hx:Tt X i x)(hy:Tt X j y):PG X (.Tuple [.Name x px,.Starred (.Name y py) ps] k pos) (agd X.K i j):=by
 refine⟨fun pins s σ H v u Q I r h=>?_⟩
 obtain⟨a,v0,us,rfl,hq,hz,q⟩:=h
 cases r
 have e1:assign (.Tuple [.Name x px,.Starred (.Name y py) ps] k pos) X.env (.ref a)=(do standAt pos;unpack (.ref a) (assignEach [.Name x px,.Starred (.Name y py) ps] X.env)):=by with_unfolding_all rfl
 have e2:assignEach [.Name x px,.Starred (.Name y py) ps] X.env=[(false,assign (.Name x px) X.env),(true,assign (.Name y py) X.env)]:=by with_unfolding_all rfl
 rw[e1,e2]
 refine wpAny_bind (wpAny_standAt ?_)
 unfold unpack
 obtain⟨w0,ws,hlw,rv0,rvs⟩:∃w0 ws,(s.heap.IsList a (w0::ws).toArray∨IsTup s.heap a (w0::ws).toArray)/\RelV v0 w0/\Vals us ws:=by
  rcases hq with hq|hq
  ·obtain⟨its,rv,p,_⟩:=I.list hq
   cases rv with
   |cons r t=>exact⟨_,_,.inl p.isList,r,t⟩
  ·obtain⟨its,rv,p,_⟩:=I.tuple hq
   cases rv with
   |cons r t=>exact⟨_,_,.inr p,r,t⟩
 refine wpAny_bind (wpAny_holding (alo (I.ok.hd hc) hlw (by rw[←rvs.length];exact hz) fun h₂ tk hk=>?_))
 have I2:L2.Inv X pins σ H { s with heap:=h₂,toks:=tk }:=I.kept (t':=tk) hk
 have I3:=I2.lnew (t':=tk) rvs (afv (by omega))
 refine assignInOrder_cons (wpAny_assign_Name (store_ok I3 hN hx.1 hx.2.1 rv0 (fun s4 I4=>?_) hx.2.2))
 refine assignInOrder_cons (wpAny_assign_Name (store_ok I4 hN hy.1 hy.2.1 (v:=.ref h₂.objs.size) rfl (fun s5 I5=>assignInOrder_nil ?_) hy.2.2))
 exact⟨_,_,I5,q _ I2.fresh⟩
section
variable{X:Cx}{aj:aQ}{W:WX}{q:Bool}{e:Expr}{pos:Pos}
def Xp(i j:Nat)(f:GF):SF:=fun M ρ=>(f M ρ).then ρ fun d M'=>match d with
 |.list (d0::ds)=>if ds.length<=16000 then .next ((ρ.set i (some (.dat d0))).set j (some (.dat (.list ds)))) M' else .bad
 |.tuple (d0::ds)=>if ds.length<=16000 then .next ((ρ.set i (some (.dat d0))).set j (some (.dat (.list ds)))) M' else .bad
 |_=>.bad
theorem ahG{i j k:Nat}{x y:Str}{px py ps tp:Pos}{f:GF}(hc:X.calm=true)(hN:X.N.Nodup)(hx:Tt X i x)(hy:Tt X j y)(he:GE aj X W q e f)(hs:swapsWithSole [.Tuple [.Name x px,.Starred (.Name y py) ps] k tp] e pos.line X.env=pure false)(hw:swappedStores [.Tuple [.Name x px,.Starred (.Name y py) ps] k tp] e X.env=pure none) :
  SE aj X W q (.Assign [.Tuple [.Name x px,.Starred (.Name y py) ps] k tp] e pos) (Xp i j f):=by
 refine PS.weak (ps_asg he (aho hc hN hx hy) hs hw (by with_unfolding_all rfl)) fun D σ H ⟨g,ρ,M,I,z⟩=>?_
 refine tE.go I (dD (σ:=σ) z) fun d M' v H' g' kk r I' rv=>?_
 have fin:∀{a:Addr} {v0:V} {us:List V} {d0:Dat} {ds:List Dat},v=.ref a->(SqL X.K H' a (v0::us)∨SqT X.K H' a (v0::us))->Rep X.K g' H' v0 d0->aM X.K g' H' us ds->(if ds.length<=16000 then tM.next ((ρ.set i (some (.dat d0))).set j (some (.dat (.list ds)))) M' else .bad).sat (sN X.K aj q D.nx g H) (sR X.K aj q D.rt g H) (sN X.K aj q D.bk g H) (sN X.K aj q D.ct g H) (sX X.K aj W q g H)->agd X.K i j v σ H' D.nx:=fun {a v0 us d0 ds} ev hq r0 rs kk=>by
  split at kk
  ·next hz=>
   refine⟨a,v0,us,ev,hq,by rw[rs.length];exact hz,fun p np=>?_⟩
   have e1:=Ex.new (o:=.lst us) np
   have I2:=I'.ex e1
   refine kk _ _ g' (r.trans (Gr.ex e1)) ((I2.set (r0.ex e1 I'.kd)).set (.lst (.inl ⟨.inl upd_same,I'.kd.fresh np⟩) (rs.ex e1 I'.kd)))
  ·exact False.elim kk
 split at kk
 ·obtain⟨a,us,ev,s1,t1⟩:=jh rv.weak
  cases t1 with
  |cons r0 rs=>exact fin ev (.inl s1) r0 rs kk
 ·obtain⟨a,us,ev,s1,t1⟩:=lK rv.weak
  cases t1 with
  |cons r0 rs=>exact fin ev (.inr s1) r0 rs kk
 ·exact False.elim kk
def Rp(i j:Nat)(f:GF):SF:=fun M ρ=>(f M ρ).then ρ fun d M'=>.next ((ρ.set i (some (.dat d))).set j (some (.dat d))) M'
theorem ahN{i j:Nat}{x y:Str}{px py:Pos}{f:GF}(hN:X.N.Nodup)(hx:Tt X i x)(hy:Tt X j y)(he:GE aj X W q e f)(hw:swappedStores [.Name x px,.Name y py] e X.env=pure none):SE aj X W q (.Assign [.Name x px,.Name y py] e pos) (Rp i j f):=by
 refine PS.weak (ps_asg2 he (pg_name hN hx.1 hx.2.1 hx.2.2) (pg_name hN hy.1 hy.2.1 hy.2.2) (by with_unfolding_all rfl) hw) fun D σ H ⟨g,ρ,M,I,z⟩=>?_
 exact tE.go I (dD (σ:=σ) z) fun d M' v H' g' kk r I' rv=>kk _ H' g' r ((I'.set rv).set rv)
theorem Qv{pins:List (Addr×Obj)}{H:Hp}{Q:Unit->Shared->Prop}(hN:X.N.Nodup):∀{xs:List Str} {js:List Nat} {vs:List V} {us:List Value} {σ:L2.St} {s:Shared},xs.length=js.length->Vals vs us->us.length=js.length->(∀(n:Nat) (x:Str) (j:Nat),xs[n]?=some x->js[n]?=some j->X.N[j]?=some x/\X.env.scope.names.lookup x=some .local)->L2.Inv X pins σ H s->
  (∀s',L2.Inv X pins (sets σ js vs) H s'->Q () s')->wpAny (model X.prog X.w) X.A (assignInOrder (xs.map fun n=>bindName X.env n) us) Q X.xe s
 |[],[],_,[],σ,s,_,.nil,_,_,I,h=>assignInOrder_nil (h s I)
 |[],[],_,_::_,_,_,_,_,e,_,_,_=>nomatch e
 |[],_::_,_,_,_,_,e,_,_,_,_,_=>nomatch e
 |_::_,[],_,_,_,_,e,_,_,_,_,_=>nomatch e
 |x::xs,j::js,_,[],_,_,_,.nil,e,_,_,_=>nomatch e
 |x::xs,j::js,_,_::_,σ,s,e1,.cons r t,e2,hn,I,h=>by
  obtain⟨h1,h2⟩:=hn 0 x j rfl rfl
  refine assignInOrder_cons (wpAny_bindName (store_ok I hN h1 (.inl h2) r (fun s2 I2=>?_) (.inr h2)))
  exact Qv hN (arX e1) t (arX e2) (fun n x j a b=>hn (n+1) x j a b) I2 h
theorem aaG(σ:L2.St):∀(js:List Nat) (vs:List V) (ks:List Nat) (ws:List V),js.length=vs.length->sets σ (js++ks) (vs++ws)=sets (sets σ js vs) ks ws:=by
 intro js
 induction js generalizing σ with
 |nil=>
  intro vs ks ws e
  cases vs with
  |nil=>rfl
  |cons v vs=>cases e
 |cons j js ih=>
  intro vs ks ws e
  cases vs with
  |nil=>cases e
  |cons v vs=>exact ih (σ.set j (some v)) vs ks ws (arX e)
theorem VR(j:Nat)(v:V):∀(js:List Nat) (vs:List V) (σ:L2.St),j∉js->(sets σ js vs).set j (some v)=sets (σ.set j (some v)) js vs
 |[],_,_,_=>by unfold sets;rfl
 |_::_,[],_,_=>by unfold sets;rfl
 |k::js,w::vs,σ,h=>by
  show(sets (σ.set k (some w)) js vs).set j (some v)=sets ((σ.set j (some v)).set k (some w)) js vs
  rw[VR j v js vs _ fun z=>h (aq5 _ z),List.set_comm _ _ (fun z=>h (by rw[z];exact aq4))]
theorem Y4:∀(js:List Nat) (vs:List V) (σ:L2.St),js.Nodup->js.length=vs.length->sets σ js.reverse vs.reverse=sets σ js vs
 |[],[],_,_,_=>rfl
 |[],_::_,_,_,e=>nomatch e
 |_::_,[],_,_,e=>nomatch e
 |j::js,v::vs,σ,nd,e=>by
  rw[ar0]at nd
  rw[ar9,ar9,aaG _ _ _ _ _ (by rw[arW,arW];exact arX e),Y4 js vs σ nd.2 (arX e)]
  show(sets σ js vs).set j (some v)=sets (σ.set j (some v)) js vs
  exact VR j v js vs σ nd.1
theorem vals_rev{vs:List V}{us:List Value}(r:Vals vs us):Vals vs.reverse us.reverse:=by
 induction r with
 |nil=>exact .nil
 |cons h t ih=>
  rw[ar9,ar9]
  exact Vals.append ih (.cons h .nil)
def tPN(js:List Nat)(ta:TA):TS:=fun D σ H=>ta σ H fun vs H1=>vs.length=js.length/\D.nx (sets σ js vs) H1
theorem ama{ts es:List Expr}{xs:List Str}{js:List Nat}{ta:TA}{kt k2:Nat}{pt p2:Pos}(hc:X.calm=true)(hN:X.N.Nodup)(hnd:js.Nodup)(hl:xs.length=js.length)(h3:js.length<=3)(hn:∀(n:Nat) (x:Str) (j:Nat),xs[n]?=some x->js[n]?=some j->X.N[j]?=some x/\X.env.scope.names.lookup x=some .local)(ha:PA X es ta)
  (hw:swappedStores [.Tuple ts kt pt] (.Tuple es k2 p2) X.env=pure (some xs)) (hs:swapsWithSole [.Tuple ts kt pt] (.Tuple es k2 p2) pos.line X.env=pure false):PS X (.Assign [.Tuple ts kt pt] (.Tuple es k2 p2) pos) (tPN js ta):=by
 refine⟨fun pins s σ H D I h=>?_⟩
 rw[exec_Assign_arm]
 refine wpAny_bind (wpAny_standAt ?_)
 rw[hs]
 refine wpAny_bind (wpAny_pure ?_)
 rw[if_neg (by decide)]
 refine wpAny_bind (Tuple_ (thn (ha.run _ pins s σ H _ I h) fun us s1 ⟨vs,H1,I1,r1,e1,q1⟩=>?_))
 have hu:us.length=js.length:=by
  rw[←r1.length]
  exact e1
 refine wpAny_newObj_type ?_ (arv (by simp;omega) (show 3<=sizeLine by decide))
 have I2:L2.Inv X pins σ H1 { s1 with heap:=s1.heap.push { cls:=.type "tuple",data:=.seq us.toArray } }:=I1.kept (t':=s1.toks) fun b o z=>Heap.get?_push_of_some _ z
 rw[hw]
 refine wpAny_bind (wpAny_pure ?_)
 show wpAny (model X.prog X.w) X.A (do rule "assign.swapped-stores";let items ←unpackItems (.ref s1.heap.objs.size) xs.length none;assignInOrder (xs.reverse.map fun n=>bindName X.env n) items.reverse;pure Flow.next) _ _ _
 have hz:us.toArray.size=xs.length:=by
  rw[aso,hu,hl]
 have hup:=fun {Q:List Value->Shared->Prop} hQ=>unpackItems_tuple (prog:=X.prog) (w:=X.w) (A:=X.A) (E:=X.xe) (s:={ s1 with heap:=s1.heap.push { cls:=.type "tuple",data:=.seq us.toArray } }) (items:=us.toArray) (Q:=Q) (I.ok.hd hc) (IsTup.new s1.heap _) hQ
 rw[hz]at hup
 refine wpAny_bind (wpAny_rule (wpAny_bind (hup fun h' hx'=>?_)))
 have I3:=I2.kept (h':=h') (t':=s1.toks) fun b o z=>hx' b o (arF (Heap.lt_size z)) z
 refine wpAny_bind (Qv hN (js:=js.reverse) (vs:=vs.reverse) (by rw[arW,arW];exact hl) (vals_rev r1) (by rw[arW,arW];exact hu) (fun n x j a b=>?_) I3 fun s4 I4=>wpAny_pure ?_)
 ·have n1:=(aq1.mp a).1
  have n2:=(aq1.mp b).1
  rw[arW]at n1 n2
  rw[List.getElem?_reverse n1]at a
  rw[List.getElem?_reverse n2,←hl]at b
  exact hn _ x j a b
 ·rw[Y4 js vs σ hnd e1.symm]at I4
  exact⟨_,H1,I4,q1⟩
def sPN(js:List Nat)(as:QA):SF:=fun M ρ=>((as M ρ).at M).then ρ fun ds M'=>match rP js ds ρ with
 |some ρ'=>.next ρ' M'
 |none=>.bad
theorem al9{ts es:List Expr}{xs:List Str}{js:List Nat}{as:QA}{kt k2:Nat}{pt p2:Pos}(hc:X.calm=true)(hN:X.N.Nodup)(hnd:js.Nodup)(hl:xs.length=js.length)(h3:js.length<=3)(hn:∀(n:Nat) (x:Str) (j:Nat),xs[n]?=some x->js[n]?=some j->X.N[j]?=some x/\X.env.scope.names.lookup x=some .local)(ha:Dt aj X W es as)
  (hw:swappedStores [.Tuple ts kt pt] (.Tuple es k2 p2) X.env=pure (some xs)) (hs:swapsWithSole [.Tuple ts kt pt] (.Tuple es k2 p2) pos.line X.env=pure false):SE aj X W q (.Assign [.Tuple ts kt pt] (.Tuple es k2 p2) pos) (sPN js as):=by
 refine PS.weak (ama hc hN hnd hl h3 hn ha hw hs) fun D σ H ⟨g,ρ,M,I,z⟩=>?_
 refine⟨g,ρ,M,I,?_⟩
 unfold sPN at z
 cases hf:as M ρ with
 |exc x=>rw[hf]at z;exact fun H' c dd e r=>z σ H' g c dd (Gr.ex e) (I.ex e) r.fr
 |bad=>rw[hf]at z;exact False.elim z
 |ok ds=>
  rw[hf]at z
  intro vs H' e r
  have z:(match rP js ds ρ with
   |some ρ'=>tM.next ρ' M
   |none=>.bad).sat (sN X.K aj q D.nx g H) (sR X.K aj q D.rt g H) (sN X.K aj q D.bk g H) (sN X.K aj q D.ct g H) (sX X.K aj W q g H):=z
  split at z
  ·next ρ' e'=>
   obtain⟨l1,I1⟩:=HX (I.ex e) r e'
   exact⟨l1,z _ H' g (Gr.ex e) I1⟩
  ·exact False.elim z
theorem ajZ{j:Nat}{y:Str}{py:Pos}{elt tg iter:Expr}{cpos:Pos}{scope:Scope}{own:List (Str×Nat)}{it:IF}{tgf:fK}{js:List Nat}{tt:QT}{te:QF}{ifs:List Expr}(hc:X.calm=true)(hN:X.N.Nodup)(hy:X.N[j]?=some y)(hyl:X.env.scope.names.lookup y=some .local)
  (hsw:swapsWith (.ListComp elt [⟨tg,iter,ifs,0⟩] scope cpos) (some (.Name y py)) pos.line X.env=pure true) (hi:QI aj X W false tg iter it) (ok:blkC X.N X.env.scope scope own=true) (hj:∀j∈js,j∈own.map (·.2))
  (hg:∀(s:Shared) (H:Hp) (C:Addr) (cl:List (Str×Addr)) (fp:List Addr),QG aj (X.blk s H scope (compEnvC scope cl C X.env) fp) tg js tgf)
  (ht:∀(s:Shared) (H:Hp) (C:Addr) (cl:List (Str×Addr)) (fp:List Addr),PTs (X.blk s H scope (compEnvC scope cl C X.env) fp) ifs (jJ X.K aj WF tt))
  (he:∀(s:Shared) (H:Hp) (C:Addr) (cl:List (Str×Addr)) (fp:List Addr),QE aj (X.blk s H scope (compEnvC scope cl C X.env) fp) WF elt te) (hs:∀x,foldedSetIterable iter X.env x=pure x) :
  SE aj X W q (.Assign [.Name y py] (.ListComp elt [⟨tg,iter,ifs,0⟩] scope cpos) pos) (bB (aF j) (gOf (dH it tgf (own.map (·.2)) tt te))):=by
 refine PS.weak (ps_setLc (g:=xO X.K aj js tgf) (tt:=jJ X.K aj WF tt) (te:=tQ X.K aj WF te) hc hN hy hyl hsw hi (blkOk_by ok) (fun s H C cl fp=>hg s H C cl fp) ht (fun s H C cl fp=>he s H C cl fp) hs) fun D σ H ⟨g,ρ,M,I,z⟩=>?_
 refine agk hj σ H _ ⟨g,ρ,M,I,(Out.jm (dD (σ:=σ) z)).mono (fun d kk v H' e r=>?_) fun x kk H' c dd e r=>kk H' g c dd (Gr.ex e) (I.ex e) r⟩
 exact kk _ H' g (Gr.ex e) ((I.ex e).set r)
end
inductive GV where
 |con (d:Dat)
 |fq (n:Nat) (m:Mo->List Dat->Out Dat)
 |fg (n:Nat) (m:Mo->List Dat->bf Dat)
 |dic (kvs:List (Str×Dat))
 |exc
 |exi (fs:List Str)
 |cls (n:Nat) (m:Mo->List Dat->bf Dat)
inductive MV where
 |q (n:Nat) (m:Mo->List Dat->Out Dat)
 |g (n:Nat) (m:Mo->List Dat->bf Dat)
def FQ(P:Program)(w:World)(K:aqZ)(mg:Str->Option Value)(base:Heap)(aj:aQ)(k:Nat)(f:Addr)(n:Nat)(m:Mo->List Dat->Out Dat):Prop:=
 ∃(fd:FuncData) (ps:List Str) (j:Nat),j<=k/\ps.length=n/\Binds K fd ps []/\FnOk P w K mg base (L2.CX P w) j f fd ps (Vs K aj ps.length m)
def FG(P:Program)(w:World)(K:aqZ)(mg:Str->Option Value)(base:Heap)(aj:aQ)(k:Nat)(f:Addr)(n:Nat)(m:Mo->List Dat->bf Dat):Prop:=
 ∃(fd:FuncData) (ps:List Str) (j:Nat),j<=k/\ps.length=n/\Binds K fd ps []/\FnOk P w K mg base (L2.CX P w) j f fd ps (JG K aj ps.length m)
def jG(K:aqZ)(aj:aQ):Prop:=∀c C f,aj c=some C->f∈aj.fl c->Cls K C/\NoAttr K C f
def bY(P:Program)(w:World)(K:aqZ)(mg:Str->Option Value)(base:Heap)(aj:aQ)(k:Nat)(c m:Str)(v:MV):Prop:=
 ∃C f,aj c=some C/\Cls K C/\Meth K C m f/\m∉aj.fl c/\match v with
  |.q n mm=>FQ P w K mg base aj k f n mm
  |.g n mm=>FG P w K mg base aj k f n mm
def afV(C:Addr)(fs:List Str):Sp:=fun vs H Q _=>∃(a:Addr) (xs:List V),vs=.ref a::xs/\xs.length=fs.length/\H a=some (exo a C none)/\
 ∀(dx:Addr) (H':Hp),H dx=none->(∀b o,b≠a->H b=some o->H' b=some o)->(∀b,H' b=none->H b=none)->H' a=some (exo a C (some dx))->H' dx=some (exd dx (fs.zip xs).reverse)->Q .non H'
def abM(w:World)(K:aqZ)(a:Addr)(kvs:List (Str×Dat)):Prop:=∃(es:Array DictEntry) (n:Nat),KDict K w a es n/\(kvs.map (·.1)).Nodup/\
 ∀x:Str,match kvs.lookup x with
  |some d=>∃v u,PySem.W.nsIn K a x=some (some u)/\RelV v u/\∀g H,Rep K g H v d
  |none=>PySem.W.nsIn K a x=some none
def bh(P:Program)(w:World)(K:aqZ)(mg:Str->Option Value)(base:Heap)(aj:aQ)(k:Nat)(x:Str):GV->Prop
 |.con d=>∃v u,mg x=some u/\RelV v u/\∀g H,Rep K g H v d
 |.fq n m=>∃f,mg x=some (.ref f)/\PySem.W.keepIn K (.ref f)=true/\FQ P w K mg base aj k f n m
 |.fg n m=>∃f,mg x=some (.ref f)/\PySem.W.keepIn K (.ref f)=true/\FG P w K mg base aj k f n m
 |.dic kvs=>∃a,mg x=some (.ref a)/\abM w K a kvs
 |.exc=>∃C,mg x=some (.ref C)/\aj x=some C/\PySem.W.excIn K C He.veBase "ValueError.__new__"=true/\PySem.W.keepIn K (.ref C)=true/\PySem.W.subIn K (.ref C) (.type "BaseException")=some true/\PySem.W.typeIn K (.ref C)=some (.type "type")
 |.exi fs=>∃(C fI:Addr) (fd:FuncData) (ps:List Str),mg x=some (.ref C)/\aj x=some C/\OexC K C/\PySem.W.findIn K (.ref C) "__init__"=some (some (.ref fI))/\PySem.W.typeIn K (.ref fI)=some (.type "function")/\2<=k/\ps.length=fs.length+1/\Binds K fd ps []/\FnOk P w K mg base CX0 1 fI fd ps (afV C fs)
 |.cls n m=>∃(C f:Addr) (fd:FuncData) (ps:List Str) (j:Nat),mg x=some (.ref C)/\aj x=some C/\Cls K C/\Mk K C f/\j+1<=k/\ps.length=n+1/\Binds K fd ps []/\FnOk P w K mg base (L2.CX P w) j f fd ps (JG K aj ps.length m)
def abW(K:aqZ)(aj:aQ)(y:Str)(tk:Str->Option Bool):Prop:=∀x b C,tk x=some b->aj x=some C->∀D,aj y=some D->PySem.W.exmOne K (.ref C) (.ref D)=some b
def putL(f:Str)(x:jk):List (Str×jk)->List (Str×jk)
 |[]=>[(f,x)]
 |(g,y)::r=>if g=f then(g,x)::r else(g,y)::putL f x r
def Inst.put(i:Inst)(f:Str)(x:jk):Inst:=⟨i.cls,putL f x i.fs⟩
theorem Jh(f:Str)(x:jk):∀gs:List (Str×jk),(putL f x gs).map (·.1)=if f∈gs.map (·.1) then gs.map (·.1) else gs.map (·.1)++[f]
 |[]=>by simp[putL]
 |(g,y)::r=>by
  have ih:=Jh f x r
  rw[putL]
  by_cases e:g=f
  ·subst e
   simp
  ·rw[if_neg e,aq3,ih]
   by_cases h:f∈r.map (·.1)
   ·rw[if_pos h,if_pos (by simp[h])]
    rfl
   ·rw[if_neg h,if_neg (by
     rw[aq3,arh]
     rintro(z|z)
     ·exact e z.symm
     ·exact h z)]
    rfl
theorem aci{f:Str}{x:jk}{gs:List (Str×jk)}(h:(gs.map (·.1)).Nodup):((putL f x gs).map (·.1)).Nodup:=by
 rw[Jh]
 split
 ·exact h
 ·next n=>
  rw[arV]
  refine⟨h,by simp,fun a ha b hb e=>?_⟩
  subst e
  rw[aq7]at hb
  subst hb
  exact n ha
theorem Lh{f:Str}{v:V}:∀{fs:List (Str×V)},fs.lookup f=some v->putF f v fs=fs
 |[],h=>nomatch h
 |(g,y)::r,h=>by
  rw[arB]at h
  rw[show putF f v ((g,y)::r)=(if g=f then(g,v)::r else(g,y)::putF f v r) from rfl]
  by_cases e:g=f
  ·subst e
   simp at h
   rw[if_pos rfl,h]
  ·have ne:(f==g)=false:=by simpa using fun z=>e z.symm
   rw[ne]at h
   rw[if_neg e,Lh h]
section
variable{K:aqZ}{aj:aQ}{W:WX}{g g':Gh}{H H':Hp}{σ:L2.St}{ρ:Env}{M:Mo}{h:Nat}{f:Str}{v:V}{fl:jk}
theorem cJ.put(hk:∀f' v' fl',f'≠f->dY K aj g H h f' v' fl'->dY K aj g' H' h f' v' fl')(new:dY K aj g' H' h f v fl):∀{fs:List (Str×V)} {gs:List (Str×jk)},cJ K aj g H h fs gs->(gs.map (·.1)).Nodup->cJ K aj g' H' h (putF f v fs) (putL f fl gs)
 |_,_,.nil,_=>.cons new .nil
 |_,_,.cons (f:=f') (v:=v') (fl:=fl') (fs:=fs) (gs:=gs) z t,nd=>by
  rw[show putF f v ((f',v')::fs)=(if f'=f then(f',v)::fs else(f',v')::putF f v fs) from rfl,putL]
  rw[aq3,ar0]at nd
  by_cases e:f'=f
  ·subst e
   rw[if_pos rfl,if_pos rfl]
   refine .cons new ?_
   have go:∀{fs:List (Str×V)} {gs:List (Str×jk)},cJ K aj g H h fs gs->f'∉gs.map (·.1)->cJ K aj g' H' h fs gs:=fun {fs gs} t=>by
    induction t with
    |nil=>exact fun _=>.nil
    |cons z _ ih=>
     intro n
     rw[aq3,arh,not_or]at n
     exact .cons (hk _ _ _ (fun q=>n.1 q.symm) z) (ih n.2)
   exact go t nd.1
  ·rw[if_neg e,if_neg e]
   exact .cons (hk _ _ _ e z) (cJ.put hk new t nd.2)
structure Chg(M:Mo)(g g':Gh)(H H':Hp)(h:Nat)(f:Str):Prop where
 gc:Gc g g' H H'
 kd:Kd g' H'
 tbl:g'.tbl=g.tbl
 ow:∀a p,g.ow a=some p->g'.ow a=some p
 oth:∀a p,g.ow a=some p->p≠(h,f)->H' a=H a
 ins:∀(k:Nat) (a:Addr) (i:Inst),g.tbl[k]?=some a->M[k]?=some i->i.cls≠""->k≠h->H' a=H a
 nt:∀(k:Nat) (a:Addr) (i:Inst),g.tbl[k]?=some a->M[k]?=some i->i.cls≠""->∀p,g'.ow a≠some p
theorem jC.chg{l:Addr}(r:Gr false g g' H H')(k:Kd g H)(e:H' l=H l):∀{n:Bool} {kvs:List (Dat×Dat)},jC K aj g H l n kvs->jC K aj g' H' l n kvs
 |false,_,⟨kv,h1,h2,h3⟩=>⟨kv,e.trans h1,h2,h3.gr r k⟩
 |true,_,⟨o,xs,vs,h1,h2,h3,h4,h5,h6⟩=>⟨o,xs,vs,e.trans h1,h2,h3,h4.gr r k,h5,h6.gr r k⟩
theorem dY.chg(c:Chg M g g' H H' h f)(k:Kd g H){h':Nat}{f':Str}{v':V}(ne:(h',f')≠(h,f)):∀{fl':jk},dY K aj g H h' f' v' fl'->dY K aj g' H' h' f' v' fl'
 |.dat _,z=>Rep.gr c.gc.gr k z
 |.lst _ _,⟨l,us,h1,h2,h3,h4,h5⟩=>⟨l,us,h1,(c.oth l _ h3 ne).trans h2,c.ow l _ h3,h4.gr c.gc.gr k,c.gc.gr.tb h5⟩
 |.dic _ _,⟨l,h1,h2,h3⟩=>⟨l,h1,c.ow l _ h2,h3.chg c.gc.gr k (c.oth l _ h2 ne)⟩
theorem fZ.chg(w:fZ K aj g H M)(k:Kd g H)(c:Chg M g g' H H' h f){a:Addr}{i:Inst}(ha:g.tbl[h]?=some a)(hi:M[h]?=some i)(hne:i.cls≠"")(hf:f∈aj.fl i.cls){C dx:Addr}{fs:List (Str×V)}(hC:aj i.cls=some C)(R:cJ K aj g H h fs i.fs)
  (e':H' a=some (.ins C dx (putF f v fs))) (new:dY K aj g' H' h f v fl):fZ K aj g' H' (M.set h (i.put f fl)) where
 len:=by rw[c.tbl,arw];exact w.len
 inj:=by rw[c.tbl];exact w.inj
 ins:=fun h' a' i' ha' hi' hc'=>by
  rw[c.tbl]at ha'
  by_cases z:h'=h
  ·subst z
   rw[ha]at ha'
   cases ha'
   rw[arl (aq1.mp hi).1]at hi'
   cases hi'
   exact⟨C,dx,_,hC,e',R.put (fun f' v' fl' ne z=>z.chg c k fun q=>ne (congrArg Prod.snd q)) new (w.nd _ i hi)⟩
  ·rw[aq8 (Ne.symm z)]at hi'
   obtain⟨C',dx',fs',c1,c2,c3⟩:=w.ins h' a' i' ha' hi' hc'
   refine⟨C',dx',fs',c1,(c.ins h' a' i' ha' hi' hc' z).trans c2,?_⟩
   have go:∀{fs:List (Str×V)} {gs:List (Str×jk)},cJ K aj g H h' fs gs->cJ K aj g' H' h' fs gs:=fun {fs gs} t=>by
    induction t with
    |nil=>exact .nil
    |cons y _ ih=>exact .cons (y.chg c k fun q=>z (congrArg Prod.fst q)) ih
   exact go c3
 nd:=fun h' i' hi'=>by
  by_cases z:h'=h
  ·subst z
   rw[arl (aq1.mp hi).1]at hi'
   cases hi'
   exact aci (w.nd _ i hi)
  ·rw[aq8 (Ne.symm z)]at hi'
   exact w.nd h' i' hi'
 fd:=fun h' i' hi' f' hf'=>by
  by_cases z:h'=h
  ·subst z
   rw[arl (aq1.mp hi).1]at hi'
   cases hi'
   have hf':f'∈(putL f fl i.fs).map (·.1):=hf'
   rw[Jh]at hf'
   split at hf'
   ·exact w.fd _ i hi f' hf'
   ·rcases arb.mp hf' with y|y
    ·exact w.fd _ i hi f' y
    ·rw[aq7]at y
     rw[y]
     exact hf
  ·rw[aq8 (Ne.symm z)]at hi'
   exact w.fd h' i' hi' f' hf'
 tw:=fun k' a' i' ha' hi' hc'=>by
  rw[c.tbl]at ha'
  have:∃i0,M[k']?=some i0/\i0.cls≠"":=by
   by_cases z:k'=h
   ·subst z
    exact⟨i,hi,hne⟩
   ·rw[aq8 (Ne.symm z)]at hi'
    exact⟨i',hi',hc'⟩
  obtain⟨i0,m1,m2⟩:=this
  cases hz:g'.ow a' with
  |none=>rfl
  |some p=>exact absurd hz (c.nt k' a' i0 ha' m1 m2 p)
 dm:=fun h' i' hi' hc'=>by
  by_cases z:h'=h
  ·subst z
   rw[arl (aq1.mp hi).1]at hi'
   cases hi'
   exact absurd hc' hne
  ·rw[aq8 (Ne.symm z)]at hi'
   exact w.dm h' i' hi' hc'
 nc:=w.nc
theorem aln{a:Addr}(ha:g.tbl[h]?=some a):g.W a:=.inl (aq6 ha)
theorem Ut(k:Kd g H)(w:fZ K aj g H M){a:Addr}{i:Inst}(ha:g.tbl[h]?=some a)(hi:M[h]?=some i)(hc:i.cls≠""){C dx:Addr}{fs':List (Str×V)}:Chg M g g H (upd H a (.ins C dx fs')) h f where
 gc:=⟨fun b o hb n=>by rw[upd_ne (fun z=>by subst z;exact n (aln ha))];exact hb,fun b hb=>by
  by_cases z:b=a
  ·subst z
   rw[upd_same]at hb
   cases hb
  ·rw[upd_ne z]at hb
   exact hb,⟨[],by simp⟩,fun _ z=>z,fun _ z=>.inl z,rfl,rfl⟩
 kd:=k.upd trivial
 tbl:=rfl
 ow:=fun _ _ z=>z
 oth:=fun b p hb _=>upd_ne fun z=>by
  subst z
  rw[w.tw h _ i ha hi hc]at hb
  cases hb
 ins:=fun j b i' hb _ _ ne=>upd_ne fun z=>by
  subst z
  exact ne (w.inj _ _ _ hb ha)
 nt:=fun j b i' hb hj hcj p z=>by
  rw[w.tw j b i' hb hj hcj]at z
  cases z
def Gh.own(g:Gh)(l:Addr)(h:Nat)(f:Str):Gh:={ g with ow:=fun b=>if b=l then some (h,f) else g.ow b }
theorem alL{l a:Addr}(hl:l∈g.tbl):(g.own l h f).W a↔g.W a:=by
 constructor
 ·rintro(z|z)
  ·exact .inl z
  ·by_cases y:a=l
   ·subst y
    exact .inl hl
   ·have z:(if a=l then some (h,f) else g.ow a)≠none:=z
    rw[if_neg y]at z
    exact .inr z
 ·rintro(z|z)
  ·exact .inl z
  ·refine .inr ?_
   show(if a=l then some (h,f) else g.ow a)≠none
   split
   ·exact fun q=>nomatch q
   ·exact z
theorem Uz(k:Kd g H)(w:fZ K aj g H M){a l:Addr}{n:Nat}{i:Inst}(ha:g.tbl[h]?=some a)(hi:M[h]?=some i)(hc:i.cls≠"")(hl:g.tbl[n]?=some l)(hn:M[n]?=some ⟨"",[]⟩)(nl:g.ow l=none){C dx:Addr}{fs':List (Str×V)}:Chg M g (g.own l h f) H (upd H a (.ins C dx fs')) h f:=by
 have W':∀{b:Addr},(g.own l h f).W b↔g.W b:=fun {b}=>alL (aq6 hl)
 have d:=Ut (f:=f) (C:=C) (dx:=dx) (fs':=fs') k w ha hi hc
 refine⟨⟨d.gc.keep,d.gc.dom,⟨[],by simp[Gh.own]⟩,fun b z=>W'.mpr z,fun b z=>.inl (W'.mp z),rfl,rfl⟩,⟨fun b z=>d.kd.ob b ?_,fun b z y=>d.kd.lo b z (W'.mp y),fun b z=>⟨fun y=>(d.kd.lc b z).1 (W'.mp y),(d.kd.lc b z).2⟩⟩,rfl,fun b p z=>?_,d.oth,d.ins,fun j b i' hb hj hcj p z=>?_⟩
 ·rcases z with z|z|z
  ·exact .inl (W'.mp z)
  ·exact .inr (.inl z)
  ·exact .inr (.inr z)
 ·show(if b=l then some (h,f) else g.ow b)=some p
  rw[if_neg (fun y=>by subst y;rw[nl]at z;cases z)]
  exact z
 ·have z:(if b=l then some (h,f) else g.ow b)=some p:=z
  by_cases y:b=l
  ·subst y
   cases w.inj _ _ _ hb hl
   rw[hn]at hj
   cases hj
   exact hcj rfl
  ·rw[if_neg y,w.tw j b i' hb hj hcj]at z
   cases z
theorem ado(k:Kd g H)(w:fZ K aj g H M){l:Addr}{o':HO}(ho:g.ow l=some (h,f))(mo:Jy o'):Chg M g g H (upd H l o') h f where
 gc:=⟨fun b u hb n=>by rw[upd_ne (fun z=>by subst z;exact n (.inr (by rw[ho];exact fun y=>nomatch y)))];exact hb,fun b hb=>by
  by_cases z:b=l
  ·subst z
   rw[upd_same]at hb
   cases hb
  ·rw[upd_ne z]at hb
   exact hb,⟨[],by simp⟩,fun _ z=>z,fun _ z=>.inl z,rfl,rfl⟩
 kd:=k.upd mo
 tbl:=rfl
 ow:=fun _ _ z=>z
 oth:=fun b p hb ne=>upd_ne fun z=>by
  subst z
  rw[ho]at hb
  exact ne (arn hb).symm
 ins:=fun j b i' hb hj hcj ne=>upd_ne fun z=>by
  subst z
  rw[w.tw j _ i' hb hj hcj]at ho
  cases ho
 nt:=fun j b i' hb hj hcj p z=>by
  rw[w.tw j b i' hb hj hcj]at z
  cases z
theorem cJ.len{fs:List (Str×V)}{gs:List (Str×jk)}(t:cJ K aj g H h fs gs):fs.length=gs.length:=by
 induction t with
 |nil=>rfl
 |cons _ _ ih=>simp[ih]
end
def Kz(M:Mo)(f:Str):Dat->Option jk
 |.dict [(.none,.int (.ofNat h))]=>(M[h]?).bind fun i=>i.fs.lookup f
 |_=>none
def fu(f:Str)(o:QF):QF:=fun M ρ=>(o M ρ).bind fun d=>match Kz M f d with
 |some (.dat x)=>.ok x
 |_=>.bad
def bF(f:Str)(o:QF):QF:=fun M ρ=>(o M ρ).bind fun d=>match Kz M f d with
 |some (.dat x)=>.ok x
 |some (.lst _ xs)=>.ok (.list xs)
 |_=>.bad
theorem aeL{M:Mo}{f:Str}{d:Dat}{fl:jk}(h:Kz M f d=some fl):∃n i,d=obj n/\M[n]?=some i/\i.fs.lookup f=some fl:=by
 unfold Kz at h
 split at h
 ·next n=>
  obtain⟨i,h1,h2⟩:=aqY.mp h
  exact⟨n,i,rfl,h1,h2⟩
 ·cases h
theorem lookup_mem{f:Str}{fl:jk}:∀{gs:List (Str×jk)},gs.lookup f=some fl->f∈gs.map (·.1)
 |[],h=>nomatch h
 |(g,y)::r,h=>by
  rw[arB]at h
  cases hb:f==g with
  |true=>rw[eq_of_beq hb];simp
  |false=>
   rw[hb]at h
   exact aq5 _ (lookup_mem h)
section
variable{K:aqZ}{aj:aQ}{g:Gh}{H:Hp}{M:Mo}
theorem XS(co:jG K aj)(w:fZ K aj g H M){f:Str}{d:Dat}{fl:jk}{v:V}(h:Kz M f d=some fl)(r:eE K g H v d):∃n i a C dx fs u,d=obj n/\M[n]?=some i/\i.fs.lookup f=some fl/\g.tbl[n]?=some a/\v=.ref a/\aj i.cls=some C/\H a=some (.ins C dx fs)/\cJ K aj g H n fs i.fs/\Cls K C/\NoAttr K C f/\fs.lookup f=some u/\dY K aj g H n f u fl:=by
 obtain⟨n,i,rfl,h1,h2⟩:=aeL h
 obtain⟨a,rfl,ha⟩:=Ma r
 have hc:i.cls≠"":=fun z=>by
  rw[w.dm n i h1 z]at h2
  cases h2
 obtain⟨C,dx,fs,c1,c2,c3⟩:=w.ins n a i ha h1 hc
 obtain⟨u,l1,l2⟩:=c3.get h2
 obtain⟨k1,k2⟩:=co i.cls C f c1 (w.fd n i h1 f (lookup_mem h2))
 exact⟨n,i,a,C,dx,fs,u,rfl,h1,h2,ha,rfl,c1,c2,c3,k1,k2,l1,l2⟩
end
section
variable{X:Cx}{aj:aQ}{W:WX}{o e:Expr}{es:List Expr}{fo:QF}{f m:Str}{pos apos:Pos}
theorem aiU(co:jG X.K aj)(ho:QW aj X W o fo)(hb:baseOk o=true):QE aj X W (.Attribute o f pos) (fu f fo):=
 PE.weak (pe_fld ho (mU hb)) fun σ H Q ⟨g,ρ,M,I,h⟩=>by
  refine tW.go I h.bnd fun d v H1 h1 e1 r1=>?_
  split at h1
  ·next x hx=>
   obtain⟨n,i,a,C,dx,fs,u,_,_,_,_,rfl,_,c2,_,k1,k2,l1,l2⟩:=XS co (I.ex e1).wok hx r1
   exact⟨a,C,dx,fs,u,rfl,c2,k1,k2,l1,h1 u H1 e1 l2⟩
  ·exact False.elim h1
theorem akE(co:jG X.K aj)(ho:QW aj X W o fo)(hb:baseOk o=true):QW aj X W (.Attribute o f pos) (bF f fo):=
 PE.weak (pe_fld ho (mU hb)) fun σ H Q ⟨g,ρ,M,I,h⟩=>by
  refine tW.go I h.bnd fun d v H1 h1 e1 r1=>?_
  split at h1
  ·next x hx=>
   obtain⟨n,i,a,C,dx,fs,u,_,_,_,_,rfl,_,c2,_,k1,k2,l1,l2⟩:=XS co (I.ex e1).wok hx r1
   exact⟨a,C,dx,fs,u,rfl,c2,k1,k2,l1,h1 u H1 e1 (Rep.weak l2)⟩
  ·next xs hx=>
   obtain⟨n,i,a,C,dx,fs,u,_,_,_,_,rfl,_,c2,_,k1,k2,l1,l,us,rfl,s1,s2,s3,_⟩:=XS co (I.ex e1).wok hx r1
   exact⟨a,C,dx,fs,_,rfl,c2,k1,k2,l1,h1 _ H1 e1 ⟨l,us,rfl,sq_of s1,s3⟩⟩
  ·exact False.elim h1
def R5(X:Cx)(W:WX)(m:Str)(ta:TE)(t:TA):TE:=fun σ H Q=>ta σ H fun x H1=>∃(a C dx:Addr) (fs:List (Str×V)) (f:Addr) (fd:FuncData) (ps:List Str) (sp:Sp) (k:Nat),x=.ref a/\H1 a=some (.ins C dx fs)/\fs.lookup m=none/\Cls X.K C/\Meth X.K C m f/\Room k X.A/\Binds X.K fd ps []/\
 FnOk X.prog X.w X.K X.mg X.base (L2.CX X.prog X.w) k f fd ps sp/\t σ H1 fun vs H2=>sp (x::vs) H2 Q (WE W σ)
theorem Wb{M:Model}{A:Around}{E:Value->Shared->Prop}{s:Shared}{env:PySem.Env}{args:List Expr}{Q:Value->Shared->Prop}(hbase:baseOk o=true)(hs:args.all nst=true)(hz:args.length < 30)(hl:(apos.endLine==pos.line)=true)
  (h:wpAny M A (eval o env) (fun ov s₁=>∀pl:Sem Bool,wpAny M A (getMethod ov m pl) (fun fx s₂=>wpAny M A (callWith pos fx.1 fx.2 (backTo pos (starEach args env)) (backToKw pos (keywordEach [] env))) Q E s₂) E s₁) E s) :
  wpAny M A (eval (.Call (.Attribute o m apos) args [] pos) env) Q E s:=by
 have hform:methodCallForm (args.length+([]:List Keyword).length) (backTo pos (starEach args env)) (backToKw pos (keywordEach [] env))=true:=few hs hz
 have hpos:methodCallPos true o env apos pos=pure pos:=by unfold methodCallPos;simp[hl]
 rw[arm_eval_Call,mU hbase]
 refine wpAny_bind (wpAny_mono h (fun ov s₁ h₁=>?_) fun _ _ e=>e)
 refine wpAny_bind (wpAny_standAt ?_)
 unfold methodCall
 rw[hform]
 refine wpAny_bind (wpAny_holding ?_)
 refine wpAny_mono (h₁ _) (fun fx s₂ h₂=>?_) fun _ _ e=>e
 exact wpAny_bind (wpAny_of_eq hpos h₂)
theorem Z9{ta:TE}{t:TA}(tk:Takes X W)(ho:PE X o ta)(ha:PA X (e::es) t)(hb:baseOk o=true)(hs:(e::es).all nst=true)(hl:(apos.endLine==pos.line)=true)(hz:(e::es).length < 30):PE X (.Call (.Attribute o m apos) (e::es) [] pos) (R5 X W m ta t):=by
 have hs':=hs
 rw[arK,aq0]at hs'
 refine⟨fun pins s σ H Q I h=>?_⟩
 refine Wb hb hs hz hl (thn (ho.run pins s σ H _ I h) fun u s1 ⟨x,G,J,rx,a,C,dx,fs,f,fd,ps,sp,k,ex,ea,l,c,hm,hr,hB,F,q⟩ pl=>?_)
 subst ex
 cases rx
 refine getmeth_ok J ea c hm l ?_
 refine PySem.W.callWith_K (first:=[.ref a]) (h₀:=X.base) I.ok.mod.kin hm.kp (thn (ha.run pos pins s1 σ G _ J q) fun us s2 ⟨vs,G2,J2,r,q2⟩=>⟨J2.kIn,?_⟩) (cH hs'.1 es) (star_any es hs'.2)
 exact run_fnS (us:=.ref a::us) (vs:=.ref a::vs) F hr hB (passAt tk σ) J2 (.cons rfl r) q2
theorem Wt{ta:TE}(tk:Takes X W)(ho:PE X o ta)(hb:baseOk o=true)(hl:(apos.endLine==pos.line)=true):PE X (.Call (.Attribute o m apos) [] [] pos) (R5 X W m ta tNil):=by
 refine⟨fun pins s σ H Q I h=>?_⟩
 refine Wb hb rfl (by decide) hl (thn (ho.run pins s σ H _ I h) fun u s1 ⟨x,G,J,rx,a,C,dx,fs,f,fd,ps,sp,k,ex,ea,l,c,hm,hr,hB,F,q⟩ pl=>?_)
 subst ex
 cases rx
 refine getmeth_ok J ea c hm l ?_
 exact PySem.W.callWith_K0 (first:=[.ref a]) J.kIn hm.kp (run_fnS (us:=[.ref a]) (vs:=[.ref a]) F hr hB (passAt tk σ) J (.cons rfl .nil) q)
def DG(tb:List (Str×MV))(M:Mo):Dat->Option MV
 |.dict [(.none,.int (.ofNat h))]=>(M[h]?).bind fun i=>tb.lookup i.cls
 |_=>none
def aO(tb:List (Str×MV))(o:QF)(as:QA):QF:=fun M ρ=>(o M ρ).bind fun d=>match DG tb M d with
 |some (.q _ m)=>(as M ρ).bind fun ds=>m M (d::ds)
 |_=>.bad
def cP(tb:List (Str×MV))(o:QF)(as:QA):GF:=fun M ρ=>((o M ρ).at M).bind fun d _=>match DG tb M d with
 |some (.q _ m)=>((as M ρ).at M).bind fun ds _=>(m M (d::ds)).at M
 |some (.g _ m)=>((as M ρ).at M).bind fun ds _=>m M (d::ds)
 |none=>.bad
def Jm(X:Cx)(aj:aQ)(k:Nat)(m:Str)(n:Nat)(tb:List (Str×MV)):Prop:=∀c v,tb.lookup c=some v->bY X.prog X.w X.K X.mg X.base aj k c m v/\match v with
  |.q j _=>j=n
  |.g j _=>j=n
theorem Jm.cls{k n:Nat}{tb:List (Str×MV)}(T:Jm X aj k m n tb):∀c v,tb.lookup c=some v->aj c≠none:=fun c v h z=>by
 obtain⟨⟨C,f,c1,_⟩,_⟩:=T c v h
 rw[z]at c1
 cases c1
theorem Uk{K:aqZ}{g:Gh}{H:Hp}{M:Mo}{tb:List (Str×MV)}{d:Dat}{v:V}{mv:MV}(ht:∀c v,tb.lookup c=some v->aj c≠none)(w:fZ K aj g H M)(h:DG tb M d=some mv)(r:eE K g H v d):∃n i a C dx fs,d=obj n/\M[n]?=some i/\tb.lookup i.cls=some mv/\g.tbl[n]?=some a/\v=.ref a/\aj i.cls=some C/\H a=some (.ins C dx fs)/\cJ K aj g H n fs i.fs:=by
 unfold DG at h
 split at h
 ·next n=>
  obtain⟨i,h1,h2⟩:=aqY.mp h
  obtain⟨a,rfl,ha⟩:=Ma r
  obtain⟨C,dx,fs,c1,c2,c3⟩:=w.ins n a i ha h1 fun z=>ht _ _ h2 (by rw[z];exact w.nc)
  exact⟨n,i,a,C,dx,fs,rfl,h1,h2,ha,rfl,c1,c2,c3⟩
 ·cases h
theorem Zi{K:aqZ}{g:Gh}{H:Hp}{M:Mo}{n:Nat}{i:Inst}{fs:List (Str×V)}(w:fZ K aj g H M)(hi:M[n]?=some i)(R:cJ K aj g H n fs i.fs)(h:m∉aj.fl i.cls):fs.lookup m=none:=by
 refine R.no ?_
 cases hl:i.fs.lookup m with
 |none=>rfl
 |some x=>exact absurd (w.fd n i hi m (lookup_mem hl)) h
theorem adp{tb:List (Str×MV)}{as:QA}{n k:Nat}{t:TA}(hr:Room k X.A)(T:Jm X aj k m n tb)(hn:∀M ρ ds,as M ρ=.ok ds->ds.length+1=n)(ht:∀σ H Q,Oc X.K aj W as σ H Q->t σ H Q)(σ:L2.St)(H:Hp)(Q:VK)(h:tQ X.K aj W (aO tb fo as) σ H Q):R5 X W m (tW X.K aj W fo) t σ H Q:=by
 obtain⟨g,ρ,M,I,h⟩:=h
 refine tW.go I h.bnd fun d v H1 h1 e1 r1=>?_
 have I1:=I.ex e1
 split at h1
 ·next j mm hmv=>
  obtain⟨hd,i,a,C,dx,fs,rfl,hi,hl,ha,rfl,c1,c2,c3⟩:=Uk T.cls I1.wok hmv r1
  obtain⟨⟨C',f,cc,cl,me,nf,fd,ps,j',hj,hp,hB,F⟩,en⟩:=T _ _ hl
  have en:j=n:=en
  rw[c1]at cc
  cases cc
  refine⟨a,C,dx,fs,f,fd,ps,_,j',rfl,c2,Zi I1.wok hi c3 nf,cl,me,hr.mono hj,hB,F,ht σ H1 _ ⟨g,ρ,M,I1,?_⟩⟩
  have h2:=h1.bnd
  cases has:as M ρ with
  |exc x=>rw[has]at h2;exact qG.ex e1 h2
  |bad=>rw[has]at h2;exact False.elim h2
  |ok ds=>
   rw[has]at h2
   intro vs H2 e2 r2
   refine⟨by rw[hp,en,←hn M ρ ds has,ari,r2.length],g,M,obj hd::ds,(I1.ex e2).kd,(I1.ex e2).wok,.cons (.obj ha) r2,?_⟩
   exact Out.sat.mono h2 (fun d k v H' e' r'=>k v H' ((e1.trans e2).trans e') r') fun x k H' c dd e' r'=>k H' c dd ((e1.trans e2).trans e') r'
 ·exact False.elim h1
theorem ahR{tb:List (Str×MV)}{as:QA}{k:Nat}(tk:Takes X W)(hr:Room k X.A)(T:Jm X aj k m ((e::es).length+1) tb)(ho:QW aj X W o fo)(ha:Dt aj X W (e::es) as)(hn:∀M ρ ds,as M ρ=.ok ds->ds.length=(e::es).length)(hb:baseOk o=true)(hs:(e::es).all nst=true)(hl:(apos.endLine==pos.line)=true)(hz:(e::es).length < 30) :
  QE aj X W (.Call (.Attribute o m apos) (e::es) [] pos) (aO tb fo as):=
 PE.weak (Z9 tk ho ha hb hs hl hz) fun σ H Q h=>adp hr T (fun M ρ ds z=>by rw[hn M ρ ds z]) (fun _ _ _ z=>z) σ H Q h
theorem af7{tb:List (Str×MV)}{k:Nat}(tk:Takes X W)(hr:Room k X.A)(T:Jm X aj k m 1 tb)(ho:QW aj X W o fo)(hb:baseOk o=true)(hl:(apos.endLine==pos.line)=true) :
  QE aj X W (.Call (.Attribute o m apos) [] [] pos) (aO tb fo au):=
 PE.weak (Wt tk ho hb hl) fun σ H Q h=>adp hr T (fun M ρ ds z=>by cases z;rfl) (fun σ H Q ⟨g,ρ,M,I,z⟩=>z [] H (Ex.refl H) .nil) σ H Q h
theorem ac9{tb:List (Str×MV)}{as:QA}{n k:Nat}{t:TA}(hr:Room k X.A)(T:Jm X aj k m n tb)(hn:∀M ρ ds,as M ρ=.ok ds->ds.length+1=n)(ht:∀σ H Q,Oc X.K aj W as σ H Q->t σ H Q)(σ:L2.St)(H:Hp)(Q:VK)(h:tE X.K aj W false (cP tb fo as) σ H Q):R5 X W m (tW X.K aj W fo) t σ H Q:=by
 obtain⟨g,ρ,M,I,h⟩:=h
 have quiet:∀{x:dU},gE X.K aj W false g H σ ρ x M->qG X.K aj W g H σ x:=fun {x} z H' c dd e r=>z H' g c dd (Gr.ex e) (I.ex e) r
 have h:=h.bnd
 refine⟨g,ρ,M,I,?_⟩
 cases ho:fo M ρ with
 |exc x=>rw[ho]at h;exact quiet h
 |bad=>rw[ho]at h;exact False.elim h
 |ok d=>
  rw[ho]at h
  intro v H1 e1 r1
  have I1:=I.ex e1
  have h:(match DG tb M d with
   |some (.q _ m)=>((as M ρ).at M).bind fun ds _=>(m M (d::ds)).at M
   |some (.g _ m)=>((as M ρ).at M).bind fun ds _=>m M (d::ds)
   |none=>.bad).sat (fun d M'=>∀v H' g',Gr false g g' H H'->SInv X.K aj σ H' g' ρ M'->Rep X.K g' H' v d->Q v H') (gE X.K aj W false g H σ ρ):=h
  split at h
  ·next j mm hmv=>
   obtain⟨hd,i,a,C,dx,fs,rfl,hi,hl,ha,rfl,c1,c2,c3⟩:=Uk T.cls I1.wok hmv r1
   obtain⟨⟨C',f,cc,cl,me,nf,fd,ps,j',hj,hp,hB,F⟩,en⟩:=T _ _ hl
   have en:j=n:=en
   rw[c1]at cc
   cases cc
   refine⟨a,C,dx,fs,f,fd,ps,_,j',rfl,c2,Zi I1.wok hi c3 nf,cl,me,hr.mono hj,hB,F,ht σ H1 _ ⟨g,ρ,M,I1,?_⟩⟩
   have h2:=h.bnd
   cases has:as M ρ with
   |exc x=>rw[has]at h2;exact qG.ex e1 (quiet h2)
   |bad=>rw[has]at h2;exact False.elim h2
   |ok ds=>
    rw[has]at h2
    intro vs H2 e2 r2
    have e12:=e1.trans e2
    refine⟨by rw[hp,en,←hn M ρ ds has,ari,r2.length],g,M,obj hd::ds,(I1.ex e2).kd,(I1.ex e2).wok,.cons (.obj ha) r2,?_⟩
    exact Out.sat.mono (Out.jm h2) (fun d k v H' e' r'=>k v H' g (Gr.ex (e12.trans e')) (I.ex (e12.trans e')) r') fun x k H' c dd e' r'=>k H' g c dd (Gr.ex (e12.trans e')) (I.ex (e12.trans e')) r'
  ·next j mm hmv=>
   obtain⟨hd,i,a,C,dx,fs,rfl,hi,hl,ha,rfl,c1,c2,c3⟩:=Uk T.cls I1.wok hmv r1
   obtain⟨⟨C',f,cc,cl,me,nf,fd,ps,j',hj,hp,hB,F⟩,en⟩:=T _ _ hl
   have en:j=n:=en
   rw[c1]at cc
   cases cc
   refine⟨a,C,dx,fs,f,fd,ps,_,j',rfl,c2,Zi I1.wok hi c3 nf,cl,me,hr.mono hj,hB,F,ht σ H1 _ ⟨g,ρ,M,I1,?_⟩⟩
   have h2:=h.bnd
   cases has:as M ρ with
   |exc x=>rw[has]at h2;exact qG.ex e1 (quiet h2)
   |bad=>rw[has]at h2;exact False.elim h2
   |ok ds=>
    rw[has]at h2
    intro vs H2 e2 r2
    have e12:=e1.trans e2
    refine⟨by rw[hp,en,←hn M ρ ds has,ari,r2.length],g,M,obj hd::ds,(I1.ex e2).kd,(I1.ex e2).wok,.cons (.obj ha) r2,?_⟩
    exact bf.sat.mono h2 (fun d M' k v H' g' c kd wk r'=>k v H' g' ((Gr.ex e12).trans c.gr) ((I.ex e12).call c kd wk) r') fun x M' k H' g' cc dd c kd wk r'=>k H' g' cc dd ((Gr.ex e12).trans c.gr) ((I.ex e12).call c kd wk) r'
  ·exact False.elim h
theorem ag7{tb:List (Str×MV)}{as:QA}{k:Nat}(tk:Takes X W)(hr:Room k X.A)(T:Jm X aj k m ((e::es).length+1) tb)(ho:QW aj X W o fo)(ha:Dt aj X W (e::es) as)(hn:∀M ρ ds,as M ρ=.ok ds->ds.length=(e::es).length)(hb:baseOk o=true)(hs:(e::es).all nst=true)(hl:(apos.endLine==pos.line)=true)(hz:(e::es).length < 30) :
  GE aj X W false (.Call (.Attribute o m apos) (e::es) [] pos) (cP tb fo as):=
 PE.weak (Z9 tk ho ha hb hs hl hz) fun σ H Q h=>ac9 hr T (fun M ρ ds z=>by rw[hn M ρ ds z]) (fun _ _ _ z=>z) σ H Q h
theorem afJ{tb:List (Str×MV)}{k:Nat}(tk:Takes X W)(hr:Room k X.A)(T:Jm X aj k m 1 tb)(ho:QW aj X W o fo)(hb:baseOk o=true)(hl:(apos.endLine==pos.line)=true) :
  GE aj X W false (.Call (.Attribute o m apos) [] [] pos) (cP tb fo au):=
 PE.weak (Wt tk ho hb hl) fun σ H Q h=>ac9 hr T (fun M ρ ds z=>by cases z;rfl) (fun σ H Q ⟨g,ρ,M,I,z⟩=>z [] H (Ex.refl H) .nil) σ H Q h
end
def eU(x:Str):SF:=fun M ρ=>.exc ⟨x,[]⟩ ρ M
def Cj(x:Str)(fs:List Str)(as:QA):SF:=fun M ρ=>((as M ρ).at M).then ρ fun ds M'=>.exc ⟨x,(fs.zip ds).reverse⟩ ρ M'
section
variable{X:Cx}{aj:aQ}{W:WX}{q:Bool}{x:Str}{pos p p1:Pos}{k:Nat}
theorem afR(hc:X.calm=true)(tk:Takes X W)(hg:Gl X x)(hd:(x==("__debug__" : Str))=false)(g:bh X.prog X.w X.K X.mg X.base aj k x .exc):SE aj X W q (.Raise (some (.Call (.Name x p) [] [] p1)) none pos) (eU x):=by
 obtain⟨C,g1,g2,g3,g4,g5,g6⟩:=g
 exact PS.weak (ps_raise hc tk (Ear.aft PySem.F.excBase_ValueError g3 g1 g4 (raises_own g5 g6) hg hd)) fun D σ H ⟨g,ρ,M,I,z⟩=>z σ H g (.ref C) none Gr.refl I ⟨C,g2,rfl,.inl ⟨rfl,rfl⟩⟩
theorem lA.gr{K:aqZ}{g g':Gh}{H H':Hp}{q:Bool}(r:Gr q g g' H H')(k:Kd g H){fs:List (Str×V)}{gs:List (Str×Dat)}(h:lA K g H fs gs):lA K g' H' fs gs:=by
 induction h with
 |nil=>exact .nil
 |cons z _ ih=>exact .cons (z.gr r k) ih
theorem lA.snoc{K:aqZ}{g:Gh}{H:Hp}{f:Str}{v:V}{d:Dat}(z:Rep K g H v d){fs:List (Str×V)}{gs:List (Str×Dat)}(h:lA K g H fs gs):lA K g H (fs++[(f,v)]) (gs++[(f,d)]):=by
 induction h with
 |nil=>exact .cons z .nil
 |cons y _ ih=>exact .cons y ih
theorem acJ{K:aqZ}{g:Gh}{H:Hp}:∀{fs:List Str} {vs:List V} {ds:List Dat},aM K g H vs ds->lA K g H (fs.zip vs).reverse (fs.zip ds).reverse
 |[],_,_,_=>.nil
 |_::_,_,_,.nil=>.nil
 |f::fs,_,_,.cons z t=>by
  rw[arP,arP,ar9,ar9]
  exact(acJ t).snoc z
theorem adB{e:Expr}{es:List Expr}{fs:List Str}{as:QA}(hc:X.calm=true)(tk:Takes X W)(hr:Room k X.A)(hg:Gl X x)(hd:(x==("__debug__" : Str))=false)(g:bh X.prog X.w X.K X.mg X.base aj k x (.exi fs))(ha:Dt aj X W (e::es) as)
  (hs:(e::es).all nst=true) (hn:∀M ρ ds,as M ρ=.ok ds->ds.length=fs.length) (hz:fs.length<=1000):SE aj X W q (.Raise (some (.Call (.Name x p) (e::es) [] p1)) none pos) (Cj x fs as):=by
 obtain⟨C,fI,fd,ps,g1,g2,g3,g4,g5,hk,hp,hB,F⟩:=g
 have hs':=hs
 rw[arK,aq0]at hs'
 refine PS.weak (ps_raise hc tk (pmk_oex g3 g4 g5 F (hr.mono hk) hB .nil pass0 hg g1 ha hd (cH hs'.1 es) (star_any es hs'.2))) fun D σ H ⟨g,ρ,M,I,z⟩=>?_
 refine⟨g,ρ,M,I,?_⟩
 unfold Cj at z
 cases has:as M ρ with
 |exc y=>rw[has]at z;exact fun H' c dd e r=>z σ H' g c dd (Gr.ex e) (I.ex e) r.fr
 |bad=>rw[has]at z;exact False.elim z
 |ok ds=>
  rw[has]at z
  intro vs H1 e1 r1
  have hl:vs.length=fs.length:=by rw[r1.length,hn M ρ ds has]
  refine⟨by omega,fun a na=>⟨a,vs++[],rfl,by simpa using hl,upd_same,fun dx H' nd kp dm ha' hd'=>?_⟩⟩
  have ne:dx≠a:=fun z=>by
   subst z
   rw[upd_same]at nd
   cases nd
  rw[upd_ne ne]at nd
  refine⟨rfl,dx,_,ha',hd',nd,?_⟩
  have kp':∀b o,H1 b=some o->(upd (del H' a) dx (.xd (fs.zip (vs++[])).reverse)) b=some o:=fun b o hb=>by
   have nb:b≠a:=fun z=>by subst z;rw[na]at hb;cases hb
   have nd':b≠dx:=fun z=>by subst z;rw[nd]at hb;cases hb
   rw[upd_ne nd',del_ne nb]
   exact kp b o nb (by rw[upd_ne nb];exact hb)
  have ex:Ex H1 (upd (del H' a) dx (.xd (fs.zip (vs++[])).reverse)):=fun b o hb=>kp' b o hb
  have I1:=I.ex e1
  refine z σ _ g (.ref C) (some dx) (Gr.ex (e1.trans ex)) (I1.ex ex) ⟨C,g2,rfl,.inr ⟨dx,_,rfl,upd_same,?_⟩⟩
  rw[arQ]
  have:=(acJ (fs:=fs) r1).gr (Gr.ex (q:=true) ex) I1.kd
  rw[arQ]at this
  exact lA.less (g:=g) (g':=g.fr) rfl (wO g) this
end
section
variable{P:Program}{w:World}{K:aqZ}{mg:Str->Option Value}{base:Heap}{C f:Addr}{fd:FuncData}{qual:Str}{st:Stmt}
theorem vis_par{N ps:List Str}{sc:Scope}(S:FnScope N ps sc){y:Str}(h:y∈ps):Vis sc y:=(S.par y h).elim (fun z=>.inl z) fun z=>.inr (.inl z)
theorem adC{s a1 a2 a3 f1 f2 f3:Str}{p1 p2 p3 p4 p5 p6 p7 p8 p9 p10 p11 p12:Pos}(F:L2.Fun K "__init__" qual st f fd)(S:FnScope [s,a1,a2,a3] [s,a1,a2,a3] (defScope st))(T:OexC K C)
  (hb:defBody st=[.Assign [.Attribute (.Name s p1) f1 p2] (.Name a1 p3) p4,.Assign [.Attribute (.Name s p5) f2 p6] (.Name a2 p7) p8,.Assign [.Attribute (.Name s p9) f3 p10] (.Name a3 p11) p12])
  (dz:∀y∈[s,a1,a2,a3],(y==("__debug__" : Str))=false/\(y==("__classdict__" : Str))=false) (n1:PySem.W.findIn K (.ref C) f1=some none) (n2:PySem.W.findIn K (.ref C) f2=some none) (n3:PySem.W.findIn K (.ref C) f3=some none) :
  FnOk P w K mg base CX0 1 f fd [s,a1,a2,a3] (afV C [f1,f2,f3]):=by
 refine F.ok S (fun vs H Q E h=>?_) (fun cdv A outer s0 H vs Q E hr h=>?_)
 ·obtain⟨a,xs,rfl,hl,_⟩:=h
  simp[hl]
 ·obtain⟨a,xs,rfl,hl,ha,q⟩:=h
  match xs,hl with
  |[x,y,z],_=>
  rw[hb]
  have v0:=vis_par S (y:=s) (by simp)
  have v1:=vis_par S (y:=a1) (by simp)
  have v2:=vis_par S (y:=a2) (by simp)
  have v3:=vis_par S (y:=a3) (by simp)
  obtain⟨c0,k0⟩:=dz s (by simp)
  obtain⟨c1,k1⟩:=dz a1 (by simp)
  obtain⟨c2,k2⟩:=dz a2 (by simp)
  obtain⟨c3,k3⟩:=dz a3 (by simp)
  refine⟨_,pss_cons (ps_ost (pe_var (i:=0) rfl v0 c0 k0) (pe_var (i:=1) rfl v1 c1 k1)) (pss_cons (ps_ost (pe_var (i:=0) rfl v0 c0 k0) (pe_var (i:=2) rfl v2 c2 k2)) (pss_one (ps_ost (pe_var (i:=0) rfl v0 c0 k0) (pe_var (i:=3) rfl v3 c3 k3)))),?_⟩
  refine⟨_,rfl,_,rfl,a,C,rfl,T,n1,.inl ⟨ha,fun dx nd ne=>?_⟩⟩
  refine⟨_,rfl,_,rfl,a,C,rfl,T,n2,.inr ⟨dx,[(f1,x)],upd_same,(by rw[upd_ne ne];exact upd_same),(show 1<=900 by decide),?_⟩⟩
  refine⟨_,rfl,_,rfl,a,C,rfl,T,n3,.inr ⟨dx,_,(by rw[upd_ne ne.symm];exact upd_same),upd_same,(show 2<=900 by decide),?_⟩⟩
  refine q dx _ nd (fun b o hb hB=>?_) (fun b hB=>?_) (by rw[upd_ne ne.symm,upd_ne ne.symm];exact upd_same) upd_same
  ·have hbd:b≠dx:=ne_of_none hB nd
   rw[upd_ne hbd,upd_ne hbd,upd_ne hb,upd_ne hbd]
   exact hB
  ·by_cases e:b=dx
   ·rw[e];exact nd
   ·by_cases e2:b=a
    ·subst e2
     rw[upd_ne e,upd_ne e,upd_same]at hB
     cases hB
    ·rw[upd_ne e,upd_ne e,upd_ne e2,upd_ne e]at hB
     exact hB
end
structure Cl where
 c:Value
 nm:Option Nat
 ts:Addr->Value->Option Addr->TS
def ant(D:Ends)(i:Nat):Ends:={ nx:=fun τ G=>D.nx (τ.set i none) G,rt:=D.rt,bk:=fun τ G=>D.bk (τ.set i none) G,ct:=fun τ G=>D.ct (τ.set i none) G }
def aae(K:aqZ)(Wo:WX)(D:Ends):List Cl->WX
 |[]=>Wo
 |l::r=>fun cls d τ G=>∃b,PySem.W.exmOne K cls l.c=some b/\(b=true->∀a,G a=none->(match l.nm with
   |none=>l.ts a cls d D τ G
   |some i=>l.ts a cls d (ant D i) (τ.set i (some (.ref a))) G))/\(b=false->aae K Wo D r cls d τ G)
inductive BX(X:Cx):List ExceptHandler->List Cl->Prop
 |nil:BX X [] []
 |one {x:Str} {l:Cl} {s0:Stmt} {su:List Stmt} {np cp:Pos} {hds:List ExceptHandler} {ls:List Cl} (hc:Names X x l.c) (hn:l.nm=none)
   (hsu:∀(a:Addr) (oe:Obj) (cls:Value) (d:Option Addr) (pn:List (Addr×Obj)),Zc cls d oe->(∃vs,oe.data=.fields vs)->PSs (X.suite a ((a,oe)::pn)) (s0::su) (l.ts a cls d)) (r:BX X hds ls) :
   BX X (.ExceptHandler (some (.Name x np)) none (s0::su) cp::hds) (l::ls)
 |as {x n:Str} {i:Nat} {l:Cl} {s0:Stmt} {su:List Stmt} {np cp:Pos} {hds:List ExceptHandler} {ls:List Cl} (hc:Names X x l.c) (hn:l.nm=some i) (hi:X.N[i]?=some n) (hl:X.env.kindOf n=some .local)
   (hsu:∀(a:Addr) (oe:Obj) (cls:Value) (d:Option Addr) (pn:List (Addr×Obj)),Zc cls d oe->(∃vs,oe.data=.fields vs)->PSs (X.suite a ((a,oe)::pn)) (s0::su) (l.ts a cls d)) (r:BX X hds ls) :
   BX X (.ExceptHandler (some (.Name x np)) (some n) (s0::su) cp::hds) (l::ls)
section
variable{X:Cx}{body:List Stmt}{h0:ExceptHandler}{hds:List ExceptHandler}{ls:List Cl}{pos:Pos}{tb:WX->TS}{Wo:WX}
theorem agK(hs:X.stack=X.env::X.outer)(hf:X.env.frame=some X.env.locals)(hN:X.N.Nodup)(tk:Takes X Wo)
  (hb:∀(W:WX) (pn:List (Addr×Obj)) (xe:Value->Shared->Prop),Takes (X.tr pn xe) W->PassesOwn (model X.prog X.w) X.A X.env xe->PSs (X.tr pn xe) body (tb W))
  (hh:BX X (h0::hds) ls):PS X (.Try body (h0::hds) [] [] pos) (fun D σ H=>tb (aae X.K Wo D ls) D σ H):=by
 constructor
 intro pins s σ H D I h
 have ok:=I.ok
 have frm:X.A.frames=some (X.env::X.outer):=by rw[ok.frames,hs]
 have run:=(hb (aae X.K Wo D ls) (X.pn++pins) (fun e t₁=>wpAny (model X.prog X.w) X.A (noteFrame e X.env) (fun _ t₂=>wpAny (model X.prog X.w) X.A (setFlight e none) (fun _ t₃=>wpAny (model X.prog X.w) X.A (handleBy e X.env (h0::hds)) (SP X pins D) X.xe t₃) X.xe t₂) X.xe t₁) (fun u t xx=>by
  obtain⟨a,B,sI,pins2,τ,G,cls,d,rfl,J2,nb,up,sky,na,os,ag,w⟩:=xx
  have J:Inv X pins τ G sI:=J2.ofTry ok
  have sky2:Sky B (X.env::X.outer) a (Zc cls d) X.env.locals t.heap:=by
   rw[←hs]
   exact sky
  show wpAny (model X.prog X.w) X.A (noteFrame (.ref a) X.env) _ _ _
  refine Sky.land Zc.steady frm hf sky2 ?_
  intro h3 fl3 up3
  have J3:Inv X pins τ G { t with heap:=h3 }:=J.landed nb fl3.1 (up.trans up3) os ag
  obtain⟨oe3,vs3,he3,hz3,hd3⟩:=fl3.there
  have notF:a∉frs (X.env::X.outer):=fun hm=>by
   obtain⟨_,o,eo,hnf⟩:=Heap.FunFrames.mem fl3.2.2.1 hm
   rw[he3]at eo
   cases eo
   exact hnf _ hd3
  have nL:a≠X.env.locals:=fun z=>notF (List.mem_filterMap.mpr ⟨X.env,aq4,(by rw[hf,z])⟩)
  have nF:a∉X.fs:=fun hm=>by
   obtain⟨e,he,q⟩:=List.mem_filterMap.mp hm
   exact notF (List.mem_filterMap.mpr ⟨e,aq5 _ he,q⟩)
  have S3:=J3.suite he3 hd3 na nL nF
  have look:PySem.W.Looks (model X.prog X.w) h3 (typeOf (.ref a)) cls:=fun A Q E s k q=>wpAny_typeOf_ref (k _ _ he3) (by rw[hz3.1];exact q)
  have named:∀{x:Str} {c:Value} {np:Pos} {Q:Value->Shared->Prop} {E:Value->Shared->Prop},Names X x c->Q c { t with heap:=h3 }->wpAny (model X.prog X.w) (X.A.mark (some (.ref a))) (eval (.Name x np) X.env) Q E { t with heap:=h3 }:=by
   intro x c np Q E hc q
   obtain⟨hg,hdb,hm⟩:=hc
   rcases hm with hm|⟨hm,hv,hnn⟩
   ·exact ld_glob (X:=X.suite a ((a,oe3)::(X.pn++pins))) S3 hg hm q hdb
   ·exact ld_blt (X:=X.suite a ((a,oe3)::(X.pn++pins))) S3 hg hm hv q hnn hdb
  have all:∀{hds2:List ExceptHandler} {ls2:List Cl},BX X hds2 ls2->aae X.K Wo D ls2 cls d τ G->wpAny (model X.prog X.w) X.A (handleBy (.ref a) X.env hds2) (SP X pins D) X.xe { t with heap:=h3 }:=by
   intro hds2 ls2 hk
   induction hk with
   |nil=>
    intro w
    refine wpAny_handleBy_nil ?_
    obtain⟨k1,k2,k3,oe,vs,T,oT,ts2,he,hz,hd,h1,hr⟩:=id fl3
    unfold PySem.passOn
    refine wpAny_bind (wpAny_field he hd h1 ?_)
    have nT:¬((Value.ref T==Value.none)=true):=by simp
    rw[if_neg nT]
    have fin:wpAny (model X.prog X.w) X.A (setFlight (.ref a) X.env.frame) (fun _ s4=>wpAny (model X.prog X.w) X.A (throw (.ref a):Sem Flow) (SP X pins D) X.xe s4) X.xe { t with heap:=h3 }:=by
     rw[hf]
     refine HandSPX.setFlight_upZ fl3 ?_
     intro h4 hh4 up4
     refine wpAny_throw (tk _ _ ?_)
     exact⟨a,B,sI,pins,τ,G,cls,d,rfl,J,nb,(up.trans up3).trans up4,.inr (.inr (by rw[hs];exact hh4)),na,os,ag,w⟩
    first
     |exact wpAny_bind (wpAny_pure (wpAny_bind fin))
     |exact wpAny_bind fin
   | @one x l s0 su np cp hds3 ls3 hc hn hsu r ih=>
    intro w
    obtain⟨b,hb1,yes,no⟩:=w
    rw[hn]at yes
    have LM:=PySem.W.exm_one (M:=model X.prog X.w) J3.kIn look hb1
    refine wpAny_handleBy_cons (codeAny_handlers_test ?_) (by intro q;cases q)
    refine named hc (LM.here ?_)
    cases b with
    |false=>exact ih (no rfl)
    |true=>
     refine codeAny_handlers_suite ?_
     refine HandSPX.lands_againZ fl3 ?_
     intro h4 fl4 up4
     have J4:Inv X pins τ G { t with heap:=h4 }:=J.landed nb fl4.1 ((up.trans up3).trans up4) os ag
     obtain⟨oe4,vs4,he4,hz4,hd4⟩:=fl4.there
     have S4:=J4.suite he4 hd4 na nL nF
     refine wpAny_mono ((hsu a oe4 cls d (X.pn++pins) hz4 ⟨_,hd4⟩).run [] _ _ G _ S4 (yes rfl a na)) ?_ (fun _ _ z=>False.elim z)
     intro f s6 sp6
     cases f with
     |ret u=>
      obtain⟨v6,τ6,G6,S6,r6,q6⟩:=sp6
      exact⟨_,_,_,S6.unsuite ok,r6,q6⟩
     |next=>
      obtain⟨τ6,G6,S6,q6⟩:=sp6
      exact⟨_,_,S6.unsuite ok,q6⟩
     |brk=>
      obtain⟨τ6,G6,S6,q6⟩:=sp6
      exact⟨_,_,S6.unsuite ok,q6⟩
     |cont=>
      obtain⟨τ6,G6,S6,q6⟩:=sp6
      exact⟨_,_,S6.unsuite ok,q6⟩
   | @as x n i l s0 su np cp hds3 ls3 hc hn hi hl hsu r ih=>
    intro w
    obtain⟨b,hb1,yes,no⟩:=w
    rw[hn]at yes
    have LM:=PySem.W.exm_one (M:=model X.prog X.w) J3.kIn look hb1
    refine wpAny_handleBy_cons (codeAny_handlers_test ?_) (by intro q;cases q)
    refine named hc (LM.here ?_)
    cases b with
    |false=>exact ih (no rfl)
    |true=>
     refine codeAny_handlers_suite_as ?_
     refine HandSPX.lands_againZ fl3 ?_
     intro h4 fl4 up4
     have J4:Inv X pins τ G { t with heap:=h4 }:=J.landed nb fl4.1 ((up.trans up3).trans up4) os ag
     obtain⟨oe4,vs4,he4,hz4,hd4⟩:=fl4.there
     have S4:=J4.suite he4 hd4 na nL nF
     refine store_ok (X:=X.suite a ((a,oe4)::(X.pn++pins))) (v:=.ref a) S4 hN hi (.inl hl) rfl ?_ (.inr hl)
     intro s5 S5
     refine wpAny_mono ((hsu a oe4 cls d (X.pn++pins) hz4 ⟨_,hd4⟩).run [] s5 _ G _ S5 (yes rfl a na)) ?_ (fun _ _ z=>False.elim z)
     intro f s6 sp6
     have bye:∀{τ6:L2.St} {G6:Hp} {Q:Shared->Prop},Inv (X.suite a ((a,oe4)::(X.pn++pins))) [] τ6 G6 s6->(∀s7,Inv X pins (τ6.set i none) G6 s7->Q s7)->
       wpAny (model X.prog X.w) X.A (do bindName X.env n .none;unbindBehindTheSuite X.env n cp) (fun _ s7=>Q s7) X.xe s6:=fun S6 hq=>gone_ok (S6.unsuite ok) hN hi hl hq
     cases f with
     |ret u=>
      obtain⟨v6,τ6,G6,S6,r6,q6⟩:=sp6
      exact bye S6 fun s7 J7=>⟨_,_,_,J7,r6,q6⟩
     |next=>
      obtain⟨τ6,G6,S6,q6⟩:=sp6
      exact bye S6 fun s7 J7=>⟨_,_,J7,q6⟩
     |brk=>
      obtain⟨τ6,G6,S6,q6⟩:=sp6
      exact bye S6 fun s7 J7=>⟨_,_,J7,q6⟩
     |cont=>
      obtain⟨τ6,G6,S6,q6⟩:=sp6
      exact bye S6 fun s7 J7=>⟨_,_,J7,q6⟩
  exact all hh w) PassesOwn.looking).run [] s σ H D (I.toTry _) h
 refine wpAny_Try_except (wpAny_mono run ?_ (fun _ _ z=>z))
 intro f s1 sp1
 cases f with
 |ret u=>
  obtain⟨v,τ,G,J2,r,q⟩:=sp1
  exact⟨v,τ,G,J2.ofTry ok,r,q⟩
 |next=>
  obtain⟨τ,G,J2,q⟩:=sp1
  exact wpAny_execs_nil ⟨τ,G,J2.ofTry ok,q⟩
 |brk=>
  obtain⟨τ,G,J2,q⟩:=sp1
  exact⟨τ,G,J2.ofTry ok,q⟩
 |cont=>
  obtain⟨τ,G,J2,q⟩:=sp1
  exact⟨τ,G,J2.ofTry ok,q⟩
end
inductive DP where
 |con (d:Dat)|fld (f:Str)|flds (fs:List Str)
def Zb(y:Str)(x:dU)(f:Str):Option Dat:=match x.cls==y with
 |true=>(x.fs.lookup f).bind fun d=>match lf d with
  |true=>some d
  |false=>none
 |false=>none
def Ra(y:Str)(x:dU):List Str->Option (List Dat)
 |[]=>some []
 |f::fs=>(Zb y x f).bind fun d=>(Ra y x fs).bind fun ds=>some (d::ds)
def YB(y:Str)(x:dU):DP->Option Dat
 |.con d=>some d
 |.fld f=>Zb y x f
 |.flds fs=>(Ra y x fs).bind fun ds=>some (.tuple ds)
def Dy(y:Str)(x:dU):List (Nat×DP)->Env->Option Env
 |[],ρ=>some ρ
 |(j,e)::r,ρ=>(YB y x e).bind fun d=>Dy y x r (ρ.set j (some (.dat d)))
structure Hd where
 y:Str
 tk:Str->Option Bool
 nm:Option Nat
 st:List (Nat×DP)
def Ug(ρ:Env):Option Nat->Env
 |none=>ρ
 |some i=>ρ.set i none
def ab1(ρ:Env):Option Nat->Bool
 |none=>true
 |some i=>decide (i < ρ.length)
def hdl:List Hd->dU->Env->Mo->tM
 |[],x,ρ,M=>.exc x ρ M
 |h::r,x,ρ,M=>match h.tk x.cls with
  |some true=>match ab1 ρ h.nm with
   |true=>match Dy h.y x h.st (Ug ρ h.nm) with
    |some ρ2=>.next (Ug ρ2 h.nm) M
    |none=>.bad
   |false=>.bad
  |some false=>hdl r x ρ M
  |none=>.bad
def XC(f:SF)(hs:List Hd):SF:=fun M ρ=>match f M ρ with
 |.exc x ρ' M'=>hdl hs x ρ' M'
 |o=>o
structure XIn(K:aqZ)(aj:aQ)(σ:L2.St)(H:Hp)(g:Gh)(ρ:Env)(M:Mo)(x:dU)(a:Addr)(cls:Value)(d:Option Addr)(i:Option Nat):Prop where
 inv:SInv K aj σ H g ρ M
 xr:qY K aj g.fr H x cls d
 sl:∀j,i=some j->σ[j]?=some (some (.ref a))
section
variable(K:aqZ)(aj:aQ)(a:Addr)(cls:Value)(d:Option Addr)(i:Option Nat)
def tU(f:dU->Option Dat):TE:=fun σ H Q=>∃g ρ M x z,XIn K aj σ H g ρ M x a cls d i/\f x=some z/\∀v H',Ex H H'->Rep K g H' v z->Q v H'
def tUA(f:dU->Option (List Dat)):TA:=fun σ H Q=>∃g ρ M x z,XIn K aj σ H g ρ M x a cls d i/\f x=some z/\∀v H',Ex H H'->aM K g H' v z->Q v H'
def tSu(y:Str)(st:List (Nat×DP)):TS:=fun D σ H=>∃g ρ M x ρ2,XIn K aj σ H g ρ M x a cls d i/\Dy y x st ρ=some ρ2/\(∀p∈st,i≠some p.1)/\∀σ' H',Ex H H'->SInv K aj σ' H' g ρ2 M->D.nx σ' H'
end
section
variable{K:aqZ}{aj:aQ}{a:Addr}{cls:Value}{d:Option Addr}{i:Option Nat}{σ:L2.St}{H H':Hp}{g:Gh}{ρ:Env}{M:Mo}{x:dU}
theorem lA.ex{fs:List (Str×V)}{gs:List (Str×Dat)}(e:Ex H H')(k:Kd g H)(h:lA K g H fs gs):lA K g H' fs gs:=h.gr (Gr.ex (q:=true) e) k
theorem qY.ex{c:Value}{dd:Option Addr}(e:Ex H H')(k:Kd g H)(h:qY K aj g H x c dd):qY K aj g H' x c dd:=by
 obtain⟨C,h1,h2,h3⟩:=h
 exact⟨C,h1,h2,h3.imp id fun⟨b,fs,e1,e2,e3⟩=>⟨b,fs,e1,e _ _ e2,e3.ex e k⟩⟩
theorem XIn.ex(e:Ex H H')(h:XIn K aj σ H g ρ M x a cls d i):XIn K aj σ H' g ρ M x a cls d i:=⟨h.inv.ex e,h.xr.ex e h.inv.kd.fr,h.sl⟩
theorem lA.get{f:Str}{z:Dat}{fs:List (Str×V)}{gs:List (Str×Dat)}(h:lA K g H fs gs)(e:gs.lookup f=some z):∃v,fs.lookup f=some v/\Rep K g H v z:=by
 induction h with
 |nil=>cases e
 | @cons f' v d' _ _ r _ ih=>
  rw[arB]at e
  rw[arB]
  cases hb:f==f' with
  |true=>
   rw[hb]at e
   cases e
   exact⟨v,rfl,r⟩
  |false=>
   rw[hb]at e
   exact ih e
end
section
variable{X:Cx}{aj:aQ}{a C:Addr}{oe:Obj}{cls:Value}{d:Option Addr}{pn:List (Addr×Obj)}{y n:Str}{pos p:Pos}{j:Nat}
theorem aee{e:Expr}{z:Dat}{i:Option Nat}{t:TE}(h:PE (X.suite a ((a,oe)::pn)) e t)(ht:∀σ H Q,tU X.K aj a cls d i (fun _=>some z) σ H Q->t σ H Q):PE (X.suite a ((a,oe)::pn)) e (tU X.K aj a cls d i fun _=>some z):=PE.weak h ht
theorem adl{f:Str}(hC:aj y=some C)(T:XfC X.K C)(hno:PySem.W.findIn X.K (.ref C) f=some none)(hz:Zc cls d oe)(hf:∃vs,oe.data=.fields vs)(hN:X.N[j]?=some n)(hv:Vis X.env.scope n)(hd:(n==("__debug__" : Str))=false)(hcd:(n==("__classdict__" : Str))=false) :
  PE (X.suite a ((a,oe)::pn)) (.Attribute (.Name n p) f pos) (tU X.K aj a cls d (some j) fun x=>Zb y x f):=by
 refine PE.weak (pe_xf T hno hz hf (pe_var (i:=j) (X:=X.suite a ((a,oe)::pn)) hN hv hd hcd)) fun σ H Q ⟨g,ρ,M,x,z,I,e,k⟩=>?_
 have e:Zb y x f=some z:=e
 unfold Zb at e
 split at e
 ·next ey=>
  obtain⟨z',l,e⟩:=aqY.mp e
  split at e
  ·next hl=>
   cases e
   obtain⟨C',c1,c2,c3⟩:=I.xr
   rw[eq_of_beq ey,hC]at c1
   cases c1
   rcases c3 with⟨c3,_⟩|⟨b,fs,c3,c4,c5⟩
   ·rw[c3]at l
    cases l
   ·obtain⟨v,l1,l2⟩:=c5.get l
    exact⟨.ref a,I.sl j rfl,rfl,c2,b,fs,v,c3,c4,l1,k v H (Ex.refl H) (Rep.free (g:=g.fr) (g':=g) rfl hl l2)⟩
  ·cases e
 ·cases e
theorem adD{i:Option Nat}:PA (X.suite a ((a,oe)::pn)) [] (tUA X.K aj a cls d i fun _=>some []):=PA.weak pa_nil fun σ H Q ⟨g,ρ,M,x,z,I,e,k⟩=>by
 cases e
 exact k [] H (Ex.refl H) .nil
theorem ahF{e:Expr}{es:List Expr}{i:Option Nat}{f:dU->Option Dat}{fr:dU->Option (List Dat)}(h:PE (X.suite a ((a,oe)::pn)) e (tU X.K aj a cls d i f))(hr:PA (X.suite a ((a,oe)::pn)) es (tUA X.K aj a cls d i fr))(hs:nst e=true) :
  PA (X.suite a ((a,oe)::pn)) (e::es) (tUA X.K aj a cls d i fun x=>(f x).bind fun z=>(fr x).bind fun zs=>some (z::zs)):=by
 refine PA.weak (pa_cons h hr (cH hs es)) fun σ H Q ⟨g,ρ,M,x,z,I,e,k⟩=>?_
 obtain⟨z1,e1,e⟩:=aqY.mp e
 obtain⟨z2,e2,e⟩:=aqY.mp e
 cases e
 exact⟨g,ρ,M,x,z1,I,e1,fun v H1 x1 r1=>⟨g,ρ,M,x,z2,I.ex x1,e2,fun vs H2 x2 r2=>k (v::vs) H2 (x1.trans x2) (.cons (r1.ex x2 (I.ex x1).inv.kd) r2)⟩⟩
theorem acL{es:List Expr}{kk:Nat}{i:Option Nat}{fr:dU->Option (List Dat)}(hr:PA (X.suite a ((a,oe)::pn)) es (tUA X.K aj a cls d i fr))(hn:∀x zs,fr x=some zs->zs.length<=100000):PE (X.suite a ((a,oe)::pn)) (.Tuple es kk pos) (tU X.K aj a cls d i fun x=>(fr x).bind fun zs=>some (.tuple zs)):=by
 refine PE.weak (pe_tup hr) fun σ H Q ⟨g,ρ,M,x,z,I,e,k⟩=>?_
 obtain⟨zs,e1,e⟩:=aqY.mp e
 cases e
 refine⟨g,ρ,M,x,zs,I,e1,fun vs H1 x1 r1=>⟨sz_of (by rw[r1.length];exact hn x zs e1),fun p np=>?_⟩⟩
 exact k (.ref p) _ (x1.trans (Ex.new np)) (.tup (st_of upd_same) (r1.ex (Ex.new np) (I.ex x1).inv.kd))
theorem VB{x:dU}:∀{fs:List Str} {zs:List Dat},Ra y x fs=some zs->zs.length=fs.length
 |[],zs,h=>by cases h;rfl
 |f::fs,zs,h=>by
  rw[Ra]at h
  obtain⟨z1,e1,h⟩:=aqY.mp h
  obtain⟨z2,e2,h⟩:=aqY.mp h
  cases h
  simp[VB e2]
theorem ajc{i:Option Nat}{se:DP}{st:List (Nat×DP)}{D D':Ends}{σ:L2.St}{H:Hp}(h:tSu X.K aj a cls d i y ((j,se)::st) D σ H)(nx:∀σ' H',tSu X.K aj a cls d i y st D σ' H'->D'.nx σ' H') :
  tAsg (tU X.K aj a cls d i fun x=>YB y x se) (gName j) D' σ H:=by
 obtain⟨g,ρ,M,x,ρ2,I,e,nj,k⟩:=h
 rw[Dy]at e
 obtain⟨z,e1,e⟩:=aqY.mp e
 refine⟨g,ρ,M,x,z,I,e1,fun v H' x1 r1=>nx _ _ ⟨g,ρ.set j (some (.dat z)),M,x,ρ2,⟨(I.ex x1).inv.set r1,(I.ex x1).xr,fun jj hj=>?_⟩,e,fun p hp=>nj p (aq5 _ hp),fun σ' H2 x2 I2=>k σ' H2 (x1.trans x2) I2⟩⟩
 have ne:j≠jj:=fun z=>nj (j,se) aq4 (by rw[hj,z])
 rw[aq8 ne]
 exact I.sl jj hj
theorem akB{i:Option Nat}{D:Ends}{σ:L2.St}{H:Hp}(h:tSu X.K aj a cls d i y [] D σ H):D.nx σ H:=by
 obtain⟨g,ρ,M,x,ρ2,I,e,nj,k⟩:=h
 cases e
 exact k σ H (Ex.refl H) I.inv
end
def anh(K:aqZ)(aj:aQ)(h:Hd)(l:Cl):Prop:=(∃D,aj h.y=some D/\l.c=.ref D)/\abW K aj h.y h.tk/\l.nm=h.nm/\(l.ts=fun a cls d=>tSu K aj a cls d h.nm h.y h.st)/\∀p∈h.st,h.nm≠some p.1
inductive GX(K:aqZ)(aj:aQ):List Hd->List Cl->Prop
 |nil:GX K aj [] []
 |cons {h:Hd} {l:Cl} {hs:List Hd} {ls:List Cl} (o:anh K aj h l) (r:GX K aj hs ls):GX K aj (h::hs) (l::ls)
theorem SInv.off{K:aqZ}{aj:aQ}{σ:L2.St}{H:Hp}{g:Gh}{ρ:Env}{M:Mo}(I:SInv K aj σ H g ρ M)(i:Nat)(v:Option V):SInv K aj (σ.set i v) H g (ρ.set i none) M:=by
 have I2:=I.forget (j:=i)
 refine⟨I2.kd,I2.wok,by rw[arw,arw];exact I.len,fun j d h=>?_,fun j xs h=>?_,fun j k xs ys l ne h1 h2 h3=>?_⟩
 ·by_cases e:j=i
  ·subst e
   rw[ar4]at h
   split at h <;> first | (split at h <;> cases h) | (exact absurd rfl ‹¬_›)
  ·obtain⟨v',a1,a2⟩:=I2.dat j d h
   rw[aq8 (Ne.symm e)]at a1
   exact⟨v',by rw[aq8 (Ne.symm e)];exact a1,a2⟩
 ·by_cases e:j=i
  ·subst e
   rw[ar4]at h
   split at h <;> first | (split at h <;> cases h) | (exact absurd rfl ‹¬_›)
  ·obtain⟨l,us,a1,a2⟩:=I2.own j xs h
   rw[aq8 (Ne.symm e)]at a1
   exact⟨l,us,by rw[aq8 (Ne.symm e)];exact a1,a2⟩
 ·have n1:j≠i:=fun z=>by
   subst z
   rw[ar4]at h1
   split at h1 <;> first | (split at h1 <;> cases h1) | (exact absurd rfl ‹¬_›)
  have n2:k≠i:=fun z=>by
   subst z
   rw[ar4]at h2
   split at h2 <;> first | (split at h2 <;> cases h2) | (exact absurd rfl ‹¬_›)
  rw[aq8 (Ne.symm n1)]at h1 h3
  rw[aq8 (Ne.symm n2)]at h2 ⊢
  exact I.sep j k xs ys l ne h1 h2 h3
section
variable{X:Cx}{aj:aQ}{W:WX}{q:Bool}{body:List Stmt}{h0:ExceptHandler}{hds:List ExceptHandler}{hs:List Hd}{ls:List Cl}{pos:Pos}{f:SF}
theorem ajw{D:Ends}{g g':Gh}{H H':Hp}{σ':L2.St}{ρ':Env}{M':Mo}{x:dU}{c:Value}{dd:Option Addr}(ha:GX X.K aj hs ls)(r:Gr q g g' H H')(I:SInv X.K aj σ' H' g' ρ' M')(xr:qY X.K aj g'.fr H' x c dd)
  (z:(hdl hs x ρ' M').sat (sN X.K aj q D.nx g H) (sR X.K aj q D.rt g H) (sN X.K aj q D.bk g H) (sN X.K aj q D.ct g H) (sX X.K aj W q g H)):aae X.K W D ls c dd σ' H':=by
 induction ha with
 |nil=>exact z σ' H' g' c dd r I xr
 | @cons h l hs ls o _ ih=>
  obtain⟨⟨D0,o1,o2⟩,o3,o4,o5,o6⟩:=o
  rw[hdl]at z
  obtain⟨C,c1,c2,c3⟩:=id xr
  split at z
  ·next ht=>
   refine⟨true,by rw[c2,o2];exact o3 _ _ _ ht c1 _ o1,fun _ a na=>?_,fun y=>nomatch y⟩
   rw[o4,o5]
   split at z
   ·next hm=>
    split at z
    ·next ρ2 hr=>
     cases hnm:h.nm with
     |none=>
      rw[hnm]at hr z o6
      exact⟨g',ρ',M',x,ρ2,⟨I,xr,fun j hj=>nomatch hj⟩,hr,o6,fun σ2 H2 e2 I2=>z σ2 H2 g' (r.trans (Gr.ex e2)) I2⟩
     |some i=>
      rw[hnm]at hr z o6 hm
      refine⟨g',ρ'.set i none,M',x,ρ2,⟨I.off i _,xr,fun j hj=>?_⟩,hr,o6,fun σ2 H2 e2 I2=>z _ H2 g' (r.trans (Gr.ex e2)) (I2.off i none)⟩
      cases hj
      have hl:i < ρ'.length:=of_decide_eq_true hm
      rw[arl (by rw[I.len];exact hl)]
    ·exact False.elim z
   ·exact False.elim z
  ·next ht=>exact⟨false,by rw[c2,o2];exact o3 _ _ _ ht c1 _ o1,(fun y=>nomatch y),fun _=>ih z⟩
  ·exact False.elim z
theorem ako(st:X.stack=X.env::X.outer)(hf:X.env.frame=some X.env.locals)(hN:X.N.Nodup)(tk:Takes X W)
  (hb:∀(W':WX) (pn:List (Addr×Obj)) (xe:Value->Shared->Prop),Takes (X.tr pn xe) W'->PassesOwn (model X.prog X.w) X.A X.env xe->JV aj (X.tr pn xe) W' q body f)
  (hh:BX X (h0::hds) ls) (ha:GX X.K aj hs ls):SE aj X W q (.Try body (h0::hds) [] [] pos) (XC f hs):=by
 refine PS.weak (agK (tb:=fun W'=>tS X.K aj W' q f) st hf hN tk (fun W' pn xe t p=>hb W' pn xe t p) hh) fun D σ H ⟨g,ρ,M,I,z⟩=>?_
 refine⟨g,ρ,M,I,?_⟩
 unfold XC at z
 cases hfm:f M ρ with
 |next ρ' M'=>rw[hfm]at z;exact z
 |ret d M'=>rw[hfm]at z;exact z
 |brk ρ' M'=>rw[hfm]at z;exact z
 |cont ρ' M'=>rw[hfm]at z;exact z
 |bad=>rw[hfm]at z;exact z
 |exc x ρ' M'=>
  rw[hfm]at z
  exact fun σ' H' g' c dd r I' xr=>ajw ha r I' xr z
end
section
variable{K:aqZ}{aj:aQ}{W:WX}{g g':Gh}{H H':Hp}{σ:L2.St}{ρ:Env}{M:Mo}
theorem jC.grow{l:Addr}(r:Gr false g g' H H')(e:Ex H H')(k:Kd g H):∀{n:Bool} {kvs:List (Dat×Dat)},jC K aj g H l n kvs->jC K aj g' H' l n kvs
 |false,_,⟨kv,h1,h2,h3⟩=>⟨kv,e _ _ h1,h2,h3.gr r k⟩
 |true,_,⟨o,xs,vs,h1,h2,h3,h4,h5,h6⟩=>⟨o,xs,vs,e _ _ h1,h2,h3,h4.gr r k,h5,h6.gr r k⟩
theorem dY.grow{h:Nat}{f:Str}{v:V}(r:Gr false g g' H H')(e:Ex H H')(o:g'.ow=g.ow)(k:Kd g H):∀{fl:jk},dY K aj g H h f v fl->dY K aj g' H' h f v fl
 |.dat _,z=>Rep.gr r k z
 |.lst _ _,⟨l,us,h1,h2,h3,h4,h5⟩=>⟨l,us,h1,e _ _ h2,by rw[o];exact h3,h4.gr r k,r.tb h5⟩
 |.dic _ _,⟨l,h1,h2,h3⟩=>⟨l,h1,by rw[o];exact h2,h3.grow r e k⟩
theorem cJ.grow{h:Nat}(r:Gr false g g' H H')(e:Ex H H')(o:g'.ow=g.ow)(k:Kd g H){fs:List (Str×V)}{gs:List (Str×jk)}(t:cJ K aj g H h fs gs):cJ K aj g' H' h fs gs:=by
 induction t with
 |nil=>exact .nil
 |cons z _ ih=>exact .cons (z.grow r e o k) ih
def Gh.push(g:Gh)(x:Addr):Gh:={ g with tbl:=g.tbl++[x] }
theorem Ys{x a:Addr}(z:(g.push x).A a):g.A a∨a=x:=by
 rcases z with(z|z)|z|z
 ·rcases arb.mp z with z|z
  ·exact .inl (.inl (.inl z))
  ·exact .inr (aq7.mp z)
 ·exact .inl (.inl (.inr z))
 ·exact .inl (.inr (.inl z))
 ·exact .inl (.inr (.inr z))
theorem YS{x a:Addr}(z:(g.push x).W a):g.W a∨a=x:=by
 rcases z with z|z
 ·rcases arb.mp z with z|z
  ·exact .inl (.inl z)
  ·exact .inr (aq7.mp z)
 ·exact .inl (.inr z)
theorem Tg{x:Addr}(e:Ex H H')(nx:H x=none):Gr false g (g.push x) H H' where
 keep:=fun a o h _ _=>e a o h
 keepW:=fun z=>nomatch z
 dom:=Dh e
 tbl:=⟨[x],rfl⟩
 W:=fun a z=>z.elim (fun z=>.inl (arJ _ z)) .inr
 nW:=fun a z=>(YS z).imp id fun z=>by rw[z];exact nx
 qg:=fun z=>nomatch z
 Lc:=rfl
 Lo:=fun _ z=>z
 nLo:=fun _ z=>.inl z
theorem aa8{x:Addr}{o:HO}(k:Kd g H)(e:Ex H H')(nx:H x=none)(hx:H' x=some o)(m:Jy o):Kd (g.push x) H' where
 ob:=fun a z=>by
  rcases Ys z with z|rfl
  ·obtain⟨u,h1,h2⟩:=k.ob a z
   exact⟨u,e _ _ h1,h2⟩
  ·exact⟨o,hx,m⟩
 lo:=fun a z y=>by
  rcases YS y with y|rfl
  ·exact k.lo a z y
  ·obtain⟨u,h1,_⟩:=k.ob a (.inr (.inr z))
   rw[nx]at h1
   cases h1
 lc:=fun a z=>by
  refine⟨fun y=>?_,(k.lc a z).2⟩
  rcases YS y with y|rfl
  ·exact(k.lc a z).1 y
  ·obtain⟨u,h1,_⟩:=k.ob a (.inr (.inl z))
   rw[nx]at h1
   cases h1
theorem X4{x:Addr}{c:Str}(k:Kd g H)(w:fZ K aj g H M)(e:Ex H H')(nx:H x=none)(hx:c=""∨∃C dx,aj c=some C/\H' x=some (.ins C dx [])):fZ K aj (g.push x) H' (M++[⟨c,[]⟩]):=by
 have gt:∀{h:Nat} {a:Addr},(g.push x).tbl[h]?=some a->(g.tbl[h]?=some a)∨(h=M.length/\a=x):=fun {h a} z=>by
  have z:(g.tbl++[x])[h]?=some a:=z
  by_cases hl:h < g.tbl.length
  ·rw[ara hl]at z
   exact .inl z
  ·rw[aro (by omega)]at z
   have:=(aq1.mp z).1
   simp at this
   have e0:h - g.tbl.length=0:=by omega
   rw[e0]at z
   cases z
   exact .inr ⟨by rw[←w.len];omega,rfl⟩
 have nin:∀{h:Nat},¬g.tbl[h]?=some x:=fun {h} z=>by
  obtain⟨u,h1,_⟩:=k.ob x (.inl (.inl (aq6 z)))
  rw[nx]at h1
  cases h1
 have ex:∀{h:Nat} {i:Inst},(M++[(⟨c,[]⟩:Inst)])[h]?=some i->M[h]?=some i∨i=⟨c,[]⟩:=fun {h i} h1=>by
  by_cases hl:h < M.length
  ·rw[ara hl]at h1
   exact .inl h1
  ·rw[aro (by omega)]at h1
   exact .inr (aq7.mp (aq6 h1))
 refine⟨by show(g.tbl++[x]).length=_;simp[w.len],fun h j a h1 h2=>?_,fun h a i h1 h2 hcn=>?_,fun h i h1=>?_,fun h i h1=>?_,fun h a i h1 h2 hcn=>?_,fun h i h1 hcn=>?_,w.nc⟩
 ·rcases gt h1 with z1|⟨z1,rfl⟩
  ·rcases gt h2 with z2|⟨z2,rfl⟩
   ·exact w.inj h j a z1 z2
   ·exact absurd z1 nin
  ·rcases gt h2 with z2|⟨z2,_⟩
   ·exact absurd z2 nin
   ·omega
 ·rcases gt h1 with z1|⟨rfl,rfl⟩
  ·have hl:h < M.length:=by rw[←w.len];exact(aq1.mp z1).1
   rw[ara hl]at h2
   obtain⟨C',dx',fs,c1,c2,c3⟩:=w.ins h a i z1 h2 hcn
   exact⟨C',dx',fs,c1,e _ _ c2,c3.grow (Tg e nx) e rfl k⟩
  ·rw[aro (aru _),Nat.sub_self]at h2
   cases h2
   rcases hx with rfl|⟨C,dx,hc,hx⟩
   ·exact absurd rfl hcn
   ·exact⟨C,dx,[],hc,hx,.nil⟩
 ·rcases ex h1 with h1|rfl
  ·exact w.nd h i h1
  ·exact asp
 ·rcases ex h1 with h1|rfl
  ·exact w.fd h i h1
  ·exact fun f hf=>absurd hf arD
 ·rcases gt h1 with z1|⟨_,rfl⟩
  ·have hl:h < M.length:=by rw[←w.len];exact(aq1.mp z1).1
   rw[ara hl]at h2
   exact w.tw h a i z1 h2 hcn
  ·cases hz:g.ow a with
   |none=>exact hz
   |some p=>
    obtain⟨u,h2,_⟩:=k.ob a (.inl (.inr (by rw[hz];exact fun y=>nomatch y)))
    rw[nx]at h2
    cases h2
 ·rcases ex h1 with h1|rfl
  ·exact w.dm h i h1 hcn
  ·rfl
theorem SInv.grow{M':Mo}(r:Gr false g g' H H')(e:Ex H H')(lo:g'.Lo=g.Lo)(k':Kd g' H')(w':fZ K aj g' H' M')(I:SInv K aj σ H g ρ M):SInv K aj σ H' g' ρ M' where
 kd:=k'
 wok:=w'
 len:=I.len
 dat:=fun i d h=>by
  obtain⟨v,h1,h2⟩:=I.dat i d h
  exact⟨v,h1,h2.gr r I.kd⟩
 own:=fun i xs h=>by
  obtain⟨l,us,h1,h2,h3,h4⟩:=I.own i xs h
  exact⟨l,us,h1,e _ _ h2,by rw[lo];exact h3,h4.gr r I.kd⟩
 sep:=I.sep
end
theorem abN{P:Program}{w:World}{K:aqZ}{mg:Str->Option Value}{base:Heap}{k:Nat}{f:Addr}{fd:FuncData}{ps:List Str}{sp:Sp}(F:FnOk P w K mg base (L2.CX P w) k f fd ps sp):FnOk P w K mg base L2.CX0 k f fd ps fun vs H Q _=>sp vs H Q fun _ _ _=>False:=
 ⟨fun vs H Q E h=>F.len vs H Q _ h,fun A outer s H args us vs Q E hr he hb hv h=>codeAny_mono (F.run A outer s H args us vs Q _ hr he hb hv h) fun r s' z=>by
  unfold CR at z ⊢
  split at z
  ·exact z
  ·exact z
  ·obtain⟨a,B,H',cls,d,_,_,_,_,_,_,_,y⟩:=z
   exact False.elim y⟩
def Bh(x:Str)(m:Mo->List Dat->bf Dat)(as:QA):GF:=fun M ρ=>((as M ρ).at M).bind fun ds _=>match m (M++[⟨x,[]⟩]) (obj M.length::ds) with
 |.ok .none M'=>.ok (obj M.length) M'
 |_=>.bad
section
variable{X:Cx}{aj:aQ}{W:WX}{x:Str}{pos p:Pos}{k n:Nat}{m:Mo->List Dat->bf Dat}{as:QA}{t:TA}{e:Expr}{es:List Expr}
theorem ac8{C f:Addr}{fd:FuncData}{ps:List Str}(hc:aj x=some C)(hp:ps.length=n+1)(hn:∀M ρ ds,as M ρ=.ok ds->ds.length=n)(ht:∀σ H Q,Oc X.K aj W as σ H Q->t σ H Q)(σ:L2.St)(H:Hp)(Q:VK)(h:tE X.K aj W false (Bh x m as) σ H Q) :
  tMake C (fun vs H Q _=>JG X.K aj ps.length m vs H Q fun _ _ _=>False) [] (fun _ _ _=>False) t σ H Q:=by
 obtain⟨g,ρ,M,I,h⟩:=h
 unfold Bh at h
 have h:=h.bnd
 refine ht σ H _ ⟨g,ρ,M,I,?_⟩
 cases has:as M ρ with
 |exc x=>rw[has]at h;exact fun H' c dd e r=>h H' g c dd (Gr.ex e) (I.ex e) r
 |bad=>rw[has]at h;exact False.elim h
 |ok ds=>
  rw[has]at h
  intro vs H1 e1 r1 y dx ny ndx ne
  have I1:=I.ex e1
  have e2:Ex H1 (upd (upd H1 dx (.own y)) y (.ins C dx [])):=by
   refine(Ex.new ndx).trans (Ex.new ?_)
   rw[upd_ne ne.symm]
   exact ny
  have hy:upd (upd H1 dx (.own y)) y (.ins C dx []) y=some (.ins C dx []):=upd_same
  have gr:=Tg (g:=g) e2 ny
  have kd:=aa8 I1.kd e2 ny hy trivial
  have wk:=X4 (c:=x) I1.kd I1.wok e2 ny (.inr ⟨C,dx,hc,hy⟩)
  have I2:=I1.grow gr e2 rfl kd wk
  have hb:(g.push y).tbl[M.length]?=some y:=by
   show(g.tbl++[y])[M.length]?=_
   rw[←I1.wok.len,aro (aru _),Nat.sub_self]
   rfl
  refine⟨by rw[arQ,ari,r1.length,hn M ρ ds has,hp],g.push y,M++[⟨x,[]⟩],obj M.length::ds,kd,wk,.cons (.obj hb) (by rw[arQ];exact r1.gr gr I1.kd),?_⟩
  have h:bf.sat (match m (M++[(⟨x,[]⟩:Inst)]) (obj M.length::ds) with
   |.ok .none M'=>bf.ok (obj M.length) M'
   |_=>.bad) (fun d M'=>∀v H' g',Gr false g g' H H'->SInv X.K aj σ H' g' ρ M'->Rep X.K g' H' v d->Q v H') (gE X.K aj W false g H σ ρ):=h
  cases hm:m (M++[⟨x,[]⟩]) (obj M.length::ds) with
  |bad=>rw[hm]at h;exact False.elim h
  |exc z M'=>rw[hm]at h;exact False.elim h
  |ok d M'=>
   rw[hm]at h
   cases d with
   |none=>exact fun v H' g' c k' w' r'=>⟨by cases r';rfl,h (.ref y) H' g' (((Gr.ex e1).trans gr).trans c.gr) (I2.call c k' w') (.obj (c.gr.tb hb))⟩
   |_=>exact False.elim h
theorem ajT(hr:Room k X.A)(g:bh X.prog X.w X.K X.mg X.base aj k x (.cls n m))(hg:Gl X x)(hd:(x==("__debug__" : Str))=false)(ha:Dt aj X W (e::es) as)(hs:(e::es).all nst=true)(hn:∀M ρ ds,as M ρ=.ok ds->ds.length=n) :
  GE aj X W false (.Call (.Name x p) (e::es) [] pos) (Bh x m as):=by
 obtain⟨C,f,fd,ps,j,g1,g2,_,g3,hj,hp,hB,F⟩:=g
 have hs':=hs
 rw[arK,aq0]at hs'
 exact PE.weak (pe_make (E:=fun _ _ _=>False) g3 (abN F) (hr.mono hj) hg g1 hB .nil pass0 ha hd (cH hs'.1 es) (star_any es hs'.2)) fun σ H Q h=>ac8 (f:=f) (fd:=fd) g2 hp hn (fun _ _ _ z=>z) σ H Q h
theorem aif(hr:Room k X.A)(g:bh X.prog X.w X.K X.mg X.base aj k x (.cls 0 m))(hg:Gl X x)(hd:(x==("__debug__" : Str))=false):GE aj X W false (.Call (.Name x p) [] [] pos) (Bh x m au):=by
 obtain⟨C,f,fd,ps,j,g1,g2,_,g3,hj,hp,hB,F⟩:=g
 exact PE.weak (pe_make0 (E:=fun _ _ _=>False) g3 (abN F) (hr.mono hj) hg g1 hB .nil pass0 hd) fun σ H Q h=>ac8 (f:=f) (fd:=fd) (as:=au) g2 hp (fun M ρ ds z=>by cases z;rfl) (fun σ H Q ⟨g,ρ,M,I,z⟩=>z [] H (Ex.refl H) .nil) σ H Q h
end
def Iu(m:Mo->List Dat->bf Dat)(as:QA):GF:=fun M ρ=>((as M ρ).at M).bind fun ds _=>m M ds
section
variable{X:Cx}{aj:aQ}{W:WX}{e:Expr}{es:List Expr}{pos p:Pos}{x:Str}{k:Nat}{f:Addr}{fd:FuncData}{ps:List Str}
theorem ag1{m:Mo->List Dat->bf Dat}{as:QA}(tk:Takes X W)(F:FnOk X.prog X.w X.K X.mg X.base (L2.CX X.prog X.w) k f fd ps (JG X.K aj ps.length m))(hr:Room k X.A)(hg:Gl X x)(hm:X.mg x=some (.ref f))(hk:PySem.W.keepIn X.K (.ref f)=true)(hb:Binds X.K fd ps [])
  (ha:Dt aj X W (e::es) as) (hl:(e::es).length=ps.length) (hd:(x==("__debug__" : Str))=false) (hs:(e::es).all nst=true) (hn:∀M ρ ds,as M ρ=.ok ds->ds.length=(e::es).length):GE aj X W false (.Call (.Name x p) (e::es) [] pos) (Iu m as):=by
 have hs':=hs
 rw[arK,aq0]at hs'
 refine PE.weak (pe_callS (E:=fun σ=>WE W σ) F hr hg hm hk hb (fun σ=>passAt tk σ) ha hd (cH hs'.1 es) (star_any es hs'.2)) fun σ H Q ⟨g,ρ,M,I,h⟩=>?_
 refine⟨g,ρ,M,I,?_⟩
 have h:=h.bnd
 cases has:as M ρ with
 |exc x=>rw[has]at h;exact fun H' c dd e r=>h H' g c dd (Gr.ex e) (I.ex e) r
 |bad=>rw[has]at h;exact False.elim h
 |ok ds=>
  rw[has]at h
  have h:(m M ds).sat (fun d M'=>∀v H' g',Gr false g g' H H'->SInv X.K aj σ H' g' ρ M'->Rep X.K g' H' v d->Q v H') (gE X.K aj W false g H σ ρ):=h
  intro vs H1 e1 r1
  exact⟨by rw[r1.length,hn M ρ ds has];exact hl,g,M,ds,I.kd.ex e1,I.wok.ex e1 I.kd,r1,h.mono (fun d M' kk v H' g' c k' w' r'=>kk v H' g' ((Gr.ex e1).trans c.gr) ((I.ex e1).call c k' w') r') fun x M' kk H' g' cc dd c k' w' r'=>kk H' g' cc dd ((Gr.ex e1).trans c.gr) ((I.ex e1).call c k' w') r'⟩
end
def Ft.has(ft:Ft)(c f:Str):Bool:=match ft.lookup c with
 |some fs=>fs.contains f
 |none=>false
def KH(ft:Ft)(aj:aQ):Prop:=∀c f,ft.has c f=true->f∈aj.fl c
def unH:Dat->Option Nat
 |.dict [(.none,.int (.ofNat h))]=>some h
 |_=>none
theorem ae3{d:Dat}{h:Nat}(e:unH d=some h):d=obj h:=by
 unfold unH at e
 split at e
 ·cases e;rfl
 ·cases e
def j7(M:Mo)(d:Dat):Option (Nat×Inst):=(unH d).bind fun h=>(M[h]?).bind fun i=>match i.cls=="" with
 |true=>none
 |false=>some (h,i)
theorem Ir{M:Mo}{d:Dat}{h:Nat}{i:Inst}(e:j7 M d=some (h,i)):d=obj h/\M[h]?=some i/\i.cls≠"":=by
 unfold j7 at e
 obtain⟨h',e1,e⟩:=aqY.mp e
 obtain⟨i',e2,e⟩:=aqY.mp e
 split at e
 ·cases e
 ·next hc=>
  cases e
  exact⟨ae3 e1,e2,fun z=>by rw[z]at hc;cases hc⟩
def uV(ft:Ft)(o:QF)(f:Str)(e:GF):SF:=fun M ρ=>(e M ρ).then ρ fun d M1=>((o M1 ρ).at M1).then ρ fun od M2=>match j7 M2 od with
 |some (h,i)=>match ft.has i.cls f&&decide (i.fs.length < 100) with
  |true=>.next ρ (M2.set h (i.put f (.dat d)))
  |false=>.bad
 |none=>.bad
theorem SInv.chg{K:aqZ}{aj:aQ}{σ:L2.St}{H H':Hp}{g g':Gh}{ρ:Env}{M M':Mo}{h:Nat}{f:Str}(I:SInv K aj σ H g ρ M)(c:Chg M g g' H H' h f)(w:fZ K aj g' H' M'):SInv K aj σ H' g' ρ M':=I.call c.gc c.kd w
section
variable{X:Cx}{aj:aQ}{W:WX}{o e:Expr}{f:Str}{pos pos':Pos}{ft:Ft}{fo:QF}
theorem Gy{K:aqZ}{g:Gh}{H:Hp}{M:Mo}{d:Dat}{v:V}{h:Nat}{i:Inst}(co:jG K aj)(fk:KH ft aj)(w:fZ K aj g H M)(r:eE K g H v d)(hi:j7 M d=some (h,i))(hf:ft.has i.cls f=true):∃a C dx fs,d=obj h/\M[h]?=some i/\i.cls≠""/\g.tbl[h]?=some a/\v=.ref a/\aj i.cls=some C/\H a=some (.ins C dx fs)/\cJ K aj g H h fs i.fs/\Cls K C/\NoAttr K C f/\f∈aj.fl i.cls:=by
 obtain⟨rfl,h1,h2⟩:=Ir hi
 obtain⟨a,rfl,ha⟩:=Ma r
 obtain⟨C,dx,fs,c1,c2,c3⟩:=w.ins h a i ha h1 h2
 have hfl:=fk _ _ hf
 obtain⟨k1,k2⟩:=co i.cls C f c1 hfl
 exact⟨a,C,dx,fs,rfl,h1,h2,ha,rfl,c1,c2,c3,k1,k2,hfl⟩
theorem aij{fe:GF}(co:jG X.K aj)(fk:KH ft aj)(ho:QW aj X W o fo)(he:GE aj X W false e fe)(hs:swapsWith e (some (.Attribute o f pos')) pos.line X.env=pure false):SE aj X W false (.Assign [.Attribute o f pos'] e pos) (uV ft fo f fe):=by
 refine PS.weak (ps_fld ho he hs) fun D σ H ⟨g,ρ,M,I,z⟩=>?_
 refine tE.go I (dD (σ:=σ) z) fun d M1 v H1 g1 k1 r1 I1 rv=>?_
 refine tW.go I1 (k:=fun od=>((match j7 M1 od with
  |some (h,i)=>match ft.has i.cls f&&decide (i.fs.length < 100) with
   |true=>tM.next ρ (M1.set h (i.put f (.dat d)))
   |false=>.bad
  |none=>.bad).sat (sN X.K aj false D.nx g H) (sR X.K aj false D.rt g H) (sN X.K aj false D.bk g H) (sN X.K aj false D.ct g H) (sX X.K aj W false g H))) ?_ fun od u H2 k2 e2 ru=>?_
 ·have k1:=Out.jm (dD (σ:=σ) k1)
  exact k1.mono (fun _ y=>y) fun x y H' c dd ex rx=>y H' g1 c dd (r1.trans (Gr.ex ex)) (I1.ex ex) rx
 ·have I2:=I1.ex e2
  split at k2
  ·next h i hi=>
   split at k2
   ·next hb=>
    rw[aq0]at hb
    obtain⟨a,C,dx,fs,_,m1,m2,ha,rfl,c1,c2,c3,c4,c5,c6⟩:=Gy co fk I2.wok ru hi hb.1
    refine⟨a,C,dx,fs,rfl,c2,c4,c5,?_,?_⟩
    ·have:=of_decide_eq_true hb.2
     rw[c3.len]
     omega
    ·have ch:=Ut (f:=f) (C:=C) (dx:=dx) (fs':=putF f v fs) I2.kd I2.wok ha m1 m2
     have w':=I2.wok.chg I2.kd ch ha m1 m2 c6 c1 c3 upd_same (fl:=.dat d) (show Rep X.K g1 _ v d from(rv.ex e2 I1.kd).gr ch.gc.gr I2.kd)
     exact k2 σ _ g1 ((r1.trans (Gr.ex e2)).trans ch.gc.gr) (I2.chg ch w')
   ·exact False.elim k2
  ·exact False.elim k2
end
mutual
theorem Rep.mv{K:aqZ}{g g':Gh}{H:Hp}(tb:∀(h:Nat) (a:Addr),g.tbl[h]?=some a->g'.tbl[h]?=some a)(n:∀a,g'.A a->g.A a):∀{v:V} {d:Dat},Rep K g H v d->Rep K g' H v d
 |_,_,.non=>.non
 |_,_,.bl b=>.bl b
 |_,_,.int i=>.int i
 |_,_,.str x=>.str x
 |_,_,.tup h t=>.tup h (aM.mv tb n t)
 |_,_,.lst h t=>.lst (h.elim (fun z=>.inl ⟨z.1,fun y=>z.2 (n _ y)⟩) .inr) (aM.mv tb n t)
 |_,_,.obj h=>.obj (tb _ _ h)
theorem aM.mv{K:aqZ}{g g':Gh}{H:Hp}(tb:∀(h:Nat) (a:Addr),g.tbl[h]?=some a->g'.tbl[h]?=some a)(n:∀a,g'.A a->g.A a):∀{vs:List V} {ds:List Dat},aM K g H vs ds->aM K g' H vs ds
 |_,_,.nil=>.nil
 |_,_,.cons h t=>.cons (Rep.mv tb n h) (aM.mv tb n t)
end
def Eu(ft:Ft)(o:QF)(f:Str)(e:IF):SF:=fun M ρ=>((e M ρ).at M).then ρ fun xs M0=>((o (M0++[⟨"",[]⟩]) ρ).at (M0++[⟨"",[]⟩])).then ρ fun od M2=>match j7 M2 od with
 |some (h,i)=>match ft.has i.cls f&&decide (i.fs.length < 100) with
  |true=>.next ρ (M2.set h (i.put f (.lst M0.length xs)))
  |false=>.bad
 |none=>.bad
theorem K9{K:aqZ}{aj:aQ}{σ:L2.St}{H H':Hp}{g:Gh}{ρ:Env}{M:Mo}{l:Addr}{o:HO}(I:SInv K aj σ H g ρ M)(nl:H l=none)(e:Ex H H')(hl:H' l=some o)(m:Jy o):Gr false g (g.push l) H H'/\SInv K aj σ H' (g.push l) ρ (M++[⟨"",[]⟩])/\(g.push l).tbl[M.length]?=some l/\(g.push l).ow l=none/\(M++[(⟨"",[]⟩:Inst)])[M.length]?=some ⟨"",[]⟩:=by
 have gr:=Tg (g:=g) e nl
 have kd:=aa8 I.kd e nl hl m
 have wk:=X4 (c:="") I.kd I.wok e nl (.inl rfl)
 refine⟨gr,I.grow gr e rfl kd wk,?_,?_,?_⟩
 ·show(g.tbl++[l])[M.length]?=_
  rw[←I.wok.len,aro (aru _),Nat.sub_self]
  rfl
 ·cases hz:g.ow l with
  |none=>exact hz
  |some p=>
   obtain⟨u,h1,_⟩:=I.kd.ob l (.inl (.inr (by rw[hz];exact fun y=>nomatch y)))
   rw[nl]at h1
   cases h1
 ·rw[aro (aru _),Nat.sub_self]
  rfl
section
variable{X:Cx}{aj:aQ}{W:WX}{o e:Expr}{f:Str}{pos pos' p1 apos epos spos:Pos}{ft:Ft}{fo:QF}
theorem agO{fe:IF}(co:jG X.K aj)(fk:KH ft aj)(ho:QW aj X W o fo)(he:FE aj X W e fe)(hs:swapsWith e (some (.Attribute o f pos')) pos.line X.env=pure false):SE aj X W false (.Assign [.Attribute o f pos'] e pos) (Eu ft fo f fe):=by
 refine PS.weak (ps_fld ho he hs) fun D σ H ⟨g,ρ,M,I,z⟩=>?_
 refine⟨g,ρ,M,I,?_⟩
 unfold Eu at z
 cases hf:fe M ρ with
 |exc x=>rw[hf]at z;exact fun H' c dd e r=>z σ H' g c dd (Gr.ex e) (I.ex e) r.fr
 |bad=>rw[hf]at z;exact False.elim z
 |ok xs=>
  rw[hf]at z
  intro l us H1 nl e1 hl rs
  obtain⟨gr,I1,tb,ow,mm⟩:=K9 I nl e1 hl trivial
  have rs1:aM X.K (g.push l) H1 us xs:=aM.mv (g:=g.add l) (g':=g.push l) (fun h a z=>gr.tb (g:=g) z) (fun a z=>by
   rcases Ys z with z|rfl
   ·rcases z with z|z|z
    ·exact .inl z
    ·exact .inr (.inl z)
    ·exact .inr (.inr (show g.Lo a∨a=l from Or.inl z))
   ·exact .inr (.inr (show g.Lo a∨a=a from Or.inr rfl))) rs
  have z:(((fo (M++[⟨"",[]⟩]) ρ).at (M++[⟨"",[]⟩])).then ρ fun od M2=>match j7 M2 od with
   |some (h,i)=>match ft.has i.cls f&&decide (i.fs.length < 100) with
    |true=>.next ρ (M2.set h (i.put f (.lst M.length xs)))
    |false=>.bad
   |none=>.bad).sat (sN X.K aj false D.nx g H) (sR X.K aj false D.rt g H) (sN X.K aj false D.bk g H) (sN X.K aj false D.ct g H) (sX X.K aj W false g H):=z
  have k1:=Out.jm (dD (σ:=σ) z)
  refine tW.go I1 (k1.mono (fun _ y=>y) fun x y H' c dd ex rx=>y H' _ c dd (gr.trans (Gr.ex ex)) (I1.ex ex) rx) fun od u H2 k2 e2 ru=>?_
  have I2:=I1.ex e2
  split at k2
  ·next h i hi=>
   split at k2
   ·next hb=>
    rw[aq0]at hb
    obtain⟨a,C,dx,fs,_,m1,m2,ha,rfl,c1,c2,c3,c4,c5,c6⟩:=Gy co fk I2.wok ru hi hb.1
    have nla:l≠a:=fun z=>by
     subst z
     cases I2.wok.inj _ _ _ ha tb
     rw[mm]at m1
     cases m1
     exact m2 rfl
    refine⟨a,C,dx,fs,rfl,c2,c4,c5,?_,?_⟩
    ·have:=of_decide_eq_true hb.2
     rw[c3.len]
     omega
    ·have ch:=Uz (f:=f) (C:=C) (dx:=dx) (fs':=putF f (.ref l) fs) I2.kd I2.wok ha m1 m2 tb mm ow
     have w':=I2.wok.chg I2.kd ch ha m1 m2 c6 c1 c3 upd_same (v:=.ref l) (fl:=.lst M.length xs) ⟨l,us,rfl,by rw[upd_ne nla];exact e2 _ _ hl,if_pos rfl,(rs1.ex e2 I1.kd).gr ch.gc.gr I2.kd,ch.gc.gr.tb tb⟩
     exact k2 σ _ _ ((gr.trans (Gr.ex e2)).trans ch.gc.gr) (I2.chg ch w')
   ·exact False.elim k2
  ·exact False.elim k2
def Fl(M:Mo)(f:Str)(d:Dat):Option (Nat×Inst×Nat×List Dat):=(j7 M d).bind fun p=>match p.2.fs.lookup f with
 |some (.lst n xs)=>some (p.1,p.2,n,xs)
 |_=>none
theorem TY{K:aqZ}{g:Gh}{H:Hp}{M:Mo}{d:Dat}{v:V}{h n:Nat}{i:Inst}{xs:List Dat}(co:jG K aj)(w:fZ K aj g H M)(r:eE K g H v d)(hi:Fl M f d=some (h,i,n,xs)) :
  ∃a C dx fs l us,d=obj h/\M[h]?=some i/\i.cls≠""/\i.fs.lookup f=some (.lst n xs)/\g.tbl[h]?=some a/\v=.ref a/\aj i.cls=some C/\H a=some (.ins C dx fs)/\cJ K aj g H h fs i.fs/\Cls K C/\NoAttr K C f/\f∈aj.fl i.cls/\fs.lookup f=some (.ref l)/\H l=some (.lst us)/\g.ow l=some (h,f)/\aM K g H us xs/\g.tbl[n]?=some l:=by
 unfold Fl at hi
 obtain⟨⟨h',i'⟩,h1,hi⟩:=aqY.mp hi
 split at hi
 ·next n' xs' hl=>
  cases hi
  obtain⟨rfl,m1,m2⟩:=Ir h1
  obtain⟨a,rfl,ha⟩:=Ma r
  obtain⟨C,dx,fs,c1,c2,c3⟩:=w.ins _ a _ ha m1 m2
  have hfl:=w.fd _ _ m1 f (lookup_mem hl)
  obtain⟨k1,k2⟩:=co _ C f c1 hfl
  obtain⟨u,l1,l,us,rfl,l3,l4,l5,l6⟩:=c3.get hl
  exact⟨a,C,dx,fs,l,us,rfl,m1,m2,hl,ha,rfl,c1,c2,c3,k1,k2,hfl,l1,l3,l4,l5,l6⟩
 ·cases hi
theorem abe{K:aqZ}{σ:L2.St}{ρ:Env}{g:Gh}{H:Hp}{M:Mo}{h n:Nat}{i:Inst}{ys:List Dat}{a C dx l:Addr}{fs:List (Str×V)}{us':List V}(I:SInv K aj σ H g ρ M)(m1:M[h]?=some i)(m2:i.cls≠"")(ha:g.tbl[h]?=some a)(c1:aj i.cls=some C)(c2:H a=some (.ins C dx fs))(c3:cJ K aj g H h fs i.fs)(hfl:f∈aj.fl i.cls)(l1:fs.lookup f=some (.ref l))(l4:g.ow l=some (h,f))(l6:g.tbl[n]?=some l)(rs:aM K g H us' ys) :
  Gr false g g H (upd H l (.lst us'))/\SInv K aj σ (upd H l (.lst us')) g ρ (M.set h (i.put f (.lst n ys))):=by
 have ch:=ado (o':=.lst us') I.kd I.wok l4 trivial
 have nla:a≠l:=fun z=>by
  subst z
  rw[I.wok.tw h a i ha m1 m2]at l4
  cases l4
 have w':=I.wok.chg I.kd ch ha m1 m2 hfl c1 (dx:=dx) c3 (v:=.ref l) (fl:=.lst n ys) (by rw[upd_ne nla,Lh l1];exact c2) ⟨l,us',rfl,upd_same,l4,rs.gr ch.gc.gr I.kd,l6⟩
 exact⟨ch.gc.gr,I.chg ch w'⟩
def Ec(f:Str)(o:QF)(e:GF):SF:=fun M ρ=>((o M ρ).at M).then ρ fun od M0=>match Fl M0 f od with
 |some (_,_,n,_)=>(e M0 ρ).then ρ fun d M1=>match Fl M1 f od with
  |some (h,i,n',xs)=>match n==n'&&decide (xs.length < 100000) with
   |true=>.next ρ (M1.set h (i.put f (.lst n (xs++[d]))))
   |false=>.bad
  |none=>.bad
 |none=>.bad
theorem ag5{fe:GF}(co:jG X.K aj)(ho:QW aj X W o fo)(hb:baseOk o=true)(he:GE aj X W false e fe)(hs:nst e=true)(hl:(apos.endLine==pos.line)=true) :
  SE aj X W false (.Expr (.Call (.Attribute (.Attribute o f p1) "append" apos) [e] [] pos) epos) (Ec f fo fe):=by
 have h0:=pe_fld (X:=X) (pos:=p1) (f:=f) ho (mU hb)
 have h1:=pa_cons he pa_nil (cH hs [])
 have key:=pe_bm (X:=X) (cpos:=pos) (apos:=apos) PySem.F.plainAttrs_list PySem.F.slot_list_append PySem.F.type_list_append mt_append h0 h1 (mU rfl) (few (by simp[hs]) (by simp)) hl (cH hs []) (by with_unfolding_all rfl)
 refine PS.weak (ps_expr key (by with_unfolding_all rfl)) fun D σ H ⟨g,ρ,M,I,z⟩=>?_
 unfold Ec at z
 have k1:=Out.jm (dD (σ:=σ) z)
 refine tW.go I (k1.mono (fun _ y=>y) fun x y H' c dd ex rx=>y H' _ c dd (Gr.ex ex) (I.ex ex) rx) fun od u H1 k2 e1 ru=>?_
 have I1:=I.ex e1
 split at k2
 ·next h0' i0 n xs0 hi=>
  obtain⟨a,C,dx,fs,l,us,rfl,m1,m2,ml,ha,rfl,c1,c2,c3,c4,c5,c6,l1,l3,l4,l5,l6⟩:=TY co I1.wok ru hi
  refine⟨a,C,dx,fs,.ref l,rfl,c2,c4,c5,l1,.inl ⟨rfl,us,sq_of l3⟩,?_⟩
  refine tE.go I1 ((dD (σ:=σ) k2).mono (fun _ _ y=>y) fun x M' y=>y.gr (Gr.ex e1)) fun d M1 v H2 g2 k3 r2 I2 rv=>?_
  split at k3
  ·next h i n' xs hi2=>
   split at k3
   ·next hg=>
    rw[aq0]at hg
    cases eq_of_beq hg.1
    have ru2:eE X.K g2 H2 (.ref a) (obj h0'):=Rep.weak (.obj (r2.tb ha))
    obtain⟨a',C',dx',fs',l',us',eh,n1,n2,nl,hb',ea,d1,d2,d3,d4,d5,d6,p1,p3,p4,p5,p6⟩:=TY co I2.wok ru2 hi2
    cases ea
    have el:l'=l:=arn (p6.symm.trans (r2.tb l6))
    subst el
    obtain⟨gr,I3⟩:=abe (us':=us'++[v]) (ys:=xs++[d]) I2 n1 n2 hb' d1 d2 d3 d6 p1 p4 p6 (p5.append (.cons rv .nil))
    refine⟨l',us',v,rfl,rfl,p3,sz_lt (by rw[p5.length];exact of_decide_eq_true hg.2),?_⟩
    exact k3 σ _ g2 (((Gr.ex e1).trans r2).trans gr) I3
   ·exact False.elim k3
  ·exact False.elim k3
 ·exact False.elim k2
def SM(f:Str)(o fi e:QF):SF:=fun M ρ=>((e M ρ).at M).then ρ fun d _=>((o M ρ).at M).then ρ fun od _=>match Fl M f od with
 |some (h,i,n,xs)=>((fi M ρ).at M).then ρ fun k _=>match k with
  |.int k=>match ixN xs.length k with
   |some j=>.next ρ (M.set h (i.put f (.lst n (xs.set j d))))
   |none=>.bad
  |_=>.bad
 |none=>.bad
theorem ahy{i:Expr}{fi fe:QF}(co:jG X.K aj)(ho:QW aj X W o fo)(hb:baseOk o=true)(he:QE aj X W e fe)(hi:QE aj X W i fi)
  (ha:∀v,assign (.Subscript (.Attribute o f p1) i spos) X.env v=(do
   let ov ←holding [v] (eval (.Attribute o f p1) X.env)
   let iv ←holding [v,ov] (eval i X.env)
   standAt spos
   holding [v,ov,iv] (setItem ov iv v)
   release [v,ov,iv] []))
  (hs:swapsWithSole [.Subscript (.Attribute o f p1) i spos] e pos.line X.env=pure false) (h1:(assignEach [.Subscript (.Attribute o f p1) i spos] X.env).map (·.2)=[assign (.Subscript (.Attribute o f p1) i spos) X.env]):SE aj X W false (.Assign [.Subscript (.Attribute o f p1) i spos] e pos) (SM f fo fi fe):=by
 have h0:=pe_fld (X:=X) (pos:=p1) (f:=f) ho (mU hb)
 refine PS.weak (ps_asg he (pg_sub h0 hi set_list ha) hs (by with_unfolding_all rfl) h1) fun D σ H ⟨g,ρ,M,I,z⟩=>?_
 unfold SM at z
 have k1:=Out.jm (dD (σ:=σ) z)
 refine tQ.go I (k1.mono (fun _ y=>y) fun x y H' c dd ex rx=>y H' _ c dd (Gr.ex ex) (I.ex ex) rx) fun d v H1 k2 e1 rv=>?_
 have I1:=I.ex e1
 have k2:=Out.jm (dD (σ:=σ) k2)
 refine tW.go I1 (k2.mono (fun _ y=>y) fun x y H' c dd ex rx=>y H' _ c dd ((Gr.ex e1).trans (Gr.ex ex)) (I1.ex ex) rx) fun od u H2 k3 e2 ru=>?_
 have I2:=I1.ex e2
 have e12:=e1.trans e2
 split at k3
 ·next h i' n xs hl=>
  obtain⟨a,C,dx,fs,l,us,rfl,m1,m2,ml,ha',rfl,c1,c2,c3,c4,c5,c6,l1,l3,l4,l5,l6⟩:=TY co I2.wok ru hl
  refine⟨a,C,dx,fs,.ref l,rfl,c2,c4,c5,l1,?_⟩
  have k3:=Out.jm (dD (σ:=σ) k3)
  refine tQ.go I2 (k3.mono (fun _ y=>y) fun x y H' c dd ex rx=>y H' _ c dd ((Gr.ex e12).trans (Gr.ex ex)) (I2.ex ex) rx) fun k w H3 k4 e3 rw'=>?_
  have I3:=I2.ex e3
  cases k with
  |int k=>
   simp only at k4
   split at k4
   ·next j hj=>
    cases rw'
    obtain⟨gr,I4⟩:=abe (us':=us.set j v) (ys:=xs.set j d) I3 m1 m2 ha' c1 (e3 _ _ c2) (c3.ex e3 I2.kd) c6 l1 l4 l6 (((l5.ex e3 I2.kd).set ((rv.ex e2 I1.kd).ex e3 I2.kd) j))
    refine⟨l,us,k,j,rfl,rfl,e3 _ _ l3,by rw[l5.length];exact hj,?_⟩
    exact k4 σ _ g ((Gr.ex (e12.trans e3)).trans gr) I4
   ·exact False.elim k4
  |_=>exact False.elim k4
 ·exact False.elim k3
def Ry(ft:Ft)(f:Str)(o e:QF):SF:=fun M ρ=>((o M ρ).at M).then ρ fun od _=>match j7 M od with
 |some (h,i)=>match i.fs.lookup f,ft.has i.cls f&&decide (i.fs.length < 100) with
  |some (.dat (.int a)),true=>((e M ρ).at M).then ρ fun d _=>match d with
   |.int b=>.next ρ (M.set h (i.put f (.dat (.int (a+b)))))
   |_=>.bad
  |_,_=>.bad
 |none=>.bad
theorem afG:InOp X .Add (fun x y H Q=>∃i j,x=.int i/\y=.int j/\Q (.int (i+j)) H):=by
 intro pins s σ H x y u v Q I rx ry h
 obtain⟨i,j,rfl,rfl,q⟩:=h
 exact iop_add pins s σ H _ _ u v Q I rx ry ⟨i,j,rfl,rfl,q⟩
theorem ahU{fe:QF}{tpos:Pos}(co:jG X.K aj)(fk:KH ft aj)(ho:QW aj X W o fo)(he:QE aj X W e fe):SE aj X W false (.AugAssign (.Attribute o f tpos) .Add e pos) (Ry ft f fo fe):=by
 refine PS.weak (ps_fldaug ho he afG) fun D σ H ⟨g,ρ,M,I,z⟩=>?_
 unfold Ry at z
 have k1:=Out.jm (dD (σ:=σ) z)
 refine tW.go I (k1.mono (fun _ y=>y) fun x y H' c dd ex rx=>y H' _ c dd (Gr.ex ex) (I.ex ex) rx) fun od u H1 k2 e1 ru=>?_
 have I1:=I.ex e1
 split at k2
 ·next h i hi=>
  split at k2
  ·next b hlk hb=>
   rw[aq0]at hb
   obtain⟨a,C,dx,fs,_,m1,m2,ha,rfl,c1,c2,c3,c4,c5,c6⟩:=Gy co fk I1.wok ru hi hb.1
   obtain⟨v,l1,l2⟩:=c3.get hlk
   refine⟨a,C,dx,fs,v,rfl,c2,c4,c5,l1,?_⟩
   have k2:=Out.jm (dD (σ:=σ) k2)
   refine tQ.go I1 (k2.mono (fun _ y=>y) fun x y H' c dd ex rx=>y H' _ c dd ((Gr.ex e1).trans (Gr.ex ex)) (I1.ex ex) rx) fun d w H2 k3 e2 rd=>?_
   have I2:=I1.ex e2
   cases d with
   |int j=>
    cases rd
    have l2:Rep X.K g H1 v (.int b):=l2
    cases l2
    refine⟨b,j,rfl,rfl,dx,fs,e2 _ _ c2,?_,?_⟩
    ·have:=of_decide_eq_true hb.2
     rw[c3.len]
     omega
    ·have ch:=Ut (f:=f) (C:=C) (dx:=dx) (fs':=putF f (.int (b+j)) fs) I2.kd I2.wok ha m1 m2
     have w':=I2.wok.chg I2.kd ch ha m1 m2 c6 c1 (c3.ex e2 I1.kd) upd_same (v:=.int (b+j)) (fl:=.dat (.int (b+j))) (show Rep X.K g _ _ _ from .int _)
     exact k3 σ _ g ((Gr.ex (e1.trans e2)).trans ch.gc.gr) (I2.chg ch w')
   |_=>exact False.elim k3
  ·exact False.elim k2
 ·exact False.elim k2
end
mutual
def uG:Dat->Option NestedKey
 |.none=>some .none
 |.int i=>some (.num i)
 |.str x=>some (.text x)
 |.tuple ds=>(yt ds).map .tup
 |.bool _=>none
 |.list _=>none
 |.dict _=>none
def yt:List Dat->Option (List NestedKey)
 |[]=>some []
 |d::ds=>(uG d).bind fun k=>(yt ds).bind fun ks=>some (k::ks)
end
mutual
theorem Ad:∀{d:Dat} {k:NestedKey},uG d=some k->k.data=d
 |.none,_,h=>by cases h;rfl
 |.int i,_,h=>by cases h;rfl
 |.str x,_,h=>by cases h;rfl
 |.tuple ds,_,h=>by
  rw[uG,arI]at h
  obtain⟨ks,h1,rfl⟩:=h
  rw[NestedKey.data,Rz h1]
theorem Rz:∀{ds:List Dat} {ks:List NestedKey},yt ds=some ks->NestedKey.datas ks=ds
 |[],_,h=>by cases h;rfl
 |d::ds,_,h=>by
  rw[yt]at h
  obtain⟨k,h1,h⟩:=aqY.mp h
  obtain⟨ks,h2,h⟩:=aqY.mp h
  cases h
  rw[NestedKey.datas,Ad h1,Rz h2]
end
mutual
theorem abJ:∀a b:NestedKey,PyData.eqv a.data b.data=NestedKey.beq a b
 |.none,.none=>by simp[NestedKey.data,PyData.eqv,NestedKey.beq]
 |.none,.num _=>by simp[NestedKey.data,PyData.eqv,NestedKey.beq]
 |.none,.text _=>by simp[NestedKey.data,PyData.eqv,NestedKey.beq]
 |.none,.tup _=>by simp[NestedKey.data,PyData.eqv,NestedKey.beq]
 |.num _,.none=>by simp[NestedKey.data,PyData.eqv,NestedKey.beq]
 |.num a,.num b=>by simp[NestedKey.data,PyData.eqv,NestedKey.beq];rfl
 |.num _,.text _=>by simp[NestedKey.data,PyData.eqv,NestedKey.beq]
 |.num _,.tup _=>by simp[NestedKey.data,PyData.eqv,NestedKey.beq]
 |.text _,.none=>by simp[NestedKey.data,PyData.eqv,NestedKey.beq]
 |.text _,.num _=>by simp[NestedKey.data,PyData.eqv,NestedKey.beq]
 |.text a,.text b=>by simp[NestedKey.data,PyData.eqv,NestedKey.beq];rfl
 |.text _,.tup _=>by simp[NestedKey.data,PyData.eqv,NestedKey.beq]
 |.tup _,.none=>by simp[NestedKey.data,PyData.eqv,NestedKey.beq]
 |.tup _,.num _=>by simp[NestedKey.data,PyData.eqv,NestedKey.beq]
 |.tup _,.text _=>by simp[NestedKey.data,PyData.eqv,NestedKey.beq]
 |.tup as,.tup bs=>by
  rw[NestedKey.data,NestedKey.data,PyData.eqv,NestedKey.beq]
  exact XF as bs
theorem XF:∀as bs:List NestedKey,PyData.eqvAll (NestedKey.datas as) (NestedKey.datas bs)=NestedKey.beqAll as bs
 |[],[]=>by simp[NestedKey.datas,PyData.eqvAll,NestedKey.beqAll]
 |[],_::_=>by simp[NestedKey.datas,PyData.eqvAll,NestedKey.beqAll]
 |_::_,[]=>by simp[NestedKey.datas,PyData.eqvAll,NestedKey.beqAll]
 |a::as,b::bs=>by
  rw[NestedKey.datas,NestedKey.datas,PyData.eqvAll,NestedKey.beqAll,abJ a b,XF as bs]
end
theorem abg(a b:NestedKey):PyData.eqv a.data b.data=decide (a=b):=by rw[abJ,NestedKey.decide_eq]
section
variable{X:Cx}{pins:List (Addr×Obj)}{σ:L2.St}{H:Hp}{s:Shared}{g:Gh}
mutual
theorem key_is(I:L2.Inv X pins σ H s):∀{v:V} {d:Dat} {k:NestedKey} {u:Value},Rep X.K g H v d->uG d=some k->RelV v u->NestedIs s.heap k u
 |_,_,_,u,.non,e,r=>by
  cases e
  obtain rfl:u=.none:=r
  exact .none
 |_,_,_,_,.int i,e,r=>by
  cases e
  obtain⟨t,rfl⟩:=r
  exact .int i t
 |_,_,_,_,.str x,e,r=>by
  cases e
  obtain⟨t,rfl⟩:=r
  exact .text x t
 |_,_,_,u,.tup (a:=a) h t,e,r=>by
  rw[uG,arI]at e
  obtain⟨ks,h1,rfl⟩:=e
  obtain rfl:u=.ref a:=r
  obtain⟨its,r1,⟨o,e1,c1,n,d1⟩,_⟩:=I.tuple h
  exact .tup e1 c1 d1 (by simpa using abB I t h1 r1)
 |_,_,_,_,.bl b,e,r=>by cases e
 |_,_,_,_,.lst _ _,e,r=>by cases e
 |_,_,_,_,.obj _,e,r=>by cases e
theorem abB(I:L2.Inv X pins σ H s):∀{vs:List V} {ds:List Dat} {ks:List NestedKey} {us:List Value},aM X.K g H vs ds->yt ds=some ks->Vals vs us->NestedAll s.heap ks us
 |_,_,_,_,.nil,e,r=>by
  cases e
  cases r
  exact .nil
 |_,_,_,_,.cons h t,e,r=>by
  rw[yt]at e
  obtain⟨k,h1,e⟩:=aqY.mp e
  obtain⟨ks,h2,e⟩:=aqY.mp e
  cases e
  cases r with
  |cons r1 r2=>exact .cons (key_is I h h1 r1) (abB I t h2 r2)
end
end
mutual
theorem abz:∀k:NestedKey,uG k.data=some k
 |.none=>rfl
 |.num _=>rfl
 |.text _=>rfl
 |.tup ks=>by rw[NestedKey.data,uG,YK ks];rfl
theorem YK:∀ks:List NestedKey,yt (NestedKey.datas ks)=some ks
 |[]=>rfl
 |k::ks=>by rw[NestedKey.datas,yt,abz k,YK ks];rfl
end
def dhas:Bool->List (Dat×Dat)->Dat->Out Bool
 |false,kvs,.int i=>.ok (kvs.any fun p=>PyData.eqv p.1 (.int i))
 |true,kvs,.tuple ds=>match uG (.tuple ds) with
  |some k=>match decide (k.depth<=8) with
   |true=>.ok (kvs.any fun p=>PyData.eqv p.1 (.tuple ds))
   |false=>.bad
  |none=>.bad
 |_,_,_=>.bad
def yV(M:Mo)(f:Str)(d:Dat):Option (Nat×Inst×Bool×List (Dat×Dat)):=(j7 M d).bind fun p=>match p.2.fs.lookup f with
 |some (.dic b kvs)=>some (p.1,p.2,b,kvs)
 |_=>none
section
variable{aj:aQ}{f:Str}
theorem FJ{K:aqZ}{g:Gh}{H:Hp}{M:Mo}{d:Dat}{v:V}{h:Nat}{i:Inst}{b:Bool}{kvs:List (Dat×Dat)}(co:jG K aj)(w:fZ K aj g H M)(r:eE K g H v d)(hi:yV M f d=some (h,i,b,kvs)) :
  ∃a C dx fs l,d=obj h/\M[h]?=some i/\i.cls≠""/\i.fs.lookup f=some (.dic b kvs)/\g.tbl[h]?=some a/\v=.ref a/\aj i.cls=some C/\H a=some (.ins C dx fs)/\cJ K aj g H h fs i.fs/\Cls K C/\NoAttr K C f/\f∈aj.fl i.cls/\fs.lookup f=some (.ref l)/\g.ow l=some (h,f)/\jC K aj g H l b kvs:=by
 unfold yV at hi
 obtain⟨⟨h',i'⟩,h1,hi⟩:=aqY.mp hi
 split at hi
 ·next b' kvs' hl=>
  cases hi
  obtain⟨rfl,m1,m2⟩:=Ir h1
  obtain⟨a,rfl,ha⟩:=Ma r
  obtain⟨C,dx,fs,c1,c2,c3⟩:=w.ins _ a _ ha m1 m2
  have hfl:=w.fd _ _ m1 f (lookup_mem hl)
  obtain⟨k1,k2⟩:=co _ C f c1 hfl
  obtain⟨u,l1,l,rfl,l3,l4⟩:=c3.get hl
  exact⟨a,C,dx,fs,l,rfl,m1,m2,hl,ha,rfl,c1,c2,c3,k1,k2,hfl,l1,l3,l4⟩
 ·cases hi
end
theorem Ui{kv:List (Key×V)}{i:Int}:∀{kvs:List (Dat×Dat)},kvs.map (·.1)=kv.map (fun p=>keyD p.1)->(kvs.any fun p=>PyData.eqv p.1 (.int i))=(valV kv (Sum.inl i)).isSome:=by
 induction kv with
 |nil=>
  intro kvs e
  cases kvs with
  |nil=>rfl
  |cons _ _=>cases e
 |cons p r ih=>
  intro kvs e
  cases kvs with
  |nil=>cases e
  |cons q t=>
   simp only[aq3,List.cons.injEq]at e
   rw[ar5,ih e.2,e.1]
   by_cases h:p.1=Sum.inl i
   ·rw[valV_pos h,h]
    simp[keyD,PyData.eqv]
   ·rw[valV_neg h]
    have:PyData.eqv (keyD p.1) (.int i)=false:=by
     cases hp:p.1 with
     |inl j=>
      have:j≠i:=fun z=>h (by rw[hp,z])
      simp[keyD,PyData.eqv,this]
     |inr x=>simp[keyD,PyData.eqv]
    rw[this,Bool.false_or]
theorem Ip{xs:List mX}{k:NestedKey}:∀{kvs:List (Dat×Dat)},kvs.map (·.1)=xs.map (fun x=>x.1.data)->(kvs.any fun p=>PyData.eqv p.1 k.data)=(atKey xs k).isSome:=by
 induction xs with
 |nil=>
  intro kvs e
  cases kvs with
  |nil=>rfl
  |cons _ _=>cases e
 |cons p r ih=>
  intro kvs e
  cases kvs with
  |nil=>cases e
  |cons q t=>
   simp only[aq3,List.cons.injEq]at e
   rw[ar5,ih e.2,e.1,abg]
   unfold atKey
   rw[List.find?_cons]
   cases hd:decide (p.1=k) with
   |true=>rfl
   |false=>rfl
theorem Gk{X:Cx}{pins:List (Addr×Obj)}{σ:L2.St}{H:Hp}{s:Shared}{g:Gh}{l:Addr}{o:Obj}{xs:List mX}{ks:List Dat}(I:L2.Inv X pins σ H s)(h1:H l=some (iQ l o))(h2:lC X.w l o xs)(h3:ks=xs.map fun x=>x.1.data)(h4:aM X.K g H (xs.map fun x=>V.ref x.2.1) ks) :
  s.heap.DictOfH (nestedKind X.prog X.w) l xs:=by
 obtain⟨z1,_,_⟩:=(show ObjOk X.prog X.w H s.heap l (iQ l o) from I.hok l _ h1)
 obtain⟨es,ep,e1,e2⟩:=h2.ent
 refine⟨o,es,ep,z1,h2.ex,e1,e2,fun x hx=>?_,h2.nd⟩
 refine⟨?_,h2.dep x hx⟩
 obtain⟨n,hn⟩:=List.mem_iff_getElem?.mp hx
 obtain⟨d,hd1,hd2⟩:=h4.get' (i:=n) (v:=V.ref x.2.1) (by rw[ard,hn];rfl)
 rw[h3,ard,hn]at hd1
 cases hd1
 exact key_is I hd2 (abz x.1) rfl
def rInD(X:Cx)(neg:Bool):R2:=fun x y H Q=>(∃l kv i,y=.ref l/\H l=some (.dK kv)/\x=.int i/\Q (.bl (neg ^^ (valV kv (Sum.inl i)).isSome)) H)∨
 ∃(l:Addr) (o:Obj) (xs:List mX) (g:Gh) (d:Dat) (b:Addr) (k:NestedKey),y=.ref l/\H l=some (iQ l o)/\lC X.w l o xs/\aM X.K g H (xs.map fun x=>V.ref x.2.1) (xs.map fun x=>x.1.data)/\x=.ref b/\Rep X.K g H x d/\uG d=some k/\k.depth<=8/\Q (.bl (neg ^^ (atKey xs k).isSome)) H
section
variable{X:Cx}
theorem op_inD(hu:X.A.units+64 < cLine):OpR X (compareOp .In) (rInD X false):=by
 intro pins s σ H x y v u Q I rx ry h
 rcases h with⟨l,kv,i,rfl,hl,rfl,q⟩|⟨l,o,xs,g,d,b,k,rfl,h1,h2,h3,rfl,h4,h5,h6,q⟩
 ·obtain rfl:u=Value.ref l:=ry
  exact d_in (by omega) I (DGet.k (k:=Sum.inl i) hl) rx fun s' I'=>⟨.bl _,H,I',rfl,by simpa using q⟩
 ·obtain rfl:u=Value.ref l:=ry
  obtain rfl:v=Value.ref b:=rx
  refine wpAny_in_heap (knd:=nestedKind X.prog X.w) (k:=k) (show X.A.in1.units+8 < cLine by show X.A.units+1+8 < cLine;omega) ⟨key_is I h4 h5 rfl,h6⟩ h2.sys (Gk I h1 h2 rfl h3) ?_
  exact⟨.bl _,H,I.tok _,rfl,by simpa using q⟩
theorem op_notInD(hu:X.A.units+64 < cLine):OpR X (compareOp .NotIn) (rInD X true):=by
 intro pins s σ H x y v u Q I rx ry h
 rcases h with⟨l,kv,i,rfl,hl,rfl,q⟩|⟨l,o,xs,g,d,b,k,rfl,h1,h2,h3,rfl,h4,h5,h6,q⟩
 ·obtain rfl:u=Value.ref l:=ry
  exact d_notIn (by omega) I (DGet.k (k:=Sum.inl i) hl) rx fun s' I'=>⟨.bl _,H,I',rfl,by simpa using q⟩
 ·obtain rfl:u=Value.ref l:=ry
  obtain rfl:v=Value.ref b:=rx
  refine notIn_keyed (knd:=nestedKind X.prog X.w) (k:=k) (show X.A.in1.units+8 < cLine by show X.A.units+1+8 < cLine;omega) ⟨key_is I h4 h5 rfl,h6⟩ h2.sys ⟨xs,Gk I h1 h2 rfl h3,rfl⟩ ?_
  rw[valueAt_pairsH,Option.isSome_map]
  exact⟨.bl _,H,I.tok _,rfl,by simpa using q⟩
end
def OD(neg:Bool)(f:Str)(k o:QF):QF:=fun M ρ=>(k M ρ).bind fun d=>(o M ρ).bind fun od=>match yV M f od with
 |some (_,_,b,kvs)=>(dhas b kvs d).bind fun r=>.ok (.bool (neg ^^ r))
 |none=>.bad
section
variable{X:Cx}{aj:aQ}{W:WX}{o k:Expr}{f:Str}{pos p1:Pos}{fo fk:QF}{neg:Bool}{op:CmpOp}
theorem agj(co:jG X.K aj)(hw:aj.w=X.w)(σ:L2.St)(H:Hp)(Q:VK)(h:tQ X.K aj W (OD neg f fk fo) σ H Q):tOp (rInD X neg) (tQ X.K aj W fk) (tFld X.K (tW X.K aj W fo) f) σ H Q:=by
 obtain⟨g,ρ,M,I,h⟩:=h
 refine tQ.go I h.bnd fun d v H1 h1 e1 r1=>?_
 have I1:=I.ex e1
 refine tW.go I1 (h1.bnd.mono (fun _ z=>z) fun _ z=>z.ex e1) fun od u H2 h2 e2 r2=>?_
 have I2:=I1.ex e2
 split at h2
 ·next hh i b kvs hd=>
  obtain⟨a,C,dx,fs,l,rfl,m1,m2,ml,ha,rfl,c1,c2,c3,c4,c5,c6,l1,l2,l3⟩:=FJ co I2.wok r2 hd
  refine⟨a,C,dx,fs,.ref l,rfl,c2,c4,c5,l1,?_⟩
  have r1':=r1.ex e2 I1.kd
  unfold dhas at h2
  split at h2
  ·next i'=>
   obtain⟨kv,k1,k2,k3⟩:=l3
   cases r1'
   refine .inl ⟨l,kv,i',rfl,k1,rfl,?_⟩
   rw[Ui k2]at h2
   exact h2 _ H2 (e1.trans e2) (.bl _)
  ·next ds=>
   split at h2
   ·next kk hk=>
    split at h2
    ·next hdep=>
     obtain⟨o',xs,vs,k1,k2,k3,k4,k5,k6⟩:=l3
     have ek:=Ad hk
     rw[←ek,Ip k3]at h2
     rw[k3]at k4
     rw[hw]at k2
     cases r1' with
     | @tup b us _ hs ht=>exact .inr ⟨l,o',xs,g,_,b,kk,rfl,k1,k2,k4,rfl,.tup hs ht,hk,of_decide_eq_true hdep,h2 _ H2 (e1.trans e2) (.bl _)⟩
    ·exact False.elim h2
   ·exact False.elim h2
  ·exact False.elim h2
 ·exact False.elim h2
theorem aky(co:jG X.K aj)(hw:aj.w=X.w)(hr:OpR X (compareOp op) (rInD X neg))(hk:QE aj X W k fk)(ho:QW aj X W o fo)(hb:baseOk o=true):QE aj X W (.Compare k [op] [.Attribute o f p1] pos) (OD neg f fk fo):=
 PE.weak (pe_cmpR hr hk (pe_fld ho (mU hb)) (by cases op <;> rfl)) fun σ H Q h=>agj co hw σ H Q h
end
def DPx(X:Cx)(H:Hp)(a:Addr)(y v:V)(R:Hp->Prop):Prop:=(∃kvs i,H a=some (.dK kvs)/\y=.int i/\kvs.length < sizeLine/\R (upd H a (.dK (putK kvs (Sum.inl i) v))))∨
 ∃(o:Obj) (xs:List mX) (g:Gh) (d:Dat) (b:Addr) (k:NestedKey),H a=some (iQ a o)/\lC X.w a o xs/\aM X.K g H (xs.map fun x=>V.ref x.2.1) (xs.map fun x=>x.1.data)/\y=.ref b/\Rep X.K g H y d/\uG d=some k/\k.depth<=8/\xs.length < sizeLine/\∀(o':Obj) (u:Value),RelV v u->lC X.w a o' (storedH xs k b u)->R (upd H a (iQ a o'))
theorem Km{P:Program}{w:World}{H:Hp}{h:Heap}{l:Addr}{o:Obj}(e:h.get? l=some o):ObjOk P w H h l (iQ l o):=⟨e,⟨o,e⟩,fun _ _ e1 k=>k _ e1⟩
theorem aaB{xs:List mX}{k:NestedKey}{b:Addr}{u:Value}:(storedH xs k b u).map (·.1)=if (atKey xs k).isSome then xs.map (·.1) else xs.map (·.1)++[k]:=by
 unfold storedH
 split
 ·rw[arA]
  refine List.map_congr_left fun x _=>?_
  show(putAt k u x).1=x.1
  unfold putAt
  split <;> rfl
 ·simp
theorem Rr{xs:List mX}{k:NestedKey}{b:Addr}{u:Value}:(storedH xs k b u).length<=xs.length+1:=by
 unfold storedH
 split <;> simp
theorem R3{xs:List mX}{k:NestedKey}{b:Addr}{u:Value}(h:∀x∈xs,x.1.depth<=8)(hk:k.depth<=8):∀x∈storedH xs k b u,x.1.depth<=8:=fun x hx=>by
 have:x.1∈(storedH xs k b u).map (·.1):=arf.mpr ⟨x,hx,rfl⟩
 rw[aaB]at this
 have old:∀{z:NestedKey},z∈xs.map (·.1)->z.depth<=8:=fun {z} m=>by
  obtain⟨y,hy,rfl⟩:=arf.mp m
  exact h y hy
 split at this
 ·exact old this
 ·rcases arb.mp this with z|z
  ·exact old z
  ·rw[aq7.mp z]
   exact hk
section
variable{X:Cx}{o i value:Expr}{td ty tv:TE}{pos pos':Pos}
def amS(X:Cx)(td ty tv:TE):TS:=fun D σ H=>tv σ H fun v H1=>td σ H1 fun x H2=>ty σ H2 fun y H3=>∃a,x=.ref a/\DPx X H3 a y v fun H4=>D.nx σ H4
theorem afN(hu:X.A.units+64 < cLine)(ho:PE X o td)(hi:PE X i ty)(hv:PE X value tv)(hs:swapsWith value (some (.Subscript o i pos')) pos.line X.env=pure false):PS X (.Assign [.Subscript o i pos'] value pos) (amS X td ty tv):=by
 refine⟨fun pins s σ H D I h=>?_⟩
 refine wpAny_Assign_Subscript (thn (hv.run pins s σ H _ I h) fun r s1 ⟨v,H1,I1,rv,q1⟩=>thn (ho.run pins s1 σ H1 _ I1 q1) fun u s2 ⟨x,H2,I2,rx,q2⟩=>thn (hi.run pins s2 σ H2 _ I2 q2) fun iv s3 ⟨y,H3,I3,ry,a,ex,q3⟩=>?_) hs
 subst ex
 obtain rfl:u=Value.ref a:=rx
 rcases q3 with⟨kvs,j,h1,rfl,hl,q⟩|⟨ob,xs,g,d,b,k,h1,h2,h3,rfl,h4,h5,h6,hl,q⟩
 ·exact d_setItem (by omega) I3 (DPut.k (k:=Sum.inl j) h1 hl) ry rv fun s4 I4=>⟨σ,_,I4,q⟩
 ·obtain rfl:iv=Value.ref b:=ry
  refine wpAny_setItem_heap (knd:=nestedKind X.prog X.w) (k:=k) (hsz:=Nat.le_of_lt hl) (show X.A.in1.units+8 < cLine by show X.A.units+1+8 < cLine;omega) ⟨key_is I3 h4 h5 rfl,h6⟩ (Gk I3 h1 h2 rfl h3) fun h' dd hs'=>?_
  obtain⟨o',es,ep,g1,g2,g3,g4,g5,g6⟩:=dd
  have nd:lC X.w a o' (storedH xs k b r):=⟨h2.sys,g2,⟨es,ep,g3,g4⟩,g6,by have:=Rr (xs:=xs) (k:=k) (b:=b) (u:=r);omega,R3 h2.dep h6⟩
  exact⟨σ,_,d_write I3 (by rw[h1];exact True.intro) hs' ⟨o',g1⟩ (Km g1),q o' r rv nd⟩
end
theorem aM.back{K:aqZ}{g:Gh}{H:Hp}{vs:List V}{ds:List Dat}{v:V}{d:Dat}(h:aM K g H vs ds)(r:Rep K g H v d):aM K g H (vs++[v]) (ds++[d]):=h.append (.cons r .nil)
theorem Np{K:aqZ}{aj:aQ}{f:Str}{σ:L2.St}{ρ:Env}{g:Gh}{H:Hp}{M:Mo}{h:Nat}{i:Inst}{b:Bool}{kvs':List (Dat×Dat)}{a C dx l:Addr}{fs:List (Str×V)}{o':HO}(I:SInv K aj σ H g ρ M)(m1:M[h]?=some i)(m2:i.cls≠"")(ha:g.tbl[h]?=some a)(c1:aj i.cls=some C)(c2:H a=some (.ins C dx fs))(c3:cJ K aj g H h fs i.fs)(hfl:f∈aj.fl i.cls)(l1:fs.lookup f=some (.ref l))(l4:g.ow l=some (h,f))(mu:Jy o')
  (new:Gr false g g H (upd H l o')->jC K aj g (upd H l o') l b kvs'):Gr false g g H (upd H l o')/\SInv K aj σ (upd H l o') g ρ (M.set h (i.put f (.dic b kvs'))):=by
 have ch:=ado (o':=o') I.kd I.wok l4 mu
 have nla:a≠l:=fun z=>by
  subst z
  rw[I.wok.tw h a i ha m1 m2]at l4
  cases l4
 have w':=I.wok.chg I.kd ch ha m1 m2 hfl c1 (dx:=dx) c3 (v:=.ref l) (fl:=.dic b kvs') (by rw[upd_ne nla,Lh l1];exact c2) ⟨l,rfl,l4,new ch.gc.gr⟩
 exact⟨ch.gc.gr,I.chg ch w'⟩
def Mx(f:Str)(o k e:QF):SF:=fun M ρ=>((e M ρ).at M).then ρ fun v _=>((o M ρ).at M).then ρ fun od _=>match yV M f od with
 |some (h,i,b,kvs)=>((k M ρ).at M).then ρ fun d _=>match dhas b kvs d,decide (kvs.length < 100000) with
  |.ok false,true=>.next ρ (M.set h (i.put f (.dic b (kvs++[(d,v)]))))
  |_,_=>.bad
 |none=>.bad
def Nk(f:Str)(o k:QF):SF:=fun M ρ=>((o M ρ).at M).then ρ fun od _=>match yV M f od with
 |some (h,i,b,kvs)=>((k M ρ).at M).then ρ fun d _=>match dhas b kvs d,decide (kvs.length<=100000) with
  |.ok true,true=>.next ρ (M.set h (i.put f (.dic b (kvs.filter fun p=>!PyData.eqv p.1 d))))
  |_,_=>.bad
 |none=>.bad
theorem Us{kvs:List (Dat×Dat)}{b r:Bool}{d:Dat}(h:dhas b kvs d=.ok r):(kvs.any fun p=>PyData.eqv p.1 d)=r/\((b=false/\∃i,d=.int i)∨(b=true/\∃ds k,d=.tuple ds/\uG d=some k/\k.depth<=8)):=by
 unfold dhas at h
 split at h
 ·next i=>
  cases h
  exact⟨rfl,.inl ⟨rfl,i,rfl⟩⟩
 ·next ds=>
  split at h
  ·next k hk=>
   split at h
   ·next hd=>
    cases h
    exact⟨rfl,.inr ⟨rfl,ds,k,rfl,hk,of_decide_eq_true hd⟩⟩
   ·cases h
  ·cases h
 ·cases h
section
variable{X:Cx}{aj:aQ}{W:WX}{o e i:Expr}{f:Str}{pos pos' p1:Pos}{fo fe fk:QF}
theorem ahV(co:jG X.K aj)(hw:aj.w=X.w)(hu:X.A.units+64 < cLine)(ho:QW aj X W o fo)(hb:baseOk o=true)(hk:QE aj X W i fk)(he:QE aj X W e fe)(hs:swapsWith e (some (.Subscript (.Attribute o f p1) i pos')) pos.line X.env=pure false) :
  SE aj X W false (.Assign [.Subscript (.Attribute o f p1) i pos'] e pos) (Mx f fo fk fe):=by
 refine PS.weak (afN hu (pe_fld ho (mU hb)) hk he hs) fun D σ H ⟨g,ρ,M,I,z⟩=>?_
 unfold Mx at z
 have k1:=Out.jm (dD (σ:=σ) z)
 refine tQ.go I (k1.mono (fun _ y=>y) fun x y H' c dd ex rx=>y H' _ c dd (Gr.ex ex) (I.ex ex) rx) fun d v H1 k2 e1 rv=>?_
 have I1:=I.ex e1
 have k2:=Out.jm (dD (σ:=σ) k2)
 refine tW.go I1 (k2.mono (fun _ y=>y) fun x y H' c dd ex rx=>y H' _ c dd ((Gr.ex e1).trans (Gr.ex ex)) (I1.ex ex) rx) fun od u H2 k3 e2 ru=>?_
 have I2:=I1.ex e2
 have e12:=e1.trans e2
 split at k3
 ·next h i' b kvs hl=>
  obtain⟨a,C,dx,fs,l,rfl,m1,m2,ml,ha,rfl,c1,c2,c3,c4,c5,c6,l1,l2,l3⟩:=FJ co I2.wok ru hl
  refine⟨a,C,dx,fs,.ref l,rfl,c2,c4,c5,l1,?_⟩
  have k3:=Out.jm (dD (σ:=σ) k3)
  refine tQ.go I2 (k3.mono (fun _ y=>y) fun x y H' c dd ex rx=>y H' _ c dd ((Gr.ex e12).trans (Gr.ex ex)) (I2.ex ex) rx) fun kd w H3 k4 e3 rk=>?_
  have I3:=I2.ex e3
  have l3':=l3.ex e3 I2.kd
  have rv3:=(rv.ex e2 I1.kd).ex e3 I2.kd
  refine⟨l,rfl,?_⟩
  split at k4
  ·next hh hz=>
   obtain⟨ha2,hcase⟩:=Us hh
   have hz:=of_decide_eq_true hz
   rcases hcase with⟨rfl,j,rfl⟩|⟨rfl,ds,kk,rfl,hkk,hdep⟩
   ·obtain⟨kv,q1,q2,q3⟩:=l3'
    cases rk
    have hlen:kv.length=kvs.length:=by
     have:=congrArg List.length q2
     simpa using this.symm
    rw[Ui q2]at ha2
    have hn:valV kv (Sum.inl j)=none:=by
     cases hv:valV kv (Sum.inl j) with
     |none=>rfl
     |some _=>rw[hv]at ha2;cases ha2
    refine .inl ⟨kv,j,q1,rfl,sz_lt (by rw[hlen];exact hz),?_⟩
    rw[putK_new v hn]
    obtain⟨gr,I4⟩:=Np (b:=false) (kvs':=kvs++[(.int j,d)]) (o':=.dK (kv++[(Sum.inl j,v)])) I3 m1 m2 ha c1 (e3 _ _ c2) (c3.ex e3 I2.kd) c6 l1 l2 trivial fun gr=>⟨_,upd_same,by simp[q2,keyD],by
     rw[arG,arG]
     exact(q3.gr gr I3.kd).back (rv3.gr gr I3.kd)⟩
    exact k4 σ _ g ((Gr.ex (e12.trans e3)).trans gr) I4
   ·obtain⟨o',xs,vs,q1,q2,q3,q4,q5,q6⟩:=l3'
    have hlen:xs.length=kvs.length:=by
     have:=congrArg List.length q3
     simpa using this.symm
    have ek:=Ad hkk
    rw[←ek,Ip q3]at ha2
    have hn:atKey xs kk=none:=by
     cases hv:atKey xs kk with
     |none=>rfl
     |some _=>rw[hv]at ha2;cases ha2
    have q4':=q4
    rw[q3]at q4'
    rw[hw]at q2
    cases rk with
    | @tup bb us _ hs' ht=>
     refine .inr ⟨o',xs,g,_,bb,kk,q1,q2,q4',rfl,.tup hs' ht,hkk,hdep,sz_lt (by rw[hlen];exact hz),fun o2 u2 ru2 nd=>?_⟩
     rw[storedH_new hn]at nd
     obtain⟨gr,I4⟩:=Np (b:=true) (kvs':=kvs++[(.tuple ds,d)]) (o':=iQ l o2) I3 m1 m2 ha c1 (e3 _ _ c2) (c3.ex e3 I2.kd) c6 l1 l2 trivial fun gr=>⟨o2,xs++[(kk,bb,u2)],vs++[v],upd_same,by rw[hw];exact nd,by simp[q3,ek],by
      rw[arG,arG]
      exact(q4.gr gr I3.kd).back ((Rep.tup hs' ht).gr gr I3.kd),by
      rw[arG]
      exact q5.append (.cons ru2 .nil),by
      rw[arG]
      exact(q6.gr gr I3.kd).back (rv3.gr gr I3.kd)⟩
     exact k4 σ _ g ((Gr.ex (e12.trans e3)).trans gr) I4
  ·exact False.elim k4
 ·exact False.elim k3
end
section
variable{X:Cx}{o i:Expr}{td ty:TE}{pos tpos:Pos}
def amN(X:Cx)(td ty:TE):TS:=fun D σ H=>td σ H fun x H2=>ty σ H2 fun y H3=>∃a,x=.ref a/\((∃kvs i,H3 a=some (.dK kvs)/\y=.int i/\(valV kvs (Sum.inl i)).isSome=true/\D.nx σ (upd H3 a (.dK (dropK kvs (Sum.inl i)))))∨
 ∃(o:Obj) (xs:List mX) (g:Gh) (d:Dat) (b:Addr) (k:NestedKey),H3 a=some (iQ a o)/\lC X.w a o xs/\aM X.K g H3 (xs.map fun x=>V.ref x.2.1) (xs.map fun x=>x.1.data)/\y=.ref b/\Rep X.K g H3 y d/\uG d=some k/\k.depth<=8/\(atKey xs k).isSome=true/\∀(o':Obj),lC X.w a o' (withoutH xs k)->D.nx σ (upd H3 a (iQ a o')))
theorem afH(hu:X.A.units+64 < cLine)(ho:PE X o td)(hi:PE X i ty):PS X (.Delete [.Subscript o i tpos] pos) (amN X td ty):=by
 refine⟨fun pins s σ H D I h=>?_⟩
 refine wpAny_Delete (wpAny_deleteEach_cons (wpAny_delete_Subscript (thn (ho.run pins s σ H _ I h) fun u s1 ⟨x,H1,I1,rx,q1⟩=>thn (hi.run pins s1 σ H1 _ I1 q1) fun iv s2 ⟨y,H2,I2,ry,a,ex,q2⟩=>?_)))
 subst ex
 obtain rfl:u=Value.ref a:=rx
 rcases q2 with⟨kvs,j,h1,rfl,hl,q⟩|⟨ob,xs,g,d,b,k,h1,h2,h3,rfl,h4,h5,h6,hl,q⟩
 ·exact d_delItem (k:=Sum.inl j) I2 h1 ry hl fun s3 I3=>wpAny_deleteEach_nil ⟨σ,_,I3,q⟩
 ·obtain rfl:iv=Value.ref b:=ry
  obtain⟨p,hp⟩:=Option.isSome_iff_exists.mp hl
  refine wpAny_delItem_heap (knd:=nestedKind X.prog X.w) (k:=k) (hsz:=h2.len) (show X.A.in1.units+8 < cLine by show X.A.units+1+8 < cLine;omega) ⟨key_is I2 h4 h5 rfl,h6⟩ h2.sys (Gk I2 h1 h2 rfl h3) hp fun h' dd hs'=>?_
  obtain⟨o',es,ep,g1,g2,g3,g4,g5,g6⟩:=dd
  have nd:lC X.w a o' (withoutH xs k):=⟨h2.sys,g2,⟨es,ep,g3,g4⟩,g6,arv (arj _ _) h2.len,fun x hx=>h2.dep x (arp.mp hx).1⟩
  exact wpAny_deleteEach_nil ⟨σ,_,d_write I2 (by rw[h1];exact True.intro) hs' ⟨o',g1⟩ (Km g1),q o' nd⟩
end
theorem Pu{α β:Type}(f:α->β)(c:α->Bool):∀l:List α,(((l.map f).zip l).filter fun p=>c p.2).map (·.1)=(l.filter c).map f
 |[]=>rfl
 |a::l=>by
  rw[aq3,arP,arE,arE]
  cases c a
  ·exact Pu f c l
  ·simp only[if_true,aq3,Pu f c l]
theorem agw{K:aqZ}{g:Gh}{H:Hp}(kk:NestedKey):∀{xs:List mX} {vs:List V} {kvs:List (Dat×Dat)},kvs.map (·.1)=xs.map (fun x=>x.1.data)->aM K g H (xs.map fun x=>V.ref x.2.1) (kvs.map (·.1))->Vals vs (xs.map (·.2.2))->aM K g H vs (kvs.map (·.2))->
  ∃vs',(kvs.filter fun p=>!PyData.eqv p.1 kk.data).map (·.1)=(withoutH xs kk).map (fun x=>x.1.data)/\aM K g H ((withoutH xs kk).map fun x=>V.ref x.2.1) ((kvs.filter fun p=>!PyData.eqv p.1 kk.data).map (·.1))/\Vals vs' ((withoutH xs kk).map (·.2.2))/\aM K g H vs' ((kvs.filter fun p=>!PyData.eqv p.1 kk.data).map (·.2))
 |[],_,[],_,_,.nil,_=>⟨[],rfl,.nil,.nil,.nil⟩
 |[],_,_::_,h,_,_,_=>by cases h
 |_::_,_,[],h,_,_,_=>by cases h
 |x::xs,_,q::qs,h1,.cons r1 t1,.cons w1 w2,.cons r2 t2=>by
  simp only[aq3,List.cons.injEq]at h1
  obtain⟨vs',i1,i2,i3,i4⟩:=agw kk h1.2 t1 w2 t2
  have hq:(!PyData.eqv q.1 kk.data)=decide (x.1≠kk):=by
   rw[h1.1,abg]
   by_cases hz:x.1=kk <;> simp[hz]
  unfold withoutH
  rw[arE,arE,hq]
  cases hb:decide (x.1≠kk) with
  |true=>exact⟨_::vs',by simp only[if_true,aq3,h1.1];exact congrArg _ i1,by simp only[if_true,aq3];exact .cons r1 i2,by simp only[if_true,aq3];exact .cons w1 i3,by simp only[if_true,aq3];exact .cons r2 i4⟩
  |false=>
   simp only[arz,if_false]
   exact⟨vs',i1,i2,i3,i4⟩
theorem akl{K:aqZ}{g:Gh}{H:Hp}{α:Type}(c:α->Bool)(key:α->Dat)(dd:Dat->Bool):∀{vs:List V} {kvs:List (Dat×Dat)} {xs:List α},(∀x∈xs,c x=dd (key x))->kvs.map (·.1)=xs.map key->vs.length=xs.length->aM K g H vs (kvs.map (·.2))->
  (kvs.filter fun p=>dd p.1).map (·.1)=(xs.filter c).map key/\aM K g H (((vs.zip xs).filter fun p=>c p.2).map (·.1)) ((kvs.filter fun p=>dd p.1).map (·.2))
 |[],[],[],_,_,_,_=>⟨rfl,.nil⟩
 |[],[],_::_,_,h,_,_=>by cases h
 |[],_::_,_,_,_,_,h=>by cases h
 |_::_,[],_,_,_,_,h=>by cases h
 |_::_,_::_,[],_,h,_,_=>by cases h
 |u::us,q::qs,x::xs,hc,hk,hl,.cons h t=>by
  simp only[aq3,List.cons.injEq]at hk
  have hq:=hc x aq4
  rw[←hk.1]at hq
  obtain⟨i1,i2⟩:=akl c key dd (fun y hy=>hc y (aq5 _ hy)) hk.2 (arX hl) t
  rw[arP,arE,arE,arE,hq]
  cases hb:dd q.1 with
  |true=>exact⟨by simp only[if_true,aq3,i1,hk.1],by simp only[if_true,aq3];exact .cons h i2⟩
  |false=>exact⟨by simpa using i1,by simpa using i2⟩
section
variable{X:Cx}{aj:aQ}{W:WX}{o i:Expr}{f:Str}{pos tpos p1:Pos}{fo fk:QF}
theorem ahh(co:jG X.K aj)(hw:aj.w=X.w)(hu:X.A.units+64 < cLine)(ho:QW aj X W o fo)(hb:baseOk o=true)(hk:QE aj X W i fk):SE aj X W false (.Delete [.Subscript (.Attribute o f p1) i tpos] pos) (Nk f fo fk):=by
 refine PS.weak (afH hu (pe_fld ho (mU hb)) hk) fun D σ H ⟨g,ρ,M,I,z⟩=>?_
 unfold Nk at z
 have k2:=Out.jm (dD (σ:=σ) z)
 refine tW.go I (k2.mono (fun _ y=>y) fun x y H' c dd ex rx=>y H' _ c dd (Gr.ex ex) (I.ex ex) rx) fun od u H2 k3 e2 ru=>?_
 have I2:=I.ex e2
 split at k3
 ·next h i' b kvs hl=>
  obtain⟨a,C,dx,fs,l,rfl,m1,m2,ml,ha,rfl,c1,c2,c3,c4,c5,c6,l1,l2,l3⟩:=FJ co I2.wok ru hl
  refine⟨a,C,dx,fs,.ref l,rfl,c2,c4,c5,l1,?_⟩
  have k3:=Out.jm (dD (σ:=σ) k3)
  refine tQ.go I2 (k3.mono (fun _ y=>y) fun x y H' c dd ex rx=>y H' _ c dd ((Gr.ex e2).trans (Gr.ex ex)) (I2.ex ex) rx) fun kd w H3 k4 e3 rk=>?_
  have I3:=I2.ex e3
  have l3':=l3.ex e3 I2.kd
  refine⟨l,rfl,?_⟩
  split at k4
  ·next hh hz=>
   obtain⟨ha2,hcase⟩:=Us hh
   rcases hcase with⟨rfl,j,rfl⟩|⟨rfl,ds,kk,rfl,hkk,hdep⟩
   ·obtain⟨kv,q1,q2,q3⟩:=l3'
    cases rk
    rw[Ui q2]at ha2
    refine .inl ⟨kv,j,q1,rfl,ha2,?_⟩
    have hf:=fun(H':Hp)(r:aM X.K g H' (kv.map (·.2)) (kvs.map (·.2)))=>akl (K:=X.K) (g:=g) (H:=H') (fun p:Key×V=>decide (p.1≠Sum.inl j)) (fun p=>keyD p.1) (fun z=>!PyData.eqv z (.int j)) (vs:=kv.map (·.2)) (kvs:=kvs) (xs:=kv) (fun x _=>by
     cases hx:x.1 with
     |inl z=>by_cases hz:z=j <;> simp[keyD,PyData.eqv,hz]
     |inr z=>simp[keyD,PyData.eqv]) q2 (by simp) r
    have ez:(((kv.map (·.2)).zip kv).filter fun p=>decide (p.2.1≠Sum.inl j)).map (·.1)=(dropK kv (Sum.inl j)).map (·.2):=Pu (·.2) (fun p:Key×V=>decide (p.1≠Sum.inl j)) kv
    obtain⟨gr,I4⟩:=Np (b:=false) (kvs':=kvs.filter fun p=>!PyData.eqv p.1 (.int j)) (o':=.dK (dropK kv (Sum.inl j))) I3 m1 m2 ha c1 (e3 _ _ c2) (c3.ex e3 I2.kd) c6 l1 l2 trivial fun gr=>⟨_,upd_same,(hf _ (q3.gr gr I3.kd)).1,by
     rw[←ez]
     exact(hf _ (q3.gr gr I3.kd)).2⟩
    exact k4 σ _ g ((Gr.ex (e2.trans e3)).trans gr) I4
   ·obtain⟨o',xs,vs,q1,q2,q3,q4,q5,q6⟩:=l3'
    have ek:=Ad hkk
    rw[←ek,Ip q3]at ha2
    rw[hw]at q2
    have q4':=q4
    rw[q3]at q4'
    cases rk with
    | @tup bb us _ hs' ht=>
     refine .inr ⟨o',xs,g,_,bb,kk,q1,q2,q4',rfl,.tup hs' ht,hkk,hdep,ha2,fun o2 nd=>?_⟩
     obtain⟨gr,I4⟩:=Np (b:=true) (kvs':=kvs.filter fun p=>!PyData.eqv p.1 (.tuple ds)) (o':=iQ l o2) I3 m1 m2 ha c1 (e3 _ _ c2) (c3.ex e3 I2.kd) c6 l1 l2 trivial fun gr=>by
      obtain⟨vs',i1,i2,i3,i4⟩:=agw kk q3 (q4.gr gr I3.kd) q5 (q6.gr gr I3.kd)
      rw[ek]at i1 i2 i4
      exact⟨o2,withoutH xs kk,vs',upd_same,by rw[hw];exact nd,i1,i2,i3,i4⟩
     exact k4 σ _ g ((Gr.ex (e2.trans e3)).trans gr) I4
  ·exact False.elim k4
 ·exact False.elim k3
end
def ItD(l:Addr)(o:Obj)(xs:List mX):It:=
 ⟨fun i H=>H l=some (iQ l o)/\i < xs.length,fun i H x H'=>H'=H/\∃e,xs[i]?=some e/\x=.ref e.2.1,fun i H=>H l=some (iQ l o)/\xs.length<=i⟩
theorem pin_at{X:Cx}{pins:List (Addr×Obj)}{σ:L2.St}{H:Hp}{s:Shared}{l:Addr}{o:Obj}(I:L2.Inv X pins σ H s)(h:H l=some (iQ l o)):s.heap.get? l=some o:=(show ObjOk X.prog X.w H s.heap l (iQ l o) from I.hok l _ h).1
theorem lC.at{w:World}{l:Addr}{o:Obj}{xs:List mX}{es:Array DictEntry}{ep:Nat}(n:lC w l o xs)(h:o.data=.dict es ep):es.size=xs.length/\∀(i:Nat) (e:mX),xs[i]?=some e->∃en,es[i]?=some en/\en.key=.ref e.2.1:=by
 obtain⟨es',ep',h1,h2⟩:=n.ent
 rw[h]at h1
 cases h1
 refine⟨?_,fun i e hi=>⟨adI w e,?_,rfl⟩⟩
 ·have:=congrArg List.length h2
  simpa using this
 ·rw[←arS,h2,ard,hi]
  rfl
theorem alG{P:Program}{w:World}{K:aqZ}{tg:Expr}{l:Addr}{o:Obj}{xs:List mX}{es:Array DictEntry}{ep:Nat}(it:Addr)(n:lC w l o xs)(hod:o.data=.dict es ep):Turn P w K tg (ItD l o xs) [it] it (fun i h=>h.IsKeyIter it l i xs.length ep) where
 mem:=aq7.mpr rfl
 obj:=fun i h st b hb=>by
  cases aq7.mp hb
  obtain⟨oi,e,c,dd⟩:=st
  refine⟨oi,e,fun v z=>?_⟩
  rw[dd]at z
  cases z
 keep:=fun i h h' st k=>st.at (k it (aq7.mpr rfl))
 item:=by
  intro X hP hw hK hc i pins s σ H E I hf st hg
  subst hP hw hK
  obtain⟨g0,g1,g2,g3,g4,g5⟩:=hf it (aq7.mpr rfl)
  obtain⟨sz,ent⟩:=n.at hod
  have hlt:i < xs.length:=hg.2
  have hx:xs[i]?=some xs[i]:=aq2 hlt
  obtain⟨en,e1,e2⟩:=ent i _ hx
  refine next_key_item st (pin_at I hg.1) hod sz e1 ?_
  intro h' st' sb
  have J:L2.Inv X pins σ H { s with heap:=h' }:=I.turned (t':=s.toks) (fun b ob hb e=>(sb.2 b hb).trans e) g0 g1 g3 g4 g5
  obtain⟨oi,a1,a2,a3⟩:=id st'
  exact⟨en.key,rfl,go_of (s:={ s with heap:=h' }) a1 a2 a3 (by decide) ⟨.ref xs[i].2.1,H,J,e2,⟨rfl,_,hx,rfl⟩,st',fun b hb=>(hf b hb).1⟩⟩
 done:=by
  intro X hP hw hK hc i pins s σ H E I hf st hg
  subst hP hw hK
  obtain⟨g0,g1,g2,g3,g4,g5⟩:=hf it (aq7.mpr rfl)
  exact next_key_end (I.ok.hd hc) st (pin_at I hg.1) hod (n.at hod).1 hg.2 fun h' eb=>⟨rfl,I.turned (t':=s.toks) (fun b ob hb e=>eb b ob hb e) g0 g1 g3 g4 g5⟩
 self:=fun A i s Q E st h=>by
  refine wpAny_pyIter_slot st.typeIs PySem.F.slot_dict_keyiterator_iter (wpAny_call_entry PySem.F.slot_dict_keyiterator_iter st.typeIs PySem.F.entry_dict_keyiterator_iter ?_ (PySem.F.args_dict_keyiterator_iter_1 _))
  exact wpAny_pure ⟨_,rfl,"dict_keyiterator",_,st.typeIs,PySem.F.slot_dict_keyiterator_next.lookup,h⟩
def amJ(X:Cx)(td:TE):TI:=fun σ H R=>td σ H fun x H1=>∃l o xs,x=.ref l/\H1 l=some (iQ l o)/\lC X.w l o xs/\R (ItD l o xs) H1
theorem akU{X:Cx}{tg e:Expr}{td:TE}(he:PE X e td):PI X tg e (amJ X td):=by
 constructor
 intro pins s σ H R I h
 refine thn (he.run pins s σ H _ I h) ?_
 rintro u s1 ⟨x,H1,I1,rx,l,o,xs,rfl,hl,n,q⟩
 obtain rfl:u=Value.ref l:=rx
 obtain⟨es,ep,hd,_⟩:=n.ent
 refine iter_keys n.sys (pin_at I1 hl) n.ex hd (pi_one (tk:=s1.toks) I1 _ (alG _ n hd) ⟨_,Heap.get?_push_size _ rfl,rfl,?_⟩ q)
 rw[(n.at hd).1] <;> rfl
theorem aii{K:aqZ}{aj:aQ}{l:Addr}{o:Obj}{xs:List mX}{ks:List Dat}:JL K (ItD l o xs) (fun g H=>H l=some (iQ l o)/\aM K g H (xs.map fun x=>V.ref x.2.1) ks) ks where
 go:=fun g i H c hi=>⟨c.1,by have:=c.2.length;simp at this;omega⟩
 yld:=fun g i H x H' d k c e y=>by
  obtain⟨rfl,en,h1,rfl⟩:=y
  obtain⟨v,h2,h3⟩:=c.2.get e
  rw[ard,h1]at h2
  cases h2
  exact⟨Ex.refl _,h3⟩
 stop:=fun g i H c e=>⟨c.1,by have:=c.2.length;simp at this;omega⟩
 ex:=fun g H H' k c e=>⟨e _ _ c.1,c.2.ex e k⟩
 add:=fun g g' H H' k c r e=>⟨e _ _ c.1,c.2.gr r k⟩
def CP(f:Str)(o:QF):IF:=fun M ρ=>(o M ρ).bind fun od=>match yV M f od with
 |some (_,_,true,kvs)=>.ok (kvs.map (·.1))
 |_=>.bad
def Cy(f:Str)(o:QF):QF:=fun M ρ=>(o M ρ).bind fun od=>match yV M f od with
 |some (_,_,_,kvs)=>.ok (.list (kvs.map (·.1)))
 |none=>.bad
section
variable{X:Cx}{aj:aQ}{W:WX}{o tg:Expr}{f:Str}{pos p p1:Pos}{fo:QF}
theorem afs(co:jG X.K aj)(hw:aj.w=X.w)(ho:QW aj X W o fo)(hb:baseOk o=true):QI aj X W false tg (.Attribute o f p1) (CP f fo):=by
 have h0:=akU (tg:=tg) (pe_fld (X:=X) (pos:=p1) (f:=f) ho (mU hb))
 refine⟨fun pins s σ H R I h=>h0.run pins s σ H R I ?_⟩
 obtain⟨g,ρ,M,J,h⟩:=h
 unfold CP at h
 refine tW.go J h.bnd fun od u H1 k2 e1 ru=>?_
 have J1:=J.ex e1
 split at k2
 ·next h i kvs hl=>
  obtain⟨a,C,dx,fs,l,rfl,m1,m2,ml,ha,rfl,c1,c2,c3,c4,c5,c6,l1,l2,o',xs,vs,q1,q2,q3,q4,q5,q6⟩:=FJ co J1.wok ru hl
  rw[hw]at q2
  exact⟨a,C,dx,fs,.ref l,rfl,c2,c4,c5,l1,l,o',xs,rfl,q1,q2,k2 _ _ H1 e1 (aii (aj:=aj)) ⟨q1,q4⟩ fun z=>nomatch z⟩
 ·exact False.elim k2
end
theorem af3{P:Program}{w:World}{A:Around}{l I:Addr}{o:Obj}{xs:List mX}{es:Array DictEntry}{ep:Nat}(hh:A.handled=none)(hne:l≠I)(n:lC w l o xs)(hd:o.data=.dict es ep):Walks P w A I [I,l] [I] xs.length (fun i v=>∃e,xs[i]?=some e/\v=Value.ref e.2.1) (fun i h=>h.IsKeyIter I l i xs.length ep/\h.get? l=some o) where
 sub:=fun b hb=>by simp at hb;simp[hb]
 frame:=fun i h h' st k=>⟨st.1.at (k I (by simp)),k l (by simp) o st.2⟩
 item:=fun i s Q E hi st hQ=>by
  obtain⟨sz,ent⟩:=n.at hd
  have hx:xs[i]?=some xs[i]:=aq2 hi
  obtain⟨en,e1,e2⟩:=ent i _ hx
  refine next_key_item st.1 st.2 hd sz e1 ?_
  intro h' st' sb
  exact hQ en.key h' s.toks ⟨_,hx,e2⟩ ⟨st',(sb.2 l hne).trans st.2⟩ fun b ob hb e=>(sb.2 b fun z=>hb (by simp[z])).trans e
 done:=fun s Q E st hQ=>next_key_end hh st.1 st.2 hd (n.at hd).1 (aru _) fun h' eb=>hQ h' s.toks fun b ob hb e=>eb b ob (fun z=>hb (by simp[z])) e
 self:=fun i s Q E st hQ=>wpAny_pyIter_keyiter st.1 hQ
theorem ahB{P:Program}{w:World}{l:Addr}{o:Obj}{xs:List mX}(n:lC w l o xs):PySem.W.KdlSrc P w "dict" l l xs.length (fun i v=>∃e,xs[i]?=some e/\v=Value.ref e.2.1) (fun h=>h.get? l=some o) where
 type:=fun s e=>⟨o,e,n.ex.1⟩
 there:=fun h e=>⟨Heap.lt_size e,Heap.lt_size e⟩
 keep:=fun h h' e k=>k l (.inl rfl) o e
 notList:=by decide
 notTuple:=by decide
 hint:=fun A E s Q e hq=>PySem.W.kdl_hint_dict ⟨o,e,n.ex.1⟩ hq
 iter:=fun A s hh e=>by
  obtain⟨es,ep,hd,_⟩:=n.ent
  refine⟨_,_,fun E Q hq=>iter_keys n.sys e n.ex hd hq,af3 hh (arF (Heap.lt_size e)) n hd,⟨_,Heap.get?_push_size _ rfl,rfl,?_⟩,Heap.get?_push_of_some _ e⟩
  rw[(n.at hd).1] <;> rfl
def ady(X:Cx):List V->Hp->VK->Prop:=fun xs H Q=>(∃p kvs,xs=[.ref p]/\H p=some (.dK kvs)/\∀q,H q=none->Q (.ref q) (upd H q (.lst (kvs.map fun kv=>kV kv.1))))∨∃p o es,xs=[.ref p]/\H p=some (iQ p o)/\lC X.w p o es/\∀q,H q=none->Q (.ref q) (upd H q (.lst (es.map fun e=>V.ref e.2.1)))
theorem acg{X:Cx}(hc:X.calm=true):CallR X (.type "list") (ady X):=by
 intro pins s σ H xs us Q I r h
 rcases h with h|⟨p,o,es,rfl,hp,n,q⟩
 ·exact call_list_dK hc pins s σ H xs us Q I r h
 ·obtain⟨u,rfl,rx⟩:=vals1 r
  obtain rfl:u=Value.ref p:=rx
  refine PySem.W.kdl_call (ahB n) (I.ok.hd hc) (pin_at I hp) n.len ?_
  intro h' tk acc c' keep hS hacc
  have el:acc.toList.length=es.length:=by
   rw[arH]
   exact hacc.1
  refine⟨.ref s.heap.objs.size,upd H s.heap.objs.size (.lst (es.map fun e=>V.ref e.2.1)),I.laid keep (aru _) (show ObjOk X.prog X.w _ _ _ (.lst (es.map fun e=>V.ref e.2.1)) from⟨by rw[aq9];exact n.len,acc.toList,c',?_,?_⟩),rfl,q _ (I.hok.fresh (aru _))⟩
  ·refine vals_of_at (by rw[aq9,el]) fun j x w h1 h2=>?_
   obtain⟨e,he,rfl⟩:=hacc.2 j w (by rw[←arS];exact h2)
   rw[ard,he]at h1
   cases h1
   rfl
  ·rw[Array.toArray_toList]
   exact hS
section
variable{X:Cx}{aj:aQ}{W:WX}{o e:Expr}{f:Str}{pos p p1 pos':Pos}{fo:QF}
theorem Zt{K:aqZ}{g:Gh}{H:Hp}:∀{kv:List (Key×V)} {kvs:List (Dat×Dat)},kvs.map (·.1)=kv.map (fun p=>keyD p.1)->aM K g H (kv.map fun p=>kV p.1) (kvs.map (·.1))
 |[],[],_=>.nil
 |[],_::_,h=>by cases h
 |_::_,[],h=>by cases h
 |a::kv,b::kvs,h=>by
  simp only[aq3,List.cons.injEq]at h
  rw[aq3,aq3,h.1]
  refine .cons ?_ (Zt h.2)
  cases a.1 with
  |inl i=>exact .int i
  |inr x=>exact .str x
theorem aeW(co:jG X.K aj)(hw:aj.w=X.w)(σ:L2.St)(H:Hp)(Q:VK)(h:tQ X.K aj W (Cy f fo) σ H Q):tFld X.K (tW X.K aj W fo) f σ H fun x H1=>ady X [x] H1 Q:=by
 obtain⟨g,ρ,M,J,h⟩:=h
 unfold Cy at h
 refine tW.go J h.bnd fun od u H1 k2 e1 ru=>?_
 have J1:=J.ex e1
 split at k2
 ·next h i b kvs hl=>
  obtain⟨a,C,dx,fs,l,rfl,m1,m2,ml,ha,rfl,c1,c2,c3,c4,c5,c6,l1,l2,l3⟩:=FJ co J1.wok ru hl
  refine⟨a,C,dx,fs,.ref l,rfl,c2,c4,c5,l1,?_⟩
  cases b with
  |false=>
   obtain⟨kv,q1,q2,q3⟩:=l3
   exact .inl ⟨l,kv,rfl,q1,fun q nq=>k2 (.ref q) _ (e1.trans (Ex.new nq)) (.lst (.inl ⟨.inl upd_same,J1.kd.fresh nq⟩) (Zt q2))⟩
  |true=>
   obtain⟨o',xs,vs,q1,q2,q3,q4,q5,q6⟩:=l3
   rw[hw]at q2
   exact .inr ⟨l,o',xs,rfl,q1,q2,fun q nq=>k2 (.ref q) _ (e1.trans (Ex.new nq)) (.lst (.inl ⟨.inl upd_same,J1.kd.fresh nq⟩) (q4.ex (Ex.new nq) J1.kd))⟩
 ·exact False.elim k2
theorem ae6(co:jG X.K aj)(hw:aj.w=X.w)(hc:X.calm=true)(hg:Gl X "list")(hm:X.mg "list"=none)(ho:QW aj X W o fo)(hb:baseOk o=true):QE aj X W (.Call (.Name "list" p) [.Attribute o f p1] [] pos) (Cy f fo):=by
 have h1:=pa_cons (pe_fld (X:=X) (pos:=p1) (f:=f) ho (mU hb)) pa_nil (cH rfl [])
 have hv:BV (.type "list") "list":=⟨by decide +kernel,by decide,by decide⟩
 refine PE.weak (pe_callTy (pos:=pos) (p:=p) (acg hc) hg hm hv.1 h1 hv.2.1 hv.2.2 (cH rfl []) (by with_unfolding_all rfl)) fun σ H Q h=>?_
 exact aeW co hw σ H Q h
def Nm(ft:Ft)(o:QF)(f:Str)(b:Bool):SF:=fun M ρ=>((o (M++[⟨"",[]⟩]) ρ).at (M++[⟨"",[]⟩])).then ρ fun od M2=>match j7 M2 od with
 |some (h,i)=>match ft.has i.cls f&&decide (i.fs.length < 100) with
  |true=>.next ρ (M2.set h (i.put f (.dic b [])))
  |false=>.bad
 |none=>.bad
def aml(X:Cx)(b:Bool):TE:=fun _ H Q=>∀p,H p=none->match b with
 |false=>Q (.ref p) (upd H p (.dK []))
 |true=>∀o,lC X.w p o []->Q (.ref p) (upd H p (iQ p o))
theorem ah3{b:Bool}:PE X (.Dict [] [] pos) (aml X b):=by
 cases b with
 |false=>exact PE.weak pe_dnewK fun σ H Q h p np=>h p np
 |true=>
  refine⟨fun pins s σ H Q I h=>wpAny_Dict_empty ?_⟩
  have hz:(s.heap.push { cls:=.type "dict",data:=.dict #[] }).get? s.heap.objs.size=some { cls:=.type "dict",data:=.dict #[] }:=Heap.get?_push_size _ rfl
  have hs:(s.heap.objs.size==sysModules)=false:=beq_eq_false_iff_ne.mpr (Ne.symm (arF I.big))
  exact⟨.ref s.heap.objs.size,_,I.laid (a:=s.heap.objs.size) (o:=iQ s.heap.objs.size _) (t':=s.toks) (fun _ _ q=>Heap.get?_push_of_some _ q) (aru _) (Km hz),rfl,h _ (I.hok.fresh (aru _)) _ ⟨hs,⟨rfl,rfl,rfl⟩,⟨#[],0,rfl,rfl⟩,asp,arO _,fun x hx=>absurd hx arD⟩⟩
theorem ahi{ft:Ft}{b:Bool}(co:jG X.K aj)(fk:KH ft aj)(hw:aj.w=X.w)(ho:QW aj X W o fo)(hs:swapsWith (.Dict [] [] p) (some (.Attribute o f pos')) pos.line X.env=pure false):SE aj X W false (.Assign [.Attribute o f pos'] (.Dict [] [] p) pos) (Nm ft fo f b):=by
 refine PS.weak (ps_fld ho (ah3 (b:=b)) hs) fun D σ H ⟨g,ρ,M,I,z⟩=>?_
 have core:∀(l:Addr) (ob:HO),H l=none->Jy ob->(∀(g':Gh) (H':Hp),H' l=some ob->jC X.K aj g' H' l b [])->tW X.K aj W fo σ (upd H l ob) (fun x H2=>∃a C dx fs,x=.ref a/\H2 a=some (.ins C dx fs)/\Cls X.K C/\NoAttr X.K C f/\fs.length < 1000/\D.nx σ (upd H2 a (.ins C dx (putF f (.ref l) fs)))):=by
  intro l ob nl mu at'
  obtain⟨gr,I1,tb,ow,mm⟩:=K9 I nl (Ex.new nl) upd_same mu
  unfold Nm at z
  have k1:=Out.jm (dD (σ:=σ) z)
  refine tW.go I1 (k1.mono (fun _ y=>y) fun x y H' c dd ex rx=>y H' _ c dd (gr.trans (Gr.ex ex)) (I1.ex ex) rx) fun od u H2 k2 e2 ru=>?_
  have I2:=I1.ex e2
  split at k2
  ·next h i hi=>
   split at k2
   ·next hb=>
    rw[aq0]at hb
    obtain⟨a,C,dx,fs,_,m1,m2,ha,rfl,c1,c2,c3,c4,c5,c6⟩:=Gy co fk I2.wok ru hi hb.1
    have nla:l≠a:=fun z=>by
     subst z
     cases I2.wok.inj _ _ _ ha tb
     rw[mm]at m1
     cases m1
     exact m2 rfl
    refine⟨a,C,dx,fs,rfl,c2,c4,c5,?_,?_⟩
    ·have:=of_decide_eq_true hb.2
     rw[c3.len]
     omega
    ·have ch:=Uz (f:=f) (C:=C) (dx:=dx) (fs':=putF f (.ref l) fs) I2.kd I2.wok ha m1 m2 tb mm ow
     have w':=I2.wok.chg I2.kd ch ha m1 m2 c6 c1 c3 upd_same (v:=.ref l) (fl:=.dic b []) ⟨l,rfl,if_pos rfl,at' _ _ (by rw[upd_ne nla];exact e2 _ _ upd_same)⟩
     exact k2 σ _ _ ((gr.trans (Gr.ex e2)).trans ch.gc.gr) (I2.chg ch w')
   ·exact False.elim k2
  ·exact False.elim k2
 intro l nl
 cases b with
 |false=>exact core l _ nl trivial fun g' H' h=>⟨[],h,rfl,.nil⟩
 |true=>exact fun ob nd=>core l _ nl trivial fun g' H' h=>⟨ob,[],[],h,by rw[hw];exact nd,rfl,.nil,.nil,.nil⟩
end
def ajK(X:Cx)(D:Addr)(vs:List Nat)(g:TG)(tk:TE)(σ:L2.St)(Nx:Hp->Prop)(x:V)(H:Hp):Prop:=
 g x (L2.wipe σ vs) H fun σ2 H2=>L2.wipe σ2 vs=L2.wipe σ vs/\tk σ2 H2 fun y H4=>∃(o:Obj) (xs:List mX) (gg:Gh) (d:Dat) (b:Addr) (k:NestedKey),y=.ref b/\H4 D=some (iQ D o)/\lC X.w D o xs/\aM X.K gg H4 (xs.map fun x=>V.ref x.2.1) (xs.map fun x=>x.1.data)/\Rep X.K gg H4 y d/\uG d=some k/\k.depth<=8/\xs.length < sizeLine/\
  ∀o',lC X.w D o' (storedH xs k b (.bool true))->Nx (upd H4 D (iQ D o'))
def aiz(X:Cx)(wi:TI)(g:TG)(tk:TE)(vs:List Nat):TE:=fun σ H Q=>wi σ H fun J H1=>∀D,H1 D=none->∃W:Nat->Nat->Hp->Prop,(∃m,∀o,lC X.w D o []->W 0 m (upd H1 D (iQ D o)))/\
 ∀i m H,W i m H->(J.stop i H/\Q (.ref D) H)∨(J.go i H/\∃Nx:Hp->Prop,(∀H',Nx H'->∃m',m' < m/\W (i+1) m' H')/\∀x H',J.yld i H x H'->ajK X D vs g tk σ Nx x H')
section
variable{X:Cx}
theorem afM{pins:List (Addr×Obj)}{σ:L2.St}{H:Hp}{s:Shared}{E:Value->Shared->Prop}{D b:Addr}{o:Obj}{xs:List mX}{gg:Gh}{d:Dat}{k:NestedKey}{u:Value}{Q:Unit->Shared->Prop}(hu:X.A.units+64 < cLine)(I:L2.Inv X pins σ H s)(hD:H D=some (iQ D o))(n:lC X.w D o xs)(hr:aM X.K gg H (xs.map fun x=>V.ref x.2.1) (xs.map fun x=>x.1.data))(hk:Rep X.K gg H (.ref b) d)(hd:uG d=some k)(h8:k.depth<=8)(hz:xs.length < sizeLine)(ru:RelV (.bl true) u)
  (q:∀s' o',lC X.w D o' (storedH xs k b (.bool true))->L2.Inv X pins σ (upd H D (iQ D o')) s'->Q () s'):wpAny (model X.prog X.w) X.A (dictSet D (.ref b) u) Q E s:=by
 obtain rfl:u=.bool true:=ru
 refine wpAny_dictSet_heap (knd:=nestedKind X.prog X.w) (k:=k) (hsz:=Nat.le_of_lt hz) (show X.A.units+8 < cLine by omega) ⟨key_is I hk hd rfl,h8⟩ (Gk I hD n rfl hr) ?_
 intro h' dd hs'
 obtain⟨o',es,ep,g1,g2,g3,g4,g5,g6⟩:=dd
 have nd:lC X.w D o' (storedH xs k b (.bool true)):=⟨n.sys,g2,⟨es,ep,g3,g4⟩,g6,by have:=Rr (xs:=xs) (k:=k) (b:=b) (u:=.bool true);omega,R3 n.dep h8⟩
 exact q _ o' nd (d_write I (by rw[hD];exact True.intro) hs' ⟨o',g1⟩ (Km g1))
theorem aiO{kx tg iter:Expr}{scope:Scope}{own:List (PySem.Str×Nat)}{pos vp:Pos}{vj:Nat}{wi:TI}{g:TG}{tk:TE}(hc:X.calm=true)(hN:X.N.Nodup)(hu:X.A.units+64 < cLine)(hi:PI X tg iter wi)(ok:BlkOk X.N X.env.scope scope own)
  (hg:∀(t:Shared) (G:Hp) (C:Addr) (cl:List (PySem.Str×Addr)) (fp:List Addr),PG (X.blk t G scope (compEnvC scope cl C X.env) fp) tg g)
  (hk:∀(t:Shared) (G:Hp) (C:Addr) (cl:List (PySem.Str×Addr)) (fp:List Addr),PE (X.blk t G scope (compEnvC scope cl C X.env) fp) kx tk) (hs:∀x,foldedSetIterable iter X.env x=pure x) :
  PE X (.DictComp kx (.Constant (.bool true) vj vp) [⟨tg,iter,[],0⟩] scope pos) (aiz X wi g tk (own.map (·.2))):=by
 refine⟨fun pins s σ H Q I h=>?_⟩
 rw[arm_eval_DictComp]
 have cells:∀y∈scope.names,y.2=.free->∃c,X.env.cells.lookup y.1=some c:=fun y hy e=>(ok.free y hy e).elim (fun k=>I.ok.has _ (.inl k)) (fun k=>I.ok.has _ (.inr k))
 refine wpAny_comprehension_free rfl hs (closure_ok cells) ok.kind (fun y hy e=>by rw[ok.uniq y hy,e]) (thn (hi.run pins s σ H _ I h) fun _ _ hx=>thn hx fun itv t0 h0=>?_)
 obtain⟨it,fp,tn,J,G0,rfl,I0,T,st0,f0,q⟩:=h0
 refine wpAny_newObj_type (newEnv_comp ?_)
 -- the new dict,at D
 obtain⟨D,hD⟩:∃D,D=t0.heap.objs.size:=⟨_,rfl⟩
 rw[←hD]
 obtain⟨W,⟨m0,w00⟩,turn⟩:=q D (I0.hok.fresh (Nat.le_of_eq hD.symm))
 obtain⟨ob,hob⟩:∃ob:Obj,ob={ cls:=.type "dict",data:=.dict #[] }:=⟨_,rfl⟩
 have nd0:lC X.w D ob []:=by
  rw[hob]
  exact⟨by rw[hD];exact beq_eq_false_iff_ne.mpr (Ne.symm (arF I0.big)),⟨rfl,rfl,rfl⟩,⟨#[],0,rfl,rfl⟩,asp,arO _,fun x hx=>absurd hx arD⟩
 have w0:=w00 ob nd0
 rw[←hob]
 obtain⟨t1,ht1⟩:∃t1:Shared,t1={ t0 with heap:=t0.heap.push ob }:=⟨_,rfl⟩
 obtain⟨G1,hG1⟩:∃G1,G1=upd G0 D (iQ D ob):=⟨_,rfl⟩
 rw[←hG1]at w0
 have grow:∀b o,t0.heap.get? b=some o->t1.heap.get? b=some o:=fun b o e=>by rw[ht1];exact Heap.get?_push_of_some _ e
 have I1:L2.Inv X pins σ G1 t1:=by
  rw[ht1,hG1]
  refine I0.laid (t':=t0.toks) (fun b o e=>Heap.get?_push_of_some _ e) (Nat.le_of_eq hD.symm) (Km ?_)
  rw[hD]
  exact Heap.get?_push_size _ (by rw[hob];rfl)
 have small:∀b∈fp,b < t0.heap.objs.size:=fun b hb=>by
  obtain⟨o,e,_⟩:=T.obj _ _ st0 b hb
  exact Heap.lt_size e
 have f1:∀b∈fp,FpOk X pins G1 b/\b < t1.heap.objs.size:=fun b hb=>by
  have hlt:=small b hb
  refine⟨⟨?_,(f0 b hb).2⟩,by rw[ht1];show b < (t0.heap.push ob).objs.size;rw[Heap.size_push];exact ar3 hlt⟩
  rw[hG1,upd_ne (by rw[hD];exact arF hlt)]
  exact(f0 b hb).1
 have st1:tn 0 t1.heap:=T.keep _ _ _ st0 fun b _ o e=>grow b o e
 have I2:=block_start I1 ok hN f1
 have pg:=hg t1 G1 t1.heap.objs.size (cellsFrom (t1.heap.objs.size+1) scope.names (cloFrom X.env.cells scope.names [])) fp
 have pk:=hk t1 G1 t1.heap.objs.size (cellsFrom (t1.heap.objs.size+1) scope.names (cloFrom X.env.cells scope.names [])) fp
 have none1:∀b∈fp,G1 b=none:=fun b hb=>(f1 b hb).1.1
 rw[show({ t0 with heap:=t0.heap.push ob }:Shared)=t1 from ht1.symm]
 obtain⟨ce,hce⟩:∃ce,ce=compEnvC scope (cellsFrom (t1.heap.objs.size+1) scope.names (cloFrom X.env.cells scope.names [])) t1.heap.objs.size X.env:=⟨_,rfl⟩
 rw[←hce]at I2 pg pk
 have cL:ce.locals=t1.heap.objs.size:=by rw[hce];rfl
 obtain⟨t2,ht2⟩:∃t2:Shared,t2={ t1 with heap:=pushCells (t1.heap.push { cls:=.type "dict",data:=.dict #[] }) scope.names }:=⟨_,rfl⟩
 rw[←ht2]at I2
 have st2:tn 0 t2.heap:=T.keep _ _ _ st1 fun b _ o e=>by rw[ht2];exact pushCells_keeps _ _ _ _ (Heap.get?_push_of_some _ e)
 have still:∀{σ':L2.St} {G':Hp} {t':Shared},L2.Inv (X.blk t1 G1 scope ce fp) [] σ' G' t'->(∀b∈fp,G' b=none)->∀b∈fp,FpOk (X.blk t1 G1 scope ce fp) [] G' b:=fun I' hn b hb=>
  ⟨hn b hb,(I'.ok.exf b hb).1,I'.ok.exfs b hb,.inl hb,fun x c e=>(I'.ok.exf b hb).2 x c e,fun p hp=>absurd (show p∈([]:List (Addr×Obj))++[] from hp) (by simp)⟩
 have pt:PTs (X.blk t1 G1 scope ce fp) [] tYes:=pts_nil
 have pv:PE (X.blk t1 G1 scope ce fp) (.Constant (.bool true) vj vp) (tC (.bl true)):=pe_bl
 have loop:codeAny (model X.prog X.w) X.A (.compLoop (.DictComp kx (.Constant (.bool true) vj vp) [⟨tg,iter,[],0⟩] scope pos) 0 (.ref it) (.ref D) ce) (compPost (model X.prog X.w) X.A X.xe none (EP X pins σ Q) (.ref D) t1.heap.objs.size) t2:=by
  refine compLoop_anyD (fun n t'=>∃i G',L2.Inv (X.blk t1 G1 scope ce fp) [] (L2.wipe σ (own.map (·.2))) G' t'/\tn i t'.heap/\(∀b∈fp,G' b=none)/\W i n G') ?_ m0 ⟨0,G1,I2,st2,none1,w0⟩
  rintro n t3 ⟨i,G3,I3,st3,n3,w3⟩
  rcases turn i n G3 w3 with⟨stop,fin⟩|⟨go,Nx,hNx,step⟩
  ·refine thnF (T.done (X.blk t1 G1 scope ce fp) rfl rfl rfl hc i [] t3 _ G3 (fun _ _=>False) I3 (still I3 n3) st3 stop) fun r t4 ⟨hr,I4⟩=>?_
   subst hr
   have I5:L2.Inv X pins σ G3 t4:=I1.call' (ch:=fp) I4.os I4.base I4.hok I4.bare fun b hb=>⟨(f1 b hb).1.2.2.2.1,(f1 b hb).1.2.1,(f1 b hb).1.2.2.2.2.1,(f1 b hb).1.2.2.2.2.2⟩
   have nC:G3 t1.heap.objs.size=none:=by rw[←cL];exact I4.free
   obtain⟨m,hn,_⟩:=I4.loc
   have hn':t4.heap.Ns t1.heap.objs.size m:=by rw[←cL];exact hn
   obtain⟨a0,a1,_,a3,a4,a5⟩:=I1.fpOk (aru _) nC
   exact⟨m,hn',fun h'' sb=>⟨.ref D,G3,I5.turned (t':=t4.toks) (fun b o hb e=>(sb.2 b hb).trans e) a0 a1 a3 a4 a5,rfl,fin⟩⟩
  ·refine thnF (T.item (X.blk t1 G1 scope ce fp) rfl rfl rfl hc i [] t3 _ G3 (fun _ _=>False) I3 (still I3 n3) st3 go) fun r t4 ⟨u,hr,h4⟩=>?_
   subst hr
   refine thnF h4 fun _ t5 ⟨x,G5,I5,r5,y5,st5,n5⟩=>?_
   refine thnF (pg.run _ t5 _ G5 x u _ (I5.pinned (still I5 n5) (T.obj _ _ st5)) r5 (step x G5 y5)) fun _ t6 ⟨σ6,G6,I6,hw6,q6⟩=>?_
   refine thnF (pt.run _ t6 σ6 G6 (fun b G=>b=true/\G=G6) I6 ⟨rfl,rfl⟩) fun b t7 ⟨G7,I7,hb7,hG7⟩=>?_
   subst hb7 hG7
   have over:∀{t':Shared} {G':Hp},L2.Inv (X.blk t1 G1 scope ce fp) ([]++pinsAt fp t5.heap) σ6 G' t'->Nx G'->∃m,m < n/\∃i G',L2.Inv (X.blk t1 G1 scope ce fp) [] (L2.wipe σ (own.map (·.2))) G' t'/\tn i t'.heap/\(∀b∈fp,G' b=none)/\W i m G':=fun {t' G'} I' nx=>by
    obtain⟨m',hm,w'⟩:=hNx G' nx
    have pin:∀b∈fp,∀o,t5.heap.get? b=some o->t'.heap.get? b=some o/\G' b=none:=fun b hb o e=>
     let z:=I'.pin (b,o) (arL _ (arL _ (mem_pinsAt hb e)))
     ⟨z.1,z.2.1⟩
    refine⟨m',hm,i+1,G',(I'.unpinned (pins:=[])).weak (by rw[←hw6,wipe_length]) (fun j v e=>?_),T.keep _ _ _ st5 fun b hb o e=>(pin b hb o e).1,fun b hb=>?_,w'⟩
    ·rw[←hw6]at e
     exact(wipe_some e).1
    ·obtain⟨o,e,_⟩:=T.obj _ _ st5 b hb
     exact(pin b hb o e).2
   simp only[if_true]
   refine thnF (pk.run _ t7 σ6 _ _ I7 q6) fun z t8 ⟨yv,G8,I8,r8,o8,xs8,g8,d8,b8,k8,ey,hD8,n8,hr8,hk8,hd8,h88,hz8,nx⟩=>?_
   subst ey
   obtain rfl:z=Value.ref b8:=r8
   refine thnF (pv.run _ t8 σ6 G8 (fun v G=>v=.bl true/\G=G8) I8 ⟨rfl,rfl⟩) fun z2 t9 ⟨y9,G9,I9,r9,hv9,hG9⟩=>?_
   subst hv9 hG9
   exact afM (X:=X.blk t1 G1 scope ce fp) hu I9 hD8 n8 hr8 hk8 hd8 h88 hz8 r9 fun s' o' nd I10=>over I10 (nx o' nd)
 have done:=codeAny_compStart_dict loop (T.self X.A 0 _ _ _ st2 loop)
 rw[hce,ht2]at done
 subst hob
 exact done
end
def Ek(tg:fK)(tk:QF)(M:Mo)(ρ:Env):List Dat->List (Dat×Dat)->Out (List (Dat×Dat))
 |[],acc=>.ok acc
 |d::ds,acc=>match tg d ρ with
  |none=>.bad
  |some ρ1=>(wZ (tk M ρ1)).bind fun kd=>(dhas true acc kd).bind fun r=>Ek tg tk M ρ ds (match r with
   |true=>acc
   |false=>acc++[(kd,.bool true)])
def qDc(it:IF)(tg:fK)(vs:List Nat)(tk:QF):Mo->Env->Out (List (Dat×Dat)):=fun M ρ=>(it M ρ).bind fun ds=>Out.when (decide (ds.length<=50000)) (Ek tg tk M (bT ρ vs) ds [])
def akK(K:aqZ)(aj:aQ)(W:WX)(f:Mo->Env->Out (List (Dat×Dat))):TE:=fun σ H Q=>∃g ρ M,SInv K aj σ H g ρ M/\(f M ρ).sat (fun kvs=>∀l o H',H l=none->Ex H H'->H' l=some (iQ l o)->jC K aj (g.add l) H' l true kvs->Q (.ref l) H') (qG K aj W g H σ)
section
variable{X:Cx}{aj:aQ}{W:WX}
theorem V8{tg:fK}{tk:QF}{M:Mo}{ρ:Env}:∀{ds:List Dat} {acc:List (Dat×Dat)} {x:dU},Ek tg tk M ρ ds acc≠.exc x
 |[],_,_,h=>nomatch h
 |d::ds,acc,x,h=>by
  rw[Ek]at h
  split at h
  ·cases h
  ·next ρ1 e=>
   cases h1:tk M ρ1 with
   |bad=>rw[h1]at h;cases h
   |exc y=>rw[h1]at h;cases h
   |ok kd=>
    rw[h1]at h
    have h:((dhas true acc kd).bind fun r=>Ek tg tk M ρ ds (match r with
     |true=>acc
     |false=>acc++[(kd,.bool true)]))=.exc x:=h
    cases h2:dhas true acc kd with
    |bad=>rw[h2]at h;cases h
    |exc y=>
     unfold dhas at h2
     split at h2
     ·cases h2
     ·split at h2
      ·split at h2 <;> cases h2
      ·cases h2
     ·cases h2
    |ok r=>
     rw[h2]at h
     exact V8 h
theorem ae5{xs:List mX}{k:NestedKey}(h:∀x∈xs,x.2.2=.bool true):xs.map (putAt k (.bool true))=xs:=by
 have:∀x∈xs,putAt k (.bool true) x=x:=fun x hx=>by
  unfold putAt
  split
  ·obtain⟨a,b,c⟩:=x
   have:c=.bool true:=h _ hx
   rw[this]
  ·rfl
 calc xs.map (putAt k (.bool true))=xs.map id:=List.map_congr_left this
  _=xs:=List.map_id xs
theorem abr:∀{xs:List mX},(∀x∈xs,x.2.2=.bool true)->Vals (List.replicate xs.length (.bl true)) (xs.map (·.2.2))
 |[],_=>.nil
 |x::xs,h=>by
  rw[ari,List.replicate_succ,aq3,h x aq4]
  exact .cons rfl (abr fun y hy=>h y (aq5 _ hy))
theorem aaS{K:aqZ}{g:Gh}{H:Hp}:∀{kvs:List (Dat×Dat)} {n:Nat},n=kvs.length->(∀p∈kvs,p.2=.bool true)->aM K g H (List.replicate n (.bl true)) (kvs.map (·.2))
 |[],_,h,_=>by subst h;exact .nil
 |p::kvs,_,e,h=>by
  subst e
  rw[ari,List.replicate_succ,aq3,h p aq4]
  exact .cons (.bl true) (aaS rfl fun y hy=>h y (aq5 _ hy))
theorem alJ{it:IF}{tg:fK}{js vs:List Nat}{tk:QF}(hw:aj.w=X.w)(hj:∀j∈js,j∈vs)(σ:L2.St)(H:Hp)(Q:VK)(h:akK X.K aj W (qDc it tg vs tk) σ H Q) :
  aiz X (tI X.K aj W false it) (xO X.K aj js tg) (tQ X.K aj WF tk) vs σ H Q:=by
 obtain⟨g,ρ,M,I,h⟩:=h
 refine⟨g,ρ,M,I,h.bnd.mono (fun ds hk J C H1 e1 w c _ D nD=>?_) fun _ z=>z⟩
 obtain⟨hz,hk⟩:=hk.pJ
 have hlen:=of_decide_eq_true hz
 obtain⟨total,htot,hQ⟩:∃total,Ek tg tk M (bT ρ vs) ds []=.ok total/\∀l o H',H l=none->Ex H H'->H' l=some (iQ l o)->jC X.K aj (g.add l) H' l true total->Q (.ref l) H':=by
  cases hc:Ek tg tk M (bT ρ vs) ds [] with
  |bad=>rw[hc]at hk;exact False.elim hk
  |exc x=>exact absurd hc V8
  |ok total=>
   rw[hc]at hk
   exact⟨total,rfl,hk⟩
 have I1:=(I.ex e1).wipe vs
 have kD:∀{Ha:Hp} {o:Obj},Ex H1 Ha->Ha D=some (iQ D o)->SInv X.K aj (L2.wipe σ vs) Ha (g.add D) (bT ρ vs) M:=fun ea hu=>I1.add nD ea hu trivial
 let Pv:Nat->Hp->Prop:=fun i Ha=>Ex H1 Ha/\i<=ds.length/\∃o xs acc,Ha D=some (iQ D o)/\lC X.w D o xs/\acc.map (·.1)=xs.map (fun x=>x.1.data)/\aM X.K (g.add D) Ha (xs.map fun x=>V.ref x.2.1) (acc.map (·.1))/\(∀x∈xs,x.2.2=.bool true)/\(∀p∈acc,p.2=.bool true)/\acc.length<=i/\Ek tg tk M (bT ρ vs) (ds.drop i) acc=.ok total
 refine⟨fun i m Ha=>m=ds.length - i/\Pv i Ha,⟨ds.length,fun o n0=>⟨rfl,Ex.new nD,arO _,o,[],[],upd_same,n0,rfl,.nil,fun x hx=>absurd hx arD,fun x hx=>absurd hx arD,aru _,by rw[asq];exact htot⟩⟩,?_⟩
 rintro i m Ha ⟨rfl,ea,hi,o,xs,acc,hu,nd,hK,hR,hT,hA,hy,hs⟩
 have Ia:=kD ea hu
 have Ca:=w.add g (g.add D) H1 Ha (I.kd.ex e1) c (Gh.CN nD ea) ea
 have lxs:xs.length=acc.length:=by
  have:=congrArg List.length hK
  simpa using this.symm
 by_cases hlt:i < ds.length
 ·refine .inr ⟨w.go _ i Ha Ca hlt,Pv (i+1),fun H' p=>⟨ds.length - (i+1),by omega,rfl,p⟩,fun x H' y=>?_⟩
  have hd:ds[i]?=some ds[i]:=aq2 hlt
  obtain⟨e2,rx⟩:=w.yld _ i Ha x H' _ Ia.kd Ca hd y
  have I2:=Ia.ex e2
  rw[arR hlt,Ek]at hs
  split at hs
  ·cases hs
  ·next ρ1 he=>
   refine⟨g.add D,_,M,_,ρ1,I2,rx,he,fun ws I3=>⟨wN js ws _ vs hj |>.trans (Ae σ vs),?_⟩⟩
   cases htk:tk M ρ1 with
   |bad=>rw[htk]at hs;cases hs
   |exc z=>rw[htk]at hs;cases hs
   |ok kd=>
    rw[htk]at hs
    have hs:((dhas true acc kd).bind fun r=>Ek tg tk M (bT ρ vs) (ds.drop (i+1)) (match r with
     |true=>acc
     |false=>acc++[(kd,.bool true)]))=.ok total:=hs
    refine⟨g.add D,ρ1,M,I3,?_⟩
    rw[htk]
    intro v H4 e4 ry
    have I4:=I3.ex e4
    have hu4:=e4 _ _ (e2 _ _ hu)
    have hR4:=(hR.ex e2 Ia.kd).ex e4 I2.kd
    cases hh:dhas true acc kd with
    |bad=>rw[hh]at hs;cases hs
    |exc z=>rw[hh]at hs;cases hs
    |ok r=>
     rw[hh]at hs
     obtain⟨ha2,hcase⟩:=Us hh
     rcases hcase with⟨z,_⟩|⟨_,dd,kk,rfl,hkk,hdep⟩
     ·cases z
     ·have ek:=Ad hkk
      rw[←ek,Ip hK]at ha2
      have hRx:=hR4
      rw[hK]at hRx
      cases ry with
      | @tup bb us _ hs' ht=>
       refine⟨o,xs,g.add D,_,bb,kk,rfl,hu4,nd,hRx,.tup hs' ht,hkk,hdep,sz_lt (by omega),fun o' nd'=>?_⟩
       have eD:Ex H1 (upd H4 D (iQ D o')):=Ex.mut ((ea.trans e2).trans e4) nD
       have lD:(g.add D).Lo D:=.inr rfl
       have up:Gr true (g.add D) (g.add D) H4 (upd H4 D (iQ D o')):=Gr.upd I4.kd hu4 (.inr lD)
       cases r with
       |true=>
        obtain⟨q,hq⟩:=Option.isSome_iff_exists.mp ha2
        rw[storedH_old hq,ae5 hT]at nd'
        exact⟨eD,hlt,o',xs,acc,upd_same,nd',hK,hR4.gr up I4.kd,hT,hA,by omega,hs⟩
       |false=>
        have hn:atKey xs kk=none:=by
         cases hv:atKey xs kk with
         |none=>rfl
         |some _=>rw[hv]at ha2;cases ha2
        rw[storedH_new hn]at nd'
        have hs:Ek tg tk M (bT ρ vs) (ds.drop (i+1)) (acc++[(.tuple dd,.bool true)])=.ok total:=hs
        refine⟨eD,hlt,o',xs++[(kk,bb,.bool true)],acc++[(.tuple dd,.bool true)],upd_same,nd',by simp[hK,ek],?_,?_,?_,by simp;omega,hs⟩
        ·rw[arG,arG]
         exact(hR4.gr up I4.kd).back ((Rep.tup hs' ht).gr up I4.kd)
        ·intro x hx
         rcases arb.mp hx with z|z
         ·exact hT x z
         ·rw[aq7.mp z]
        ·intro x hx
         rcases arb.mp hx with z|z
         ·exact hA x z
         ·rw[aq7.mp z]
 ·have e:i=ds.length:=by omega
  refine .inl ⟨w.stop _ i Ha Ca e,?_⟩
  rw[e,arY]at hs
  cases hs
  exact hQ D o Ha (Dh e1 D nD) (e1.trans ea) hu ⟨o,xs,List.replicate xs.length (.bl true),hu,by rw[hw];exact nd,hK,hR,abr hT,aaS lxs hA⟩
def Qy(ft:Ft)(o:QF)(f:Str)(e:Mo->Env->Out (List (Dat×Dat))):SF:=fun M ρ=>((e M ρ).at M).then ρ fun kvs _=>((o (M++[⟨"",[]⟩]) ρ).at (M++[⟨"",[]⟩])).then ρ fun od M2=>match j7 M2 od with
 |some (h,i)=>match ft.has i.cls f&&decide (i.fs.length < 100) with
  |true=>.next ρ (M2.set h (i.put f (.dic true kvs)))
  |false=>.bad
 |none=>.bad
end
theorem Y7{K:aqZ}{g:Gh}{H:Hp}{l:Addr}{vs:List V}{ds:List Dat}(h:aM K (g.add l) H vs ds):aM K (g.push l) H vs ds:=aM.mv (g:=g.add l) (g':=g.push l) (fun h a z=>by
  have z:g.tbl[h]?=some a:=z
  show(g.tbl++[l])[h]?=some a
  rw[ara (aq1.mp z).1]
  exact z) (fun a z=>by
  rcases Ys z with z|rfl
  ·rcases z with z|z|z
   ·exact .inl z
   ·exact .inr (.inl z)
   ·exact .inr (.inr (show g.Lo a∨a=l from Or.inl z))
  ·exact .inr (.inr (show g.Lo a∨a=a from Or.inr rfl))) h
section
variable{X:Cx}{aj:aQ}{W:WX}{o e:Expr}{f:Str}{pos pos':Pos}{ft:Ft}{fo:QF}
theorem aht{fe:Mo->Env->Out (List (Dat×Dat))}{te:TE}(co:jG X.K aj)(fk:KH ft aj)(ho:QW aj X W o fo)(he:PE X e te)(hte:∀σ H Q,akK X.K aj W fe σ H Q->te σ H Q)(hs:swapsWith e (some (.Attribute o f pos')) pos.line X.env=pure false):SE aj X W false (.Assign [.Attribute o f pos'] e pos) (Qy ft fo f fe):=by
 refine PS.weak (ps_fld ho he hs) fun D σ H ⟨g,ρ,M,I,z⟩=>hte σ H _ ⟨g,ρ,M,I,?_⟩
 unfold Qy at z
 cases hf:fe M ρ with
 |exc x=>rw[hf]at z;exact fun H' c dd e r=>z σ H' g c dd (Gr.ex e) (I.ex e) r.fr
 |bad=>rw[hf]at z;exact False.elim z
 |ok kvs=>
  rw[hf]at z
  intro l ob H1 nl e1 hl dic
  obtain⟨gr,I1,tb,ow,mm⟩:=K9 I nl e1 hl trivial
  have dic1:jC X.K aj (g.push l) H1 l true kvs:=by
   obtain⟨o',xs,vs,q1,q2,q3,q4,q5,q6⟩:=dic
   exact⟨o',xs,vs,q1,q2,q3,Y7 q4,q5,Y7 q6⟩
  have z:(((fo (M++[⟨"",[]⟩]) ρ).at (M++[⟨"",[]⟩])).then ρ fun od M2=>match j7 M2 od with
   |some (h,i)=>match ft.has i.cls f&&decide (i.fs.length < 100) with
    |true=>.next ρ (M2.set h (i.put f (.dic true kvs)))
    |false=>.bad
   |none=>.bad).sat (sN X.K aj false D.nx g H) (sR X.K aj false D.rt g H) (sN X.K aj false D.bk g H) (sN X.K aj false D.ct g H) (sX X.K aj W false g H):=z
  have k1:=Out.jm (dD (σ:=σ) z)
  refine tW.go I1 (k1.mono (fun _ y=>y) fun x y H' c dd ex rx=>y H' _ c dd (gr.trans (Gr.ex ex)) (I1.ex ex) rx) fun od u H2 k2 e2 ru=>?_
  have I2:=I1.ex e2
  split at k2
  ·next h i hi=>
   split at k2
   ·next hb=>
    rw[aq0]at hb
    obtain⟨a,C,dx,fs,_,m1,m2,ha,rfl,c1,c2,c3,c4,c5,c6⟩:=Gy co fk I2.wok ru hi hb.1
    have nla:l≠a:=fun z=>by
     subst z
     cases I2.wok.inj _ _ _ ha tb
     rw[mm]at m1
     cases m1
     exact m2 rfl
    refine⟨a,C,dx,fs,rfl,c2,c4,c5,?_,?_⟩
    ·have:=of_decide_eq_true hb.2
     rw[c3.len]
     omega
    ·have ch:=Uz (f:=f) (C:=C) (dx:=dx) (fs':=putF f (.ref l) fs) I2.kd I2.wok ha m1 m2 tb mm ow
     have w':=I2.wok.chg I2.kd ch ha m1 m2 c6 c1 c3 upd_same (v:=.ref l) (fl:=.dic true kvs) ⟨l,rfl,if_pos rfl,jC.chg ch.gc.gr I2.kd (upd_ne nla) (dic1.ex e2 I1.kd)⟩
     exact k2 σ _ _ ((gr.trans (Gr.ex e2)).trans ch.gc.gr) (I2.chg ch w')
   ·exact False.elim k2
  ·exact False.elim k2
end
end Rf
namespace Ear
open PySem PySem.Spec PyProof.Rows L2 Evl RZ
abbrev xQ(K:aqZ)(H:Hp)(v:V)(r:Rw):Prop:=Dp K H v (rD r)
@[irreducible]def Lp (K:aqZ) (w:World):List V->Hp->VK->Prop:=fun vs H Q=>∃(l:Addr) (ws:List V) (R D:List Rw),vs=[V.ref l]/\SqL K H l ws/\fB (xQ K H) ws R/\D.length<=76/\(∀r∈R,r∈D)/\
 ∀(p:Addr) (L:List Ent),H p=none->(∀e∈L,xQ K H (.ref e.1) e.2)->(L.map Prod.snd).Nodup->(∀r,r∈L.map Prod.snd↔r∈R)->L.length<=76->Q (.ref p) (upd H p (Mp w p L))
@[irreducible]def O2 (K:aqZ) (w:World):List V->Hp->VK->Prop:=fun vs H Q=>∃(a:Addr) (L:List Ent),vs=[V.ref a]/\H a=some (Mp w a L)/\(∀e∈L,xQ K H (.ref e.1) e.2)/\(L.map Prod.snd).Nodup/\L.length<=76/\
 ∀(ys:List V) (M:List Rw) (p:Addr),fB (xQ K H) ys M->Wj M->(∀r,r∈M↔r∈L.map Prod.snd)->H p=none->Q (.ref p) (upd H p (.lst ys))
section
variable{X:Cx}
theorem aeY{pins:List (Addr×Obj)}{σ:L2.St}{H:Hp}{s:Shared}(I:Inv X pins σ H s){t:Addr}{r:Rw}(h:xQ X.K H (.ref t) r):RI s.heap r t:=by
 refine⟨?_,by rw[af4];decide⟩
 unfold xQ rD dT at h
 cases h with
 |tup h1 t1=>
  cases t1 with
  |cons a1 t1=>
   cases t1 with
   |cons a2 t1=>
    cases t1
    cases a1
    cases a2 with
    |tup h2 t2=>
     obtain⟨us,rv,⟨o,ho,hc,n,hd⟩,_⟩:=I.tuple h1
     obtain⟨us2,rv2,⟨o2,ho2,hc2,n2,hd2⟩,_⟩:=I.tuple h2
     refine .tup ho hc hd ?_
     cases rv with
     |cons r1 rv=>
      cases rv with
      |cons r2 rv=>
       cases rv
       obtain⟨tk,rfl⟩:=r1
       cases r2
       have e:∀{vs:List V} {l:List Int},DpAll X.K H vs (l.map PyData.int)->vs=l.map V.int:=by
        intro vs l
        induction l generalizing vs with
        |nil=>intro z;cases z;rfl
        |cons i l ih=>
         intro z
         cases z with
         |cons b1 b2=>
          cases b1
          rw[ih b2]
          rfl
       rw[e t2]at rv2
       exact .cons (.int r.1 tk) (.cons (.tup ho2 hc2 hd2 (by simpa using Vo (P:=X.prog) (w:=X.w) r.2 us2 rv2)) .nil)
theorem RP{K:aqZ}{H:Hp}:∀(ws:List V) (R:List Rw),fB (xQ K H) ws R->∃ks:List Ent,ws=(ks.map fun p=>V.ref p.1)/\ks.map Prod.snd=R/\∀p∈ks,xQ K H (.ref p.1) p.2
 |[],[],_=>⟨[],rfl,rfl,by simp⟩
 |[],_::_,h=>nomatch h.1
 |_::_,[],h=>nomatch h.1
 |v::ws,r::R,h=>by
  obtain⟨ks,e1,e2,e3⟩:=RP ws R ⟨arX h.1,fun i v x a b=>h.2 (i+1) v x a b⟩
  have hr:xQ K H v r:=h.2 0 v r rfl rfl
  have ev:∃t,v=.ref t:=by
   have z:=hr
   unfold xQ rD at z
   cases z with
   |tup _ _=>exact⟨_,rfl⟩
  obtain⟨t,rfl⟩:=ev
  refine⟨(t,r)::ks,by rw[aq3,←e1],by rw[aq3,e2],fun p hp=>?_⟩
  rcases arh.mp hp with e|hp
  ·rw[e];exact hr
  ·exact e3 p hp
theorem aal(hu:X.A.units+65 < cLine)(hc:X.calm=true):CallR X (.type "set") (Lp X.K X.w):=by
 intro pins s σ H vs us Q I r h
 unfold Lp at h
 obtain⟨l,ws,R,D,rfl,hl,hA,hD,hRD,q⟩:=h
 rw[Vals.ref1 r]
 obtain⟨ks,e1,e2,e3⟩:=RP ws R hA
 obtain⟨its,rv,pl,hz⟩:=I.list hl
 rw[e1]at rv
 have mem:∀p∈ks,p.2∈R:=fun p hp=>by
  rw[←e2]
  exact arf.mpr ⟨p,hp,rfl⟩
 have hn:H s.heap.objs.size=none:=I.hok.fresh (aru _)
 refine aay (P:=X.prog) (w:=X.w) (hf:=fun r=>(oF X.prog X.w).hash r) (fun _=>rfl) ks D hD (fun p hp=>hRD _ (mem p hp)) (I.ok.hd hc) pl.isList (by simpa using V7 rv) (fun p hp=>aeY I (e3 p hp)) (by omega) fun h' tk L es ep t S g k=>?_
 have fitL:t.fits es.size=true:=qL.fits (s:={ s with heap:=h',toks:=tk }) S
 have new:ObjOk X.prog X.w (upd H s.heap.objs.size (Mp X.w s.heap.objs.size L)) h' s.heap.objs.size (Mp X.w s.heap.objs.size L):=by
  obtain⟨o,ho,hr⟩:=S.ob
  refine⟨⟨_,es,ep,t,S.ob,S.en,fitL,S.tab.ris,S.ld⟩,⟨o,ho⟩,fun h1 h2 z k2=>?_⟩
  obtain⟨hf2,es2,ep2,t2,⟨o2,ho2,hr2⟩,rest⟩:=(show acB X.w h1 s.heap.objs.size L from z)
  exact⟨hf2,es2,ep2,t2,⟨o2,k2 o2 ho2,hr2⟩,rest⟩
 refine⟨.ref s.heap.objs.size,upd H s.heap.objs.size (Mp X.w s.heap.objs.size L),I.laid (t':=tk) k (aru _) new,rfl,q _ L hn (fun e he=>e3 e (ase (g.sub e he))) S.nd (fun r=>⟨fun m=>?_,fun m=>?_⟩) S.few⟩
 ·obtain⟨e,he,e5⟩:=arf.mp m
  rw[←e5]
  exact mem e (ase (g.sub e he))
 ·rw[←e2]at m
  obtain⟨p,hp,e5⟩:=arf.mp m
  rw[←e5]
  exact g.all p (by rw[List.take_length];exact hp)
theorem abL(hu:X.A.units+65 < cLine)(hc:X.calm=true):CallR X (.builtin "sorted") (O2 X.K X.w):=by
 intro pins s σ H vs us Q I r h
 unfold O2 at h
 obtain⟨a,L,rfl,ha,hL,nd,few,q⟩:=h
 rw[Vals.ref1 r]
 obtain⟨hf,es,ep,t,⟨o,ho,hex,hd⟩,en,fit,ris,led⟩:acB X.w s.heap a L:=(I.hok a _ ha).1
 have len:=yR en
 have ev:∀K:List Ent,(∀p∈K,p∈L)->PySem.W.EachIs (fun v (r:Rw)=>(∃p∈L,v=Value.ref p.1/\r=p.2)/\∃as,Reads s.heap v (rD r) as) ((ents hf K).map (·.2)) (K.map Prod.snd):=by
  intro K
  induction K with
  |nil=>exact fun _=>.nil
  |cons p K ih=>
   intro hK
   have hp:=hK p aq4
   exact .cons ⟨⟨p,hp,rfl,rfl⟩,Dp.reads I (rD p.2) (.ref p.1) (.ref p.1) (hL p hp) rfl⟩ (ih fun x hx=>hK x (aq5 _ hx))
 refine NQ (enc:=rD) (bs:=L.map Prod.snd) (I.ok.hd hc) ⟨o,ho,hex.1,hd⟩ fit (by unfold scanBound;omega) ris led (by rw[en];exact ev L fun p hp=>hp) (asv V1) (PySem.W.Sortable.tuples fun b=>⟨_,_,rfl⟩) (fun b _=>by rw[(adJ b).2];omega) fun s' p out c cs k g' o' hp hg pc eo=>?_
 have mp:=ash cs (PySem.W.dataLe false rD)
 have ndm:(cs.mergeSort (PySem.W.dataLe false rD)).Nodup:=(mp.trans pc).nodup_iff.mpr nd
 have srt:=ar6 (le:=PySem.W.dataLe false rD) (fun a b c k1 k2=>by rw[KD,decide_eq_true_eq]at *;exact List.le_trans k1 k2) (fun a b=>by rw[KD,KD,ar8,decide_eq_true_eq,decide_eq_true_eq];exact List.le_total _ _) cs
 generalize cs.mergeSort (PySem.W.dataLe false rD)=M at mp ndm srt eo
 obtain⟨ys,v1,v2⟩:=VG out M eo
 have up:Wj M:=by
  refine List.Pairwise.imp₂ (fun a b h1 h2=>?_) srt ndm
  rw[KD,decide_eq_true_eq]at h1
  by_cases c:rk a < rk b
  ·exact c
  ·exact absurd (adU (List.le_antisymm h1 (List.not_lt.mp c))) h2
 have hfr:H p=none:=I.hok.fresh hp
 have hlen:ys.length<=sizeLine:=by
  rw[v2.1,mp.length_eq,pc.length_eq,aq9,sizeLine_eq]
  omega
 have J:Inv X pins σ (upd H p (.lst ys)) { s with heap:=s'.heap,gens:=s'.gens,drawn:=s'.drawn,toks:=s'.toks }:=
  I.call (ch:=[]) (Un.laid k hp hfr) (I.hok.laid k hp ⟨hlen,out,c,v1,hg⟩) (by rw[g'];exact I.bare) (fun _ z=>nomatch z)
 have es':s'={ s with heap:=s'.heap,gens:=s'.gens,drawn:=s'.drawn,toks:=s'.toks }:=by
  cases s'
  cases s
  cases o'
  rfl
 rw[es']
 refine⟨.ref p,_,J,rfl,q ys M p (v2.imp fun v r ⟨e,he,h1,h2⟩=>?_) up (fun r=>(mp.trans pc).mem_iff) hfr⟩
 subst h1 h2
 exact hL e he
end
end Ear
namespace Rf
open PySem PySem.Spec PyProof.Rows L2 Evl
def acF:Dat->Option Ear.Rw
 |.tuple [.int o,.tuple ds]=>(intsOf ds).map fun l=>(o,l)
 |_=>none
def Et:List Dat->Option (List Ear.Rw)
 |[]=>some []
 |d::ds=>(acF d).bind fun r=>(Et ds).bind fun rs=>some (r::rs)
theorem Ew:∀{ds:List Dat} {l:List Int},intsOf ds=some l->ds=l.map PyData.int
 |[],l,h=>by cases h;rfl
 |.int i::ds,l,h=>by
  rw[intsOf,arI]at h
  obtain⟨r,h1,rfl⟩:=h
  rw[Ew h1]
  rfl
 |.none::_,_,h=>by cases h
 |.bool _::_,_,h=>by cases h
 |.str _::_,_,h=>by cases h
 |.list _::_,_,h=>by cases h
 |.tuple _::_,_,h=>by cases h
 |.dict _::_,_,h=>by cases h
theorem aiq{d:Dat}{r:Ear.Rw}(h:acF d=some r):d=Ear.rD r:=by
 unfold acF at h
 split at h
 ·next o ds=>
  rw[arI]at h
  obtain⟨l,h1,rfl⟩:=h
  rw[Ew h1]
  rfl
 ·cases h
theorem O9:∀{ds:List Dat} {rs:List Ear.Rw},Et ds=some rs->ds=rs.map Ear.rD
 |[],_,h=>by cases h;rfl
 |d::ds,_,h=>by
  rw[Et]at h
  obtain⟨r,h1,h⟩:=aqY.mp h
  obtain⟨rs,h2,h⟩:=aqY.mp h
  cases h
  rw[aiq h1,O9 h2]
  rfl
def Ri(R:List Ear.Rw):List Ear.Rw:=R.mergeSort fun a b=>decide (Ear.rk a<=Ear.rk b)
def sortI(l:List Int):List Int:=l.mergeSort fun a b=>decide (a<=b)
def bK(R:List Ear.Rw):List Ear.Rw:=Ri R.eraseDups
def zW(l:List Int):List Int:=sortI l.eraseDups
theorem Yr:∀(n:Nat) (l:List Int),mW n (l.map PyData.int)=true:=fun n l=>by
 induction l with
 |nil=>rfl
 |cons i l ih=>simp[mW,okd,ih]
theorem ZM(n:Nat)(r:Ear.Rw):okd (n+2) (Ear.rD r)=true:=by
 unfold Ear.rD Ear.dT
 simp[okd,mW,Yr]
theorem ag3(n:Nat)(R:List Ear.Rw):mW (n+2) (R.map Ear.rD)=true:=by
 induction R with
 |nil=>rfl
 |cons r R ih=>simp[mW,ZM,ih]
def Jb:Dat->Out Dat
 |.list ds=>match intsOf ds with
  |some l=>.ok (.list ((sortI l).map PyData.int))
  |none=>match Et ds with
   |some R=>.ok (.list ((Ri R).map Ear.rD))
   |none=>.bad
 |_=>.bad
def RK:Dat->Out Dat
 |.list ds=>match Et ds with
  |some R=>match decide (R.eraseDups.length<=76) with
   |true=>.ok (.list ((bK R).map Ear.rD))
   |false=>.bad
  |none=>.bad
 |_=>.bad
theorem Wc{β:Type}{enc:β->Dat}{le:β->β->Bool}(h:∀a b,PySem.W.dataLe false id (enc a) (enc b)=le a b)(l:List β):(l.map enc).mergeSort (PySem.W.dataLe false id)=(l.mergeSort le).map enc:=by
 rw[List.map_mergeSort (r:=le) (s:=PySem.W.dataLe false id) (fun a _ b _=>(h a b).symm)]
theorem vX{α:Type}[BEq α][LawfulBEq α]{l:List α}{x:α}:x∈l.eraseDups↔x∈l:=by
 induction hn:l.length using Nat.strongRecOn generalizing l with
 |_ n ih=>
  cases l with
  |nil=>simp
  |cons a r=>
   rw[asi]
   simp only[ari]at hn
   have hl:(r.filter fun b=>!b==a).length<=r.length:=arj _ _
   rw[arh,ih _ (by omega) rfl,arp,arh]
   constructor
   ·rintro(h|h)
    ·exact .inl h
    ·exact .inr h.1
   ·rintro(h|h)
    ·exact .inl h
    ·by_cases e:x=a
     ·exact .inl e
     ·exact .inr ⟨h,by simpa using e⟩
theorem El{α:Type}[BEq α][LawfulBEq α]{l:List α}:l.eraseDups.Nodup:=by
 induction hn:l.length using Nat.strongRecOn generalizing l with
 |_ n ih=>
  cases l with
  |nil=>simp
  |cons a r=>
   rw[asi]
   simp only[ari]at hn
   have hl:(r.filter fun b=>!b==a).length<=r.length:=arj _ _
   refine ar0.mpr ⟨fun h=>?_,ih _ (by omega) rfl⟩
   rw[vX,arp]at h
   simpa using h.2
theorem dZ{R:List Ear.Rw}{r:Ear.Rw}:r∈bK R↔r∈R:=by
 unfold bK Ri
 rw[List.mem_mergeSort,vX]
theorem Yy(R:List Ear.Rw):Ear.Wj (bK R):=by
 unfold Ear.Wj bK Ri
 have srt:=ar6 (le:=fun a b:Ear.Rw=>decide (Ear.rk a<=Ear.rk b)) (fun a b c k1 k2=>by rw[decide_eq_true_eq]at *;exact List.le_trans k1 k2) (fun a b=>by rw[ar8,decide_eq_true_eq,decide_eq_true_eq];exact List.le_total _ _) R.eraseDups
 have nd:(R.eraseDups.mergeSort fun a b=>decide (Ear.rk a<=Ear.rk b)).Nodup:=(ash _ _).nodup_iff.mpr El
 refine List.Pairwise.imp₂ (fun a b h1 h2=>?_) srt nd
 rw[decide_eq_true_eq]at h1
 by_cases c:Ear.rk a < Ear.rk b
 ·exact c
 ·exact absurd (Ear.adU (List.le_antisymm h1 (List.not_lt.mp c))) h2
theorem Wy{l:List Int}{i:Int}:i∈zW l↔i∈l:=by
 unfold zW sortI
 rw[List.mem_mergeSort,vX]
theorem Zr(l:List Int):(zW l).Pairwise (· < ·):=by
 unfold zW sortI
 have srt:=ar6 (le:=fun a b:Int=>decide (a<=b)) (fun a b c k1 k2=>by rw[decide_eq_true_eq]at *;omega) (fun a b=>by rw[ar8,decide_eq_true_eq,decide_eq_true_eq];omega) l.eraseDups
 have nd:(l.eraseDups.mergeSort fun a b=>decide (a<=b)).Nodup:=(ash _ _).nodup_iff.mpr El
 refine List.Pairwise.imp₂ (fun a b h1 h2=>?_) srt nd
 rw[decide_eq_true_eq]at h1
 have:a≠b:=h2
 omega
section
variable{K:aqZ}{g:Gh}{H:Hp}
theorem O6{xs:List V}{ds:List Dat}(h:aM K g H xs ds):∀{ys:List V} {es:List Dat},Ear.fB (Ear.afP xs ds) ys es->aM K g H ys es
 |[],[],_=>.nil
 |[],_::_,z=>nomatch z.1
 |_::_,[],z=>nomatch z.1
 |y::ys,e::es,z=>by
  obtain⟨i,h1,h2⟩:=z.2 0 y e rfl rfl
  obtain⟨d,h3,h4⟩:=h.get' h1
  rw[h2]at h3
  cases h3
  exact .cons h4 (O6 h ⟨arX z.1,fun i v x a b=>z.2 (i+1) v x a b⟩)
end
section
variable{X:Cx}{aj:aQ}{W:WX}{a:Expr}{fa:QF}{p p2 pos pos2:Pos}
theorem agN:JN aj X.K W Jb (Ear.Jz X.K):=fun σ g H x d Q k rx h=>by
 unfold Jb at h
 split at h
 ·next ds=>
  obtain⟨l,us,rfl,h1,h2⟩:=jh rx
  unfold Ear.Jz
  split at h
  ·next ns hn=>
   have e:=Ew hn
   subst e
   refine⟨l,us,ns.map PyData.int,rfl,h1,h2.dp (n:=12) (Yr 12 ns),asv (fun a b=>by simp[PySem.W.alike]),PySem.W.Sortable.others (fun b=>⟨(fun z=>nomatch z),fun xs z=>nomatch z⟩),fun d hd=>by
    obtain⟨i,_,rfl⟩:=arf.mp hd
    simp[PyData.depth],fun ys q hy nq=>?_⟩
   have hs:=Wc (enc:=PyData.int) (le:=fun a b:Int=>decide (a<=b)) (fun a b=>congrFun (congrFun (PySem.W.dataLe_int (fun k:Int=>k)) a) b) ns
   rw[hs]at hy
   exact h (.ref q) _ (Ex.new nq) (.lst (.inl ⟨.inl upd_same,k.fresh nq⟩) ((O6 h2 hy).ex (Ex.new nq) k))
  ·split at h
   ·next R hR=>
    have e:=O9 hR
    subst e
    refine⟨l,us,R.map Ear.rD,rfl,h1,h2.dp (n:=12) (ag3 10 R),asv Ear.V1,PySem.W.Sortable.tuples (fun b=>⟨_,_,rfl⟩),fun d hd=>by
     obtain⟨i,_,rfl⟩:=arf.mp hd
     rw[(Ear.adJ i).2]
     decide,fun ys q hy nq=>?_⟩
    ·have hs:=Wc (enc:=Ear.rD) (le:=fun a b:Ear.Rw=>decide (Ear.rk a<=Ear.rk b)) (fun a b=>by rw[←Ear.KD];rfl) R
     rw[hs]at hy
     exact h (.ref q) _ (Ex.new nq) (.lst (.inl ⟨.inl upd_same,k.fresh nq⟩) ((O6 h2 hy).ex (Ex.new nq) k))
   ·exact False.elim h
 ·exact False.elim h
theorem ahm(hu:X.A.units+65 < cLine)(hg:Gl X "sorted")(hm:X.mg "sorted"=none)(ha:QW aj X W a fa)(hs:nst a=true):QE aj X W (.Call (.Name "sorted" p) [a] [] pos) (fj Jb fa):=
 agn (.inl rfl) (Ear.acE hu) agN hg hm ⟨by decide +kernel,by decide,by decide⟩ ha hs
theorem aaZ{K:aqZ}{g:Gh}{H:Hp}:∀{vs:List V} {l:List Int},DpAll K H vs (l.map PyData.int)->aM K g H vs (l.map PyData.int)
 |_,[],.nil=>.nil
 |_,_::_,.cons (.int i) t=>.cons (.int i) (aaZ t)
theorem aem{K:aqZ}{g:Gh}{H:Hp}{v:V}{r:Ear.Rw}(h:Ear.xQ K H v r):Rep K g H v (Ear.rD r):=by
 unfold Ear.xQ Ear.rD at h
 cases h with
 |tup h1 t1=>
  cases t1 with
  |cons a1 t1=>
   cases a1
   cases t1 with
   |cons a2 t2=>
    cases t2
    cases a2 with
    |tup h2 t3=>exact .tup h1 (.cons (.int _) (.cons (.tup h2 (aaZ t3)) .nil))
theorem Vm{K:aqZ}{g:Gh}{H:Hp}:∀{vs:List V} {R:List Ear.Rw},aM K g H vs (R.map Ear.rD)->Ear.fB (Ear.xQ K H) vs R
 |_,[],.nil=>⟨rfl,fun i v x a b=>by simp at a⟩
 |_,r::R,.cons h t=>by
  have ih:=Vm t
  refine⟨congrArg (· + 1) ih.1,fun i v x a b=>?_⟩
  cases i with
  |zero=>
   simp at a b
   subst a b
   exact h.dp (n:=12) (ZM 10 _)
  |succ i=>exact ih.2 i v x (by simpa using a) (by simpa using b)
theorem VF{K:aqZ}{g:Gh}{H:Hp}:∀{vs:List V} {R:List Ear.Rw},Ear.fB (Ear.xQ K H) vs R->aM K g H vs (R.map Ear.rD)
 |[],[],_=>.nil
 |[],_::_,h=>nomatch h.1
 |_::_,[],h=>nomatch h.1
 |v::vs,r::R,h=>.cons (aem (h.2 0 v r rfl rfl)) (VF ⟨arX h.1,fun i v x a b=>h.2 (i+1) v x a b⟩)
theorem ahv(hu:X.A.units+65 < cLine)(hc:X.calm=true)(hg:Gl X "sorted")(hm:X.mg "sorted"=none)(hg2:Gl X "set")(hm2:X.mg "set"=none)(ha:QW aj X W a fa)(hs:nst a=true):QE aj X W (.Call (.Name "sorted" p) [.Call (.Name "set" p2) [a] [] pos2] [] pos) (fj RK fa):=by
 have h0:=pa_cons ha pa_nil (cH hs [])
 have h1:PE X (.Call (.Name "set" p2) [a] [] pos2) _:=pe_callTy (Ear.aal hu hc) hg2 hm2 (by decide +kernel) h0 (by decide) (by decide) (cH hs []) (by with_unfolding_all rfl)
 have h2:=pa_cons h1 pa_nil (cH rfl [])
 refine PE.weak (pe_callB (p:=p) (pos:=pos) (Ear.abL hu hc) hg hm (by decide +kernel) h2 (by decide) (by decide) (cH rfl []) (by with_unfolding_all rfl)) fun σ H Q ⟨g,ρ,M,I,h⟩=>?_
 refine tW.go I h.bnd fun d v H1 h1 e1 r1=>?_
 have I1:=I.ex e1
 unfold RK at h1
 split at h1
 ·next ds=>
  split at h1
  ·next R hR=>
   split at h1
   ·next hd=>
    have e:=O9 hR
    subst e
    obtain⟨l,us,rfl,s1,s2⟩:=jh r1
    unfold Ear.Lp
    refine⟨l,us,R,R.eraseDups,rfl,s1,Vm s2,of_decide_eq_true hd,fun r hr=>vX.mpr hr,fun q L nq hL nd mem few=>?_⟩
    have eq:Ex H1 (upd H1 q (Ear.Mp X.w q L)):=Ex.new nq
    unfold Ear.O2
    refine⟨q,L,rfl,upd_same,fun e he=>?_,nd,few,fun ys S z hy up ms nz=>?_⟩
    ·exact(Rep.ex eq I1.kd (aem (g:=g) (hL e he))).dp (n:=12) (ZM 10 _)
    ·have hS:S=bK R:=Ear.Qw up (Yy R) fun r=>by rw[ms,mem,dZ]
     subst hS
     have I2:=I1.ex eq
     exact h1 (.ref z) _ ((e1.trans eq).trans (Ex.new nz)) (.lst (.inl ⟨.inl upd_same,I2.kd.fresh nz⟩) ((VF hy).ex (Ex.new nz) I2.kd))
   ·exact False.elim h1
  ·exact False.elim h1
 ·exact False.elim h1
def Ce(it:IF)(tg:fK)(vs:List Nat)(tt:QT)(te:QF):QF:=fun M ρ=>(Bb it tg vs tt te M ρ).bind fun ds=>match intsOf ds with
 |some l=>Out.when (decide (l.length<=4000)) (.ok (.list ((zW l).map PyData.int)))
 |none=>.bad
theorem QH{K:aqZ}{g:Gh}{H:Hp}:∀ns:List Int,aM K g H (ns.map V.int) (ns.map PyData.int)
 |[]=>.nil
 |n::ns=>.cons (.int n) (QH ns)
theorem aip{S T:List Int}(hs:S.Pairwise (· < ·))(ht:T.Pairwise (· < ·))(h:∀i,i∈S↔i∈T):S=T:=by
 induction S generalizing T with
 |nil=>
  cases T with
  |nil=>rfl
  |cons t T=>exact absurd ((h t).mpr aq4) arD
 |cons s S ih=>
  cases T with
  |nil=>exact absurd ((h s).mp aq4) arD
  |cons t T=>
   rw[List.pairwise_cons]at hs ht
   have e:s=t:=by
    rcases arh.mp ((h s).mp aq4) with e|e
    ·exact e
    ·rcases arh.mp ((h t).mpr aq4) with e2|e2
     ·exact e2.symm
     ·have:=ht.1 s e
      have:=hs.1 t e2
      omega
   subst e
   rw[ih hs.2 ht.2 fun i=>?_]
   constructor
   ·intro hi
    rcases arh.mp ((h i).mp (aq5 _ hi)) with e|e
    ·have:=hs.1 i hi
     omega
    ·exact e
   ·intro hi
    rcases arh.mp ((h i).mpr (aq5 _ hi)) with e|e
    ·have:=ht.1 i hi
     omega
    ·exact e
theorem abO{a b:List Dat}{l:List Int}(h:intsOf (a++b)=some l):∃x y,intsOf a=some x/\intsOf b=some y/\l=x++y:=by
 have e:=Ew h
 obtain⟨x,y,rfl,h1,h2⟩:=List.append_eq_map_iff.mp e
 exact⟨x,y,by rw[←h1,mD],by rw[←h2,mD],rfl⟩
theorem alT{it:IF}{tg:fK}{js vs:List Nat}{tt:QT}{te:QF}(hj:∀j∈js,j∈vs)(σ:L2.St)(H:Hp)(Q:VK)(h:tQ X.K aj W (Ce it tg vs tt te) σ H Q) :
  tCB (Ear.M5 X.w) (tCons (Ear.akn X.w (tI X.K aj W false it) (xO X.K aj js tg) (jJ X.K aj WF tt) (tQ X.K aj WF te) vs) tNil) σ H Q:=by
 obtain⟨g,ρ,M,I,h⟩:=h
 unfold Ce Bb at h
 have h:=h.bnd
 refine⟨g,ρ,M,I,h.bnd.mono (fun ds hk J C H1 e1 w c _ D nD=>?_) fun _ z=>z⟩
 obtain⟨hz,hk⟩:=hk.pJ
 have hlen:=of_decide_eq_true hz
 obtain⟨total,htot,hk⟩:∃total,cO tg tt te M (bT ρ vs) ds=.ok total/\(match intsOf total with
   |some l=>Out.when (decide (l.length<=4000)) (Out.ok (PyData.list ((zW l).map PyData.int)))
   |none=>Out.bad).sat (fun d=>∀v H',Ex H H'->Rep X.K g H' v d->Q v H') (qG X.K aj W g H σ):=by
  cases hc:cO tg tt te M (bT ρ vs) ds with
  |bad=>rw[hc]at hk;exact False.elim hk
  |exc x=>exact absurd hc mH
  |ok total=>
   rw[hc]at hk
   exact⟨total,rfl,hk⟩
 split at hk
 ·next nums hnums=>
  obtain⟨hz2,hk⟩:=Out.sat.pJ hk
  have hlen2:=of_decide_eq_true hz2
  have I1:=(I.ex e1).wipe vs
  have kD:∀{Ha:Hp} {S:Int->Bool} {n:Nat},Ex H1 Ha->Ha D=some (SetO X.w D S n)->SInv X.K aj (L2.wipe σ vs) Ha (g.add D) (bT ρ vs) M:=fun ea hu=>I1.add nD ea hu trivial
  let Pv:Nat->Hp->Prop:=fun i Ha=>Ex H1 Ha/\i<=ds.length/\∃(S:Int->Bool) (n:Nat) (ys:List Int),Ha D=some (SetO X.w D S n)/\(∀j,S j=true↔j∈ys)/\n<=ys.length/\(cO tg tt te M (bT ρ vs) (ds.drop i)).sat (fun r=>total=ys.map PyData.int++r) fun _=>False
  refine⟨fun i m Ha=>m=ds.length - i/\Pv i Ha,⟨ds.length,rfl,Ex.new nD,arO _,_,0,[],upd_same,fun j=>by simp,aru _,?_⟩,?_⟩
  ·rw[asq,htot]
   rfl
  ·rintro i m Ha ⟨rfl,ea,hi,S,n,ys,hu,hS,hn,hs⟩
   have Ia:=kD ea hu
   have Ca:=w.add g (g.add D) H1 Ha (I.kd.ex e1) c (Gh.CN nD ea) ea
   by_cases hlt:i < ds.length
   ·refine .inr ⟨w.go _ i Ha Ca hlt,Pv (i+1),fun H' p=>⟨ds.length - (i+1),by omega,rfl,p⟩,fun x H' y=>?_⟩
    have hd:ds[i]?=some ds[i]:=aq2 hlt
    obtain⟨e2,rx⟩:=w.yld _ i Ha x H' _ Ia.kd Ca hd y
    have I2:=Ia.ex e2
    rw[arR hlt,cO]at hs
    split at hs
    ·exact False.elim hs
    ·next ρ1 he=>
     refine⟨g.add D,_,M,_,ρ1,I2,rx,he,fun ws I3=>⟨wN js ws _ vs hj |>.trans (Ae σ vs),?_⟩⟩
     refine jJ.go I3 (wV hs.bnd) fun b H3 hb e3=>?_
     have I4:=I3.ex e3
     have hu3:=e3 _ _ (e2 _ _ hu)
     cases b with
     |false=>
      have hb:(cO tg tt te M (bT ρ vs) (ds.drop (i+1))).sat (fun r=>total=ys.map PyData.int++r) fun _=>False:=hb
      exact⟨(ea.trans e2).trans e3,hlt,S,n,ys,hu3,hS,hn,hb⟩
     |true=>
      have hb:((wZ (te M ρ1)).bind fun y=>(cO tg tt te M (bT ρ vs) (ds.drop (i+1))).bind fun r=>Out.ok (y::r)).sat (fun r=>total=ys.map PyData.int++r) fun _=>False:=hb
      refine tQ.go I4 (wV hb.bnd) fun y v H4 hyv e4 ry=>?_
      have hu4:=e4 _ _ hu3
      obtain⟨r,hr,ht⟩:∃r,cO tg tt te M (bT ρ vs) (ds.drop (i+1))=.ok r/\total=ys.map PyData.int++y::r:=by
       cases hc:cO tg tt te M (bT ρ vs) (ds.drop (i+1)) with
       |bad=>rw[hc]at hyv;exact False.elim hyv
       |exc x=>exact absurd hc mH
       |ok r=>
        rw[hc]at hyv
        exact⟨r,rfl,hyv⟩
      rw[ht]at hnums
      obtain⟨xl,yl,q1,q2,q3⟩:=abO hnums
      cases y with
      |int kk=>
       cases ry
       have hyl:ys.length < nums.length:=by
        rw[mD]at q1
        obtain rfl:ys=xl:=arn q1
        rw[intsOf,arI]at q2
        obtain⟨z,_,rfl⟩:=q2
        rw[q3]
        simp
       refine⟨kk,S,n,rfl,hu4,by unfold scanBound;omega,Ex.mut (((ea.trans e2).trans e3).trans e4) nD,hlt,_,_,ys++[kk],upd_same,fun j=>?_,?_,?_⟩
       ·simp[hS]
       ·split <;> simp <;> omega
       ·rw[hr]
        show total=_
        rw[ht]
        simp
      |_=>cases q2
   ·have e:i=ds.length:=by omega
    refine .inl ⟨w.stop _ i Ha Ca e,?_⟩
    rw[e,arY]at hs
    have hs:total=ys.map PyData.int++[]:=hs
    rw[arQ]at hs
    rw[hs,mD]at hnums
    obtain rfl:ys=nums:=arn hnums
    unfold Ear.M5
    refine⟨D,S,n,rfl,hu,fun ns z up mem _ nz=>?_⟩
    have hns:ns=zW ys:=aip up (Zr ys) fun j=>by rw[mem,hS,Wy]
    subst hns
    have ex:=(e1.trans ea).trans (Ex.new (o:=.lst ((zW ys).map V.int)) nz)
    have kk:=(I.ex (e1.trans ea)).kd
    exact hk (.ref z) _ ex (.lst (.inl ⟨.inl upd_same,kk.fresh nz⟩) (QH _))
 ·exact False.elim hk
theorem acT{elt tg iter:Expr}{ifs:List Expr}{scope:Scope}{own:List (Str×Nat)}{it:IF}{tgf:fK}{js:List Nat}{tt:QT}{te:QF}(hu:X.A.units+65 < cLine)(hc:X.calm=true)(hN:X.N.Nodup)(hg0:Gl X "sorted")(hm:X.mg "sorted"=none)(hi:QI aj X W false tg iter it)(ok:blkC X.N X.env.scope scope own=true)(hj:∀j∈js,j∈own.map (·.2))
  (hg:∀(s:Shared) (H:Hp) (C:Addr) (cl:List (Str×Addr)) (fp:List Addr),QG aj (X.blk s H scope (compEnvC scope cl C X.env) fp) tg js tgf)
  (ht:∀(s:Shared) (H:Hp) (C:Addr) (cl:List (Str×Addr)) (fp:List Addr),PTs (X.blk s H scope (compEnvC scope cl C X.env) fp) ifs (jJ X.K aj WF tt))
  (he:∀(s:Shared) (H:Hp) (C:Addr) (cl:List (Str×Addr)) (fp:List Addr),QE aj (X.blk s H scope (compEnvC scope cl C X.env) fp) WF elt te) (hs:∀x,foldedSetIterable iter X.env x=pure x) :
  QE aj X W (.Call (.Name "sorted" p) [.SetComp elt [⟨tg,iter,ifs,0⟩] scope pos2] [] pos) (Ce it tgf (own.map (·.2)) tt te):=by
 have h1:=Ear.aj1 (pos:=pos2) (g:=xO X.K aj js tgf) (tt:=jJ X.K aj WF tt) (te:=tQ X.K aj WF te) hc hN hi (blkOk_by ok) (fun s H C cl fp=>hg s H C cl fp) ht (fun s H C cl fp=>he s H C cl fp) hs
 have h2:=pa_cons h1 pa_nil (cH rfl [])
 exact PE.weak (pe_callB (p:=p) (pos:=pos) (Ear.aeI hu hc) hg0 hm (by decide +kernel) h2 (by decide) (by decide) (cH rfl []) (by with_unfolding_all rfl)) fun σ H Q h=>alT hj σ H Q h
end
def zL(ρ:Env):Bool:=ρ.all fun o=>match o with
 |some (.mut _)=>false
 |_=>true
theorem X6{ρ:Env}(h:zL ρ=true){i:Nat}{xs:List Dat}:ρ[i]?≠some (some (.mut xs)):=fun z=>by
 have:=ars.mp h _ (aq6 z)
 cases this
theorem SInv.loc{K:aqZ}{aj:aQ}{σ:L2.St}{H:Hp}{g:Gh}{ρ:Env}{M:Mo}{D:Addr}{us us':List V}(I:SInv K aj σ H g ρ M)(n:zL ρ=true)(hD:H D=some (.lst us))(lo:g.Lo D):SInv K aj σ (upd H D (.lst us')) g ρ M where
 kd:=I.kd.upd trivial
 wok:=I.wok.loc I.kd hD lo
 len:=I.len
 dat:=fun i d h=>by
  obtain⟨v,h1,h2⟩:=I.dat i d h
  exact⟨v,h1,ahK I.kd hD lo h2⟩
 own:=fun i xs h=>absurd h (X6 n)
 sep:=fun i j xs ys l ne h1=>absurd h1 (X6 n)
def iz(tg:fK)(tt:QT)(it1:IF)(tg1:fK)(vs1:List Nat)(tt1:QT)(te:QF)(M:Mo)(ρ:Env):List Dat->Out (List Dat)
 |[]=>.ok []
 |d::ds=>match tg d ρ with
  |none=>.bad
  |some ρ1=>(wZ (tt M ρ1)).bind fun b=>if b=true then Out.when (zL ρ1) ((wZ (it1 M ρ1)).bind fun es=>(cO tg1 tt1 te M (bT ρ1 vs1) es).bind fun r1=>(iz tg tt it1 tg1 vs1 tt1 te M ρ ds).bind fun r=>.ok (r1++r)) else iz tg tt it1 tg1 vs1 tt1 te M ρ ds
def aaN(it:IF)(tg:fK)(vs:List Nat)(tt:QT)(it1:IF)(tg1:fK)(vs1:List Nat)(tt1:QT)(te:QF):IF:=fun M ρ=>(it M ρ).bind fun ds=>(iz tg tt it1 tg1 vs1 tt1 te M (bT ρ vs) ds).bind fun r=>Out.when (decide (r.length<=50000)) (.ok r)
def Dc(it:IF)(tg:fK)(vs:List Nat)(tt:QT)(it1:IF)(tg1:fK)(vs1:List Nat)(tt1:QT)(te:QF):QF:=fun M ρ=>(aaN it tg vs tt it1 tg1 vs1 tt1 te M ρ).bind fun r=>.ok (.list r)
theorem yD{tg tg1:fK}{tt tt1:QT}{te:QF}{it1:IF}{vs1:List Nat}{M:Mo}{ρ:Env}:∀{ds:List Dat} {x:dU},iz tg tt it1 tg1 vs1 tt1 te M ρ ds≠.exc x
 |[],_,h=>nomatch h
 |d::ds,x,h=>by
  rw[iz]at h
  split at h
  ·cases h
  ·next ρ1 e=>
   cases h1:tt M ρ1 with
   |bad=>rw[h1]at h;cases h
   |exc y=>rw[h1]at h;cases h
   |ok b=>
    rw[h1]at h
    cases b with
    |false=>exact yD (ds:=ds) (x:=x) h
    |true=>
     cases hn:zL ρ1 with
     |false=>rw[hn]at h;cases h
     |true=>
      rw[hn]at h
      cases h2:it1 M ρ1 with
      |bad=>rw[h2]at h;cases h
      |exc y=>rw[h2]at h;cases h
      |ok es=>
       rw[h2]at h
       have h:((cO tg1 tt1 te M (bT ρ1 vs1) es).bind fun r1=>(iz tg tt it1 tg1 vs1 tt1 te M ρ ds).bind fun r=>Out.ok (r1++r))=.exc x:=h
       cases h3:cO tg1 tt1 te M (bT ρ1 vs1) es with
       |bad=>rw[h3]at h;cases h
       |exc y=>exact absurd h3 mH
       |ok r1=>
        rw[h3]at h
        have h:((iz tg tt it1 tg1 vs1 tt1 te M ρ ds).bind fun r=>Out.ok (r1++r))=.exc x:=h
        cases h4:iz tg tt it1 tg1 vs1 tt1 te M ρ ds with
        |bad=>rw[h4]at h;cases h
        |exc y=>exact absurd h4 yD
        |ok r=>rw[h4]at h;cases h
section
variable{K:aqZ}{aj:aQ}{W:WX}
theorem ahH{it it1:IF}{tg tg1:fK}{js vs js1 vs1:List Nat}{tt tt1:QT}{te:QF}(hj:∀j∈js,j∈vs)(hj1:∀j∈js1,j∈vs1)(σ:L2.St)(H:Hp)(Q:VK)(h:tFr K aj W (aaN it tg vs tt it1 tg1 vs1 tt1 te) σ H Q) :
  tLc2 (tI K aj W false it) (xO K aj js tg) (jJ K aj WF tt) (tI K aj WF true it1) (xO K aj js1 tg1) (jJ K aj WF tt1) (tQ K aj WF te) vs vs1 σ H Q:=by
 obtain⟨g,ρ,M,I,h⟩:=h
 refine⟨g,ρ,M,I,h.bnd.mono (fun ds hk J C H1 e1 w c _ D nD=>?_) fun _ z=>z⟩
 obtain⟨total,htot,hlen,hQ⟩:∃total,iz tg tt it1 tg1 vs1 tt1 te M (bT ρ vs) ds=.ok total/\total.length<=50000/\∀l us H',H l=none->Ex H H'->H' l=some (.lst us)->aM K (g.add l) H' us total->Q (.ref l) H':=by
  cases hc:iz tg tt it1 tg1 vs1 tt1 te M (bT ρ vs) ds with
  |bad=>rw[hc]at hk;exact False.elim hk
  |exc x=>exact absurd hc yD
  |ok total=>
   rw[hc]at hk
   obtain⟨hz,hk⟩:=Out.sat.pJ hk
   exact⟨total,rfl,of_decide_eq_true hz,hk⟩
 have I1:=(I.ex e1).wipe vs
 have kD:∀{Ha:Hp} {us:List V},Ex H1 Ha->Ha D=some (.lst us)->SInv K aj (L2.wipe σ vs) Ha (g.add D) (bT ρ vs) M:=fun ea hu=>I1.add nD ea hu trivial
 have lD:(g.add D).Lo D:=.inr rfl
 let Pv:Nat->Hp->Prop:=fun i Ha=>Ex H1 Ha/\i<=ds.length/\∃us ys,Ha D=some (.lst us)/\aM K (g.add D) Ha us ys/\(iz tg tt it1 tg1 vs1 tt1 te M (bT ρ vs) (ds.drop i)).sat (fun r=>total=ys++r) fun _=>False
 refine⟨fun i m Ha=>m=ds.length - i/\Pv i Ha,⟨ds.length,rfl,Ex.new nD,arO _,[],[],upd_same,.nil,?_⟩,?_⟩
 ·rw[asq,htot]
  rfl
 ·rintro i m Ha ⟨rfl,ea,hi,us,ys,hu,hU,hs⟩
  have Ia:=kD ea hu
  have Ca:=w.add g (g.add D) H1 Ha (I.kd.ex e1) c (Gh.CN nD ea) ea
  by_cases hlt:i < ds.length
  ·refine .inr ⟨w.go _ i Ha Ca hlt,Pv (i+1),fun H' p=>⟨ds.length - (i+1),by omega,rfl,p⟩,fun x H' y=>?_⟩
   have hd:ds[i]?=some ds[i]:=aq2 hlt
   obtain⟨e2,rx⟩:=w.yld _ i Ha x H' _ Ia.kd Ca hd y
   have I2:=Ia.ex e2
   rw[arR hlt,iz]at hs
   split at hs
   ·exact False.elim hs
   ·next ρ1 he=>
    refine⟨g.add D,_,M,_,ρ1,I2,rx,he,fun ws I3=>⟨wN js ws _ vs hj |>.trans (Ae σ vs),?_⟩⟩
    refine jJ.go I3 (wV hs.bnd) fun b H3 hb e3=>?_
    have I4:=I3.ex e3
    have hu3:=e3 _ _ (e2 _ _ hu)
    have hU3:=(hU.ex e2 Ia.kd).ex e3 I2.kd
    cases b with
    |false=>
     have hb:(iz tg tt it1 tg1 vs1 tt1 te M (bT ρ vs) (ds.drop (i+1))).sat (fun r=>total=ys++r) fun _=>False:=hb
     exact⟨(ea.trans e2).trans e3,hlt,us,ys,hu3,hU3,hb⟩
    |true=>
     have hb:(Out.when (zL ρ1) ((wZ (it1 M ρ1)).bind fun es=>(cO tg1 tt1 te M (bT ρ1 vs1) es).bind fun r1=>(iz tg tt it1 tg1 vs1 tt1 te M (bT ρ vs) (ds.drop (i+1))).bind fun r=>Out.ok (r1++r))).sat (fun r=>total=ys++r) fun _=>False:=hb
     obtain⟨nm,hb⟩:=hb.pJ
     refine⟨g.add D,ρ1,M,I4,(wV (E':=qG K aj WF (g.add D) H3 _) hb.bnd).mono (fun es hk1 J1 C1 H4 e4 w1 c1 fm=>?_) fun _ z=>z⟩
     have fm:=fm rfl
     -- all that is added by this walk
     obtain⟨r1,r2,hr1,hr2,ht⟩:∃r1 r2,cO tg1 tt1 te M (bT ρ1 vs1) es=.ok r1/\iz tg tt it1 tg1 vs1 tt1 te M (bT ρ vs) (ds.drop (i+1))=.ok r2/\total=ys++(r1++r2):=by
      cases q1:cO tg1 tt1 te M (bT ρ1 vs1) es with
      |bad=>rw[q1]at hk1;exact False.elim hk1
      |exc y=>exact absurd q1 mH
      |ok r1=>
       rw[q1]at hk1
       have hk1:((iz tg tt it1 tg1 vs1 tt1 te M (bT ρ vs) (ds.drop (i+1))).bind fun r=>Out.ok (r1++r)).sat (fun r=>total=ys++r) fun _=>False:=hk1
       cases q2:iz tg tt it1 tg1 vs1 tt1 te M (bT ρ vs) (ds.drop (i+1)) with
       |bad=>rw[q2]at hk1;exact False.elim hk1
       |exc y=>exact absurd q2 yD
       |ok r2=>
        rw[q2]at hk1
        exact⟨r1,r2,rfl,rfl,hk1⟩
     let P1:Nat->Hp->Prop:=fun j Hb=>Ex H1 Hb/\SInv K aj (sets (L2.wipe σ vs) js ws) Hb (g.add D) ρ1 M/\C1 (g.add D) Hb/\j<=es.length/\∃us' zs,Hb D=some (.lst us')/\aM K (g.add D) Hb us' (ys++zs)/\(cO tg1 tt1 te M (bT ρ1 vs1) (es.drop j)).sat (fun r=>r1=zs++r) fun _=>False
     refine⟨fun j m Hb=>m=es.length - j/\P1 j Hb,⟨es.length,rfl,((ea.trans e2).trans e3).trans e4,I4.ex e4,c1,arO _,us,[],e4 _ _ hu3,by rw[arQ];exact hU3.ex e4 I4.kd,?_⟩,?_⟩
     ·rw[asq,hr1]
      rfl
     ·rintro j m Hb ⟨rfl,fb,Ib,Cb,hjl,us',zs,hub,hUb,hsb⟩
      by_cases hlj:j < es.length
      ·refine .inr ⟨w1.go _ j Hb Cb hlj,P1 (j+1),fun H' p=>⟨es.length - (j+1),by omega,rfl,p⟩,fun x H' y=>?_⟩
       have hdj:es[j]?=some es[j]:=aq2 hlj
       obtain⟨f2,rx⟩:=w1.yld _ j Hb x H' _ Ib.kd Cb hdj y
       have J2:=(Ib.ex f2).wipe vs1
       rw[arR hlj,cO]at hsb
       split at hsb
       ·exact False.elim hsb
       ·next ρ2 he1=>
        refine⟨g.add D,_,M,_,ρ2,J2,rx,he1,fun ws1 J3=>⟨wN js1 ws1 _ vs1 hj1 |>.trans (Ae _ vs1),?_⟩⟩
        refine jJ.go J3 (wV hsb.bnd) fun b H6 hb6 e6=>?_
        have f26:=f2.trans e6
        have hu6:=f26 _ _ hub
        have hU6:=hUb.ex f26 Ib.kd
        cases b with
        |false=>
         have hb6:(cO tg1 tt1 te M (bT ρ1 vs1) (es.drop (j+1))).sat (fun r=>r1=zs++r) fun _=>False:=hb6
         exact⟨fb.trans f26,Ib.ex f26,w1.ex _ _ _ Ib.kd Cb f26,hlj,us',zs,hu6,hU6,hb6⟩
        |true=>
         have hb6:((wZ (te M ρ2)).bind fun y=>(cO tg1 tt1 te M (bT ρ1 vs1) (es.drop (j+1))).bind fun r=>Out.ok (y::r)).sat (fun r=>r1=zs++r) fun _=>False:=hb6
         refine tQ.go (J3.ex e6) (wV hb6.bnd) fun y v H7 hyv e7 ry=>?_
         have f27:=f26.trans e7
         have Ib7:=Ib.ex f27
         have hu7:=f27 _ _ hub
         have hU7:=hUb.ex f27 Ib.kd
         have hyv:=hyv.bnd
         have hr:∃r,cO tg1 tt1 te M (bT ρ1 vs1) (es.drop (j+1))=.ok r/\r1=zs++y::r:=by
          cases q1:cO tg1 tt1 te M (bT ρ1 vs1) (es.drop (j+1)) with
          |bad=>rw[q1]at hyv;exact False.elim hyv
          |exc y=>exact absurd q1 mH
          |ok r=>
           rw[q1]at hyv
           exact⟨r,rfl,hyv⟩
         obtain⟨r,hr,hr1'⟩:=hr
         have hll:us'.length < 50000:=by
          rw[hUb.length]
          rw[ht,hr1']at hlen
          simp at hlen ⊢
          omega
         refine⟨us',hu7,sz_lt (Nat.lt_trans hll (by decide)),Ex.mut (fb.trans f27) nD,Ib7.loc nm hu7 lD,fm true _ _ _ _ Ib7.kd (w1.ex _ _ _ Ib.kd Cb f27) (Gr.upd Ib7.kd hu7 (.inr lD)),hlj,us'++[v],zs++[y],upd_same,?_,?_⟩
         ·rw[←List.append_assoc]
          exact Zf Ib7.kd hu7 lD (hU7.append (.cons ry .nil))
         ·rw[hr]
          show r1=_
          rw[hr1']
          simp
      ·have e:j=es.length:=by omega
       refine .inl ⟨w1.stop _ j Hb Cb e,?_⟩
       rw[e,arY]at hsb
       have hsb:r1=zs++[]:=hsb
       rw[arQ]at hsb
       subst hsb
       refine⟨fb,hlt,us',ys++r1,hub,hUb,?_⟩
       rw[hr2]
       show total=_
       rw[ht,List.append_assoc]
  ·have e:i=ds.length:=by omega
   refine .inl ⟨w.stop _ i Ha Ca e,?_⟩
   rw[e,arY]at hs
   have hs:total=ys++[]:=hs
   rw[arQ]at hs
   subst hs
   exact hQ D us Ha (Dh e1 D nD) (e1.trans ea) hu hU
theorem adW{it it1:IF}{tg tg1:fK}{js vs js1 vs1:List Nat}{tt tt1:QT}{te:QF}(hj:∀j∈js,j∈vs)(hj1:∀j∈js1,j∈vs1)(σ:L2.St)(H:Hp)(Q:VK)(h:tQ K aj W (Dc it tg vs tt it1 tg1 vs1 tt1 te) σ H Q) :
  tLc2 (tI K aj W false it) (xO K aj js tg) (jJ K aj WF tt) (tI K aj WF true it1) (xO K aj js1 tg1) (jJ K aj WF tt1) (tQ K aj WF te) vs vs1 σ H Q:=by
 obtain⟨g,ρ,M,I,h⟩:=h
 refine ahH hj hj1 σ H Q ⟨g,ρ,M,I,h.bnd.mono (fun xs hk l us H' nl e hl r=>?_) fun _ z=>z⟩
 refine hk (.ref l) H' e (.lst (.inl ⟨.inl hl,fun z=>?_⟩) (aM.less (g:=g.add l) (g':=g) rfl (fun a z=>?_) r))
 ·exact I.kd.fresh nl z
 ·rcases z with z|z|z
  ·exact .inl z
  ·exact .inr (.inl z)
  ·exact .inr (.inr (.inl z))
end
section
variable{X:Cx}{aj:aQ}{W:WX}{q:Bool}{elt tg iter tg1 iter1:Expr}{ifs ifs1:List Expr}{scope:Scope}{own:List (Str×Nat)}{it it1:IF}{tgf tgf1:fK}{js js1 vs1:List Nat}{tt tt1:QT}{te:QF}{pos cpos:Pos}
theorem ai4(hc:X.calm=true)(hN:X.N.Nodup)(hi:QI aj X W false tg iter it)(ok:blkC X.N X.env.scope scope own=true)(hv:∀i∈vs1,i∈own.map (·.2))(hj:∀j∈js,j∈own.map (·.2))(hj1:∀j∈js1,j∈vs1)
  (hg:∀(s:Shared) (H:Hp) (C:Addr) (cl:List (Str×Addr)) (fp:List Addr),QG aj (X.blk s H scope (compEnvC scope cl C X.env) fp) tg js tgf)
  (ht:∀(s:Shared) (H:Hp) (C:Addr) (cl:List (Str×Addr)) (fp:List Addr),PTs (X.blk s H scope (compEnvC scope cl C X.env) fp) ifs (jJ X.K aj WF tt))
  (hi1:∀(s:Shared) (H:Hp) (C:Addr) (cl:List (Str×Addr)) (fp:List Addr),QI aj (X.blk s H scope (compEnvC scope cl C X.env) fp) WF true tg1 iter1 it1)
  (hg1:∀(s:Shared) (H:Hp) (C:Addr) (cl:List (Str×Addr)) (fp:List Addr),QG aj (X.blk s H scope (compEnvC scope cl C X.env) fp) tg1 js1 tgf1)
  (ht1:∀(s:Shared) (H:Hp) (C:Addr) (cl:List (Str×Addr)) (fp:List Addr),PTs (X.blk s H scope (compEnvC scope cl C X.env) fp) ifs1 (jJ X.K aj WF tt1))
  (he:∀(s:Shared) (H:Hp) (C:Addr) (cl:List (Str×Addr)) (fp:List Addr),QE aj (X.blk s H scope (compEnvC scope cl C X.env) fp) WF elt te) (hs:∀x,foldedSetIterable iter X.env x=pure x) (hs1:∀env x,foldedSetIterable iter1 env x=pure x) :
  QE aj X W (.ListComp elt [⟨tg,iter,ifs,0⟩,⟨tg1,iter1,ifs1,0⟩] scope pos) (Dc it tgf (own.map (·.2)) tt it1 tgf1 vs1 tt1 te):=
 PE.weak (pe_lc2 (g:=xO X.K aj js tgf) (tt:=jJ X.K aj WF tt) (wi1:=tI X.K aj WF true it1) (g1:=xO X.K aj js1 tgf1) (tt1:=jJ X.K aj WF tt1) (te:=tQ X.K aj WF te) hc hN hi (blkOk_by ok) hv (fun s H C cl fp=>hg s H C cl fp) ht (fun s H C cl fp=>hi1 s H C cl fp) (fun s H C cl fp=>hg1 s H C cl fp) ht1 (fun s H C cl fp=>he s H C cl fp) hs hs1) fun σ H Q h=>adW hj hj1 σ H Q h
theorem ahC{j:Nat}{y:Str}{py:Pos}(hc:X.calm=true)(hN:X.N.Nodup)(hy:X.N[j]?=some y)(hyl:X.env.scope.names.lookup y=some .local)(hsw:swapsWith (.ListComp elt [⟨tg,iter,ifs,0⟩,⟨tg1,iter1,ifs1,0⟩] scope cpos) (some (.Name y py)) pos.line X.env=pure true)
  (hi:QI aj X W false tg iter it) (ok:blkC X.N X.env.scope scope own=true) (hv:∀i∈vs1,i∈own.map (·.2)) (hj:∀j∈js,j∈own.map (·.2)) (hj1:∀j∈js1,j∈vs1)
  (hg:∀(s:Shared) (H:Hp) (C:Addr) (cl:List (Str×Addr)) (fp:List Addr),QG aj (X.blk s H scope (compEnvC scope cl C X.env) fp) tg js tgf)
  (ht:∀(s:Shared) (H:Hp) (C:Addr) (cl:List (Str×Addr)) (fp:List Addr),PTs (X.blk s H scope (compEnvC scope cl C X.env) fp) ifs (jJ X.K aj WF tt))
  (hi1:∀(s:Shared) (H:Hp) (C:Addr) (cl:List (Str×Addr)) (fp:List Addr),QI aj (X.blk s H scope (compEnvC scope cl C X.env) fp) WF true tg1 iter1 it1)
  (hg1:∀(s:Shared) (H:Hp) (C:Addr) (cl:List (Str×Addr)) (fp:List Addr),QG aj (X.blk s H scope (compEnvC scope cl C X.env) fp) tg1 js1 tgf1)
  (ht1:∀(s:Shared) (H:Hp) (C:Addr) (cl:List (Str×Addr)) (fp:List Addr),PTs (X.blk s H scope (compEnvC scope cl C X.env) fp) ifs1 (jJ X.K aj WF tt1))
  (he:∀(s:Shared) (H:Hp) (C:Addr) (cl:List (Str×Addr)) (fp:List Addr),QE aj (X.blk s H scope (compEnvC scope cl C X.env) fp) WF elt te) (hs:∀x,foldedSetIterable iter X.env x=pure x) (hs1:∀env x,foldedSetIterable iter1 env x=pure x) :
  SE aj X W q (.Assign [.Name y py] (.ListComp elt [⟨tg,iter,ifs,0⟩,⟨tg1,iter1,ifs1,0⟩] scope cpos) pos) (bB (aF j) (gOf (Dc it tgf (own.map (·.2)) tt it1 tgf1 vs1 tt1 te))):=by
 refine PS.weak (ps_setLc2 (g:=xO X.K aj js tgf) (tt:=jJ X.K aj WF tt) (wi1:=tI X.K aj WF true it1) (g1:=xO X.K aj js1 tgf1) (tt1:=jJ X.K aj WF tt1) (te:=tQ X.K aj WF te) hc hN hy hyl hsw hi (blkOk_by ok) hv (fun s H C cl fp=>hg s H C cl fp) ht (fun s H C cl fp=>hi1 s H C cl fp) (fun s H C cl fp=>hg1 s H C cl fp) ht1 (fun s H C cl fp=>he s H C cl fp) hs hs1) fun D σ H ⟨g,ρ,M,I,z⟩=>?_
 refine adW hj hj1 σ H _ ⟨g,ρ,M,I,(Out.jm (dD (σ:=σ) z)).mono (fun d kk v H' e r=>?_) fun x kk H' c dd e r=>kk H' g c dd (Gr.ex e) (I.ex e) r⟩
 exact kk _ H' g (Gr.ex e) ((I.ex e).set r)
end
def Va(neg:Bool)(kvs:List (Str×Dat))(k:QF):QF:=fun M ρ=>(k M ρ).bind fun d=>match d with
 |.str x=>.ok (.bool (neg ^^ (kvs.lookup x).isSome))
 |_=>.bad
def abQ(kvs:List (Str×Dat))(k:QF):QF:=fun M ρ=>(k M ρ).bind fun d=>match d with
 |.str x=>match kvs.lookup x with
  |some y=>.ok y
  |none=>.bad
 |_=>.bad
section
variable{X:Cx}{aj:aQ}{W:WX}{a:Expr}{fa:QF}{x:Str}{p pos:Pos}{kvs:List (Str×Dat)}{k:Nat}
theorem acN{neg:Bool}{d:Addr}(D:abM X.w X.K d kvs)(σ:L2.St)(H:Hp)(Q:VK)(h:tQ X.K aj W (Va neg kvs fa) σ H Q) :
  tOp (fun x y H Q=>∃(z:Str) (r:Option Value),x=.str z/\y=.ref d/\PySem.W.nsIn X.K d z=some r/\Q (.bl (neg ^^ r.isSome)) H) (tW X.K aj W fa) (tC (.ref d)) σ H Q:=by
 obtain⟨g,ρ,M,I,h⟩:=h
 refine tW.go I h.bnd fun e v H1 h1 e1 r1=>?_
 split at h1
 ·next z=>
  cases jU r1
  obtain⟨es,n,_,_,hl⟩:=D
  have hz:=hl z
  cases hk:kvs.lookup z with
  |none=>
   rw[hk]at hz h1
   exact⟨z,none,rfl,rfl,hz,h1 _ H1 e1 (.bl _)⟩
  |some d'=>
   rw[hk]at hz h1
   obtain⟨v,u,h2,_⟩:=hz
   exact⟨z,some u,rfl,rfl,h2,h1 _ H1 e1 (.bl _)⟩
 ·exact False.elim h1
theorem opG{neg:Bool}{op:CmpOp}{d:Addr}(hn:(op=.In/\neg=false)∨(op=.NotIn/\neg=true))(D:abM X.w X.K d kvs):OpR X (compareOp op) (fun x y H Q=>∃(z:Str) (r:Option Value),x=.str z/\y=.ref d/\PySem.W.nsIn X.K d z=some r/\Q (.bl (neg ^^ r.isSome)) H):=by
 obtain⟨es,n,D,_⟩:=D
 rcases hn with⟨rfl,rfl⟩|⟨rfl,rfl⟩
 ·have:=op_in_kd (X:=X) D
  simpa only[Bool.false_xor] using this
 ·have:=op_notIn_kd (X:=X) D
  simpa only[Bool.true_xor] using this
theorem akD{neg:Bool}{op:CmpOp}(hn:(op=.In/\neg=false)∨(op=.NotIn/\neg=true))(g:bh X.prog X.w X.K X.mg X.base aj k x (.dic kvs))(hg:Gl X x)(hd:(x==("__debug__" : Str))=false)(ha:QW aj X W a fa):QE aj X W (.Compare a [op] [.Name x p] pos) (Va neg kvs fa)/\tD aj X W (.Compare a [op] [.Name x p] pos) (bA (Va neg kvs fa)):=by
 obtain⟨d,hm,D⟩:=g
 have hb:PE X (.Name x p) (tC (.ref d)):=pe_glob hg hm rfl hd
 refine⟨PE.weak (pe_cmpR (opG hn D) ha hb (by cases op <;> rfl)) fun σ H Q h=>acN D σ H Q h,PT.weak (pt_cmpR (opG hn D) ha hb (by cases op <;> rfl)) fun σ H Q ⟨g,ρ,M,I,h⟩=>?_⟩
 refine acN D σ H _ ⟨g,ρ,M,I,h.bnd.mono (fun d h1 v H' e' r'=>?_) fun _ z=>z⟩
 obtain⟨k,h2,h3⟩:=Dz r'.weak h1
 exact⟨k,h2,h3 H' e'⟩
theorem aiD(g:bh X.prog X.w X.K X.mg X.base aj k x (.dic kvs))(hg:Gl X x)(hd:(x==("__debug__" : Str))=false)(ha:QW aj X W a fa)(hp:PlainIx a):QE aj X W (.Subscript (.Name x p) a pos) (abQ kvs fa):=by
 obtain⟨d,hm,es,n,D,_,hl⟩:=g
 have hb:PE X (.Name x p) (tC (.ref d)):=pe_glob hg hm rfl hd
 refine PE.weak (pe_ix ix_kdict hb ha hp) fun σ H Q ⟨g,ρ,M,I,h⟩=>?_
 refine tW.go I h.bnd fun e v H1 h1 e1 r1=>?_
 split at h1
 ·next z=>
  cases jU r1
  have hz:=hl z
  split at h1
  ·next y hk=>
   rw[hk]at hz
   obtain⟨v,u,h2,h3,h4⟩:=hz
   exact⟨d,z,v,rfl,rfl,⟨es,n,u,D.at_,D.lit,h2,h3⟩,h1 v H1 e1 (h4 g H1)⟩
  ·exact False.elim h1
 ·exact False.elim h1
end
structure Hs where
 Ms:List (Str×List (Str×MV))
 ft:Ft
 xm:List (Str×List (Str×Bool))
 df:List (Str×Bool)
 xf:List (Str×List Str)
structure U9(P:Program)(w:World)(K:aqZ)(mg:Str->Option Value)(base:Heap)(aj:aQ)(k:Nat)(h:Hs):Prop where
 ms:∀m tb,h.Ms.lookup m=some tb->∀c v,tb.lookup c=some v->bY P w K mg base aj k c m v
 fk:KH h.ft aj
 co:jG K aj
 hw:aj.w=w
 xm:∀y tab,h.xm.lookup y=some tab->(∃D,aj y=some D)/\abW K aj y fun x=>tab.lookup x
 xf:∀y fs,h.xf.lookup y=some fs->∃C,aj y=some C/\XfC K C/\∀f∈fs,PySem.W.findIn K (.ref C) f=some none
structure Tc where
 N:List Str
 sc:Scope
 G:List (Str×GV)
 B:List Str
 hs:Hs
 ml:List Str
 top:Bool
structure Amb(aj:aQ)(c:Tc)(X:Cx)(W:WX)(k:Nat):Prop where
 hN:X.N=c.N
 hs:X.env.scope=c.sc
 calm:X.calm=true
 nd:X.N.Nodup
 tk:Takes X W
 rm:Room k X.A
 gl:∀x v,c.G.lookup x=some v->bh X.prog X.w X.K X.mg X.base aj k x v
 bl:∀x,x∈c.B->X.mg x=none
 fn:c.top=true->∀x,X.fn x=true
 hk:U9 X.prog X.w X.K X.mg X.base aj k c.hs
def gd{α:Type}(b:Bool)(o:Option α):Option α:=match b with
 |true=>o
 |false=>none
theorem aV{α:Type}{b:Bool}{o:Option α}{x:α}:gd b o=some x↔b=true/\o=some x:=by
 cases b
 ·exact⟨fun h=>(nomatch h),fun h=>(nomatch h.1)⟩
 ·exact⟨fun h=>⟨rfl,h⟩,fun h=>h.2⟩
def idx:List Str->Str->Option Nat
 |[],_=>none
 |y::ys,x=>match y==x with
  |true=>some 0
  |false=>(idx ys x).map (· + 1)
theorem Hf:∀{N:List Str} {x:Str} {i:Nat},idx N x=some i->N[i]?=some x
 |[],_,_,h=>nomatch h
 |y::ys,x,i,h=>by
  rw[idx]at h
  split at h
  ·next e=>
   cases h
   rw[List.getElem?_cons_zero,eq_of_beq e]
  ·rw[arI]at h
   obtain⟨j,h1,rfl⟩:=h
   rw[List.getElem?_cons_succ]
   exact Hf h1
def aeQ(sc:Scope)(x:Str):Bool:=match sc.names.lookup x with
 |some .local=>true
 |some .cell=>true
 |some .free=>true
 |_=>false
theorem ag0{sc:Scope}{x:Str}(h:aeQ sc x=true):Vis sc x:=by
 unfold aeQ at h
 unfold Vis
 split at h
 ·next e=>exact .inl e
 ·next e=>exact .inr (.inl e)
 ·next e=>exact .inr (.inr e)
 ·cases h
def Fx(x:Str):Bool:=(x==("__debug__" : Str)) || (x==("__classdict__" : Str))
theorem uo{x:Str}(h:Fx x=false):(x==("__debug__" : Str))=false/\(x==("__classdict__" : Str))=false:=by
 unfold Fx at h
 rw[Bool.or_eq_false_iff]at h
 exact h
def Gz(sc:Scope)(x:Str):Bool:=match sc.names.lookup x with
 |some .globalImplicit=>true
 |_=>false
def KY(c:Tc)(x:Str):Option Nat:=gd (aeQ c.sc x&&!Fx x) (idx c.N x)
def ak6(c:Tc)(x:Str):Bool:=match c.sc.names.lookup x with
 |some .local=>true
 |some .cell=>c.top
 |_=>false
def vM(c:Tc)(x:Str):Option Nat:=gd (ak6 c x) (idx c.N x)
section
variable{aj:aQ}{c:Tc}{X:Cx}{W:WX}{k:Nat}{x:Str}{i:Nat}
theorem tH(a:Amb aj c X W k)(h:Gz c.sc x=true):Gl X x:=by
 unfold Gz at h
 unfold Gl PySem.Env.kindOf
 rw[a.hs]
 split at h
 ·assumption
 ·cases h
theorem Af(a:Amb aj c X W k)(h:KY c x=some i):X.N[i]?=some x/\Vis X.env.scope x/\(x==("__debug__" : Str))=false/\(x==("__classdict__" : Str))=false:=by
 obtain⟨h1,h2⟩:=aV.mp h
 rw[aq0]at h1
 obtain⟨d1,d2⟩:=uo (by simpa using h1.2)
 exact⟨by rw[a.hN];exact Hf h2,by rw[a.hs];exact ag0 h1.1,d1,d2⟩
theorem m9(a:Amb aj c X W k)(h:vM c x=some i):X.N[i]?=some x/\L2.Loc X.env.scope x/\(X.fn x=true∨X.env.scope.names.lookup x=some .local):=by
 obtain⟨h1,h2⟩:=aV.mp h
 unfold ak6 at h1
 refine⟨by rw[a.hN];exact Hf h2,?_⟩
 rw[a.hs]
 unfold L2.Loc
 split at h1
 ·next e=>exact⟨.inl e,.inr e⟩
 ·next e=>exact⟨.inr e,.inl (a.fn h1 x)⟩
 ·cases h1
def vh(c:Tc)(x y:Str):Bool:=(x==y)&&(Gz c.sc x&&c.B.contains x)
theorem oG{y:Str}(a:Amb aj c X W k)(h:vh c x y=true):x=y/\Gl X x/\X.mg x=none:=by
 unfold vh at h
 rw[aq0,aq0]at h
 exact⟨eq_of_beq h.1,tH a h.2.1,a.bl x (by simpa using h.2.2)⟩
end
def yw:Expr->Bool
 |.Set _ _ _=>true
 |_=>false
theorem Dm{b:Expr}{op:CmpOp}(h:yw b=false):behindInMarks op b=false:=by
 cases b <;> first | rfl | cases h
theorem Ws{b c:Expr}{op op':CmpOp}(h:yw c=false):lastMarks [op,op'] [b,c]=false:=Dm h
theorem pX{e:Expr}{env:PySem.Env}(h:yw e=false):∀x,foldedSetIterable e env x=pure x:=fun x=>by
 cases e <;> first | rfl | cases h
def Zd:Expr->Bool
 |.Slice _ _ _ _=>true
 |_=>false
def akF:Operator->Option (Dat->Dat->Out Dat)
 |.Add=>some fD
 |.Sub=>some mF
 |.Mult=>some Bt
 |.FloorDiv=>some JB
 |.Mod=>some pC
 |.Pow=>some X8
 |_=>none
def Oi:CmpOp->Option (Dat->Dat->Out Dat)
 |.Eq=>some cC
 |.NotEq=>some Ai
 |.Lt=>some Rj
 |.LtE=>some rN
 |.Gt=>some Z6
 |.GtE=>some geD
 |.In=>some (inD false)
 |.NotIn=>some (inD true)
 |_=>none
theorem aha{op:Operator}{o:Dat->Dat->Out Dat}(h:akF op=some o)(X:Cx)(aj:aQ)(W:WX):∃r,OpR X (binaryOp op) r/\qJ aj X.K W o r:=by
 cases op <;> cases h
 ·exact⟨_,ahE,ai5⟩
 ·exact⟨_,op_sub,akG⟩
 ·exact⟨_,op_mul,ajY⟩
 ·exact⟨_,op_mod,ajH⟩
 ·exact⟨_,op_pow,aiG⟩
 ·exact⟨_,op_fdiv,ajx⟩
theorem Ck{op:CmpOp}{o:Dat->Dat->Out Dat}(h:Oi op=some o){X:Cx}{k:Nat}(hr:Room k X.A)(aj:aQ)(W:WX):∃r,OpR X (compareOp op) r/\qJ aj X.K W o r:=by
 have h65:X.A.units+65 < cLine:=by have:=hr.un;omega
 cases op <;> cases h
 ·exact⟨_,aiX hr.units,alf⟩
 ·exact⟨_,aja hr.units,amj⟩
 ·exact⟨_,aiH h65,alm⟩
 ·exact⟨_,op_le,alq⟩
 ·exact⟨_,op_gt,alD⟩
 ·exact⟨_,op_ge,alB⟩
 ·exact⟨_,ak4 h65,agb⟩
 ·exact⟨_,aek h65,agb⟩
def T8:Expr->Option Dat
 |.Constant .none _ _=>some .none
 |.Constant (.bool b) _ _=>some (.bool b)
 |_=>none
theorem aaR{e:Expr}{d:Dat}{X:Cx}(h:T8 e=some d):∃v,scD d=some v/\(v=.non∨∃b,v=.bl b)/\PE X e (tC v):=by
 unfold T8 at h
 split at h
 ·cases h;exact⟨_,rfl,.inl rfl,pe_non⟩
 ·cases h;exact⟨_,rfl,.inr ⟨_,rfl⟩,pe_bl⟩
 ·cases h
def isN:CmpOp->Option Bool
 |.Is=>some false
 |.IsNot=>some true
 |_=>none
theorem adn{op:CmpOp}{neg:Bool}{v:V}{X:Cx}(h:isN op=some neg)(hv:v=.non∨∃b,v=.bl b):OpR X (compareOp op) (Zy neg v):=by
 cases op <;> cases h
 ·exact akp hv
 ·exact adK hv
def b1D(x:Str):Option (Dat->Out Dat):=
 if x=="len" then some pF else if x=="abs" then some U0 else if x=="sum" then some TQ else if x=="max" then some maxD else if x=="all" then some Jp else if x=="any" then some Qg
 else if x=="tuple" then some lN else if x=="list" then some M7 else if x=="int" then some intD else
 none
def b2D(x:Str):Option (Dat->Dat->Out Dat):=if x=="max" then some sU else if x=="min" then some Jt else none
theorem aiB{x:Str}{o:Dat->Out Dat}{X:Cx}(hc:X.calm=true)(h:b1D x=some o)(aj:aQ)(W:WX):∃(f:Value) (id:String) (r:List V->Hp->VK->Prop),(f=.builtin id∨f=.type id)/\CallR X f r/\JN aj X.K W o r/\BV f x:=by
 unfold b1D at h
 split at h
 ·next e=>cases h;cases eq_of_beq e;exact⟨_,_,_,.inl rfl,aiQ,ak1,by decide +kernel,by decide,by decide⟩
 split at h
 ·next e=>cases h;cases eq_of_beq e;exact⟨_,_,_,.inl rfl,call_abs,aj7,by decide +kernel,by decide,by decide⟩
 split at h
 ·next e=>cases h;cases eq_of_beq e;exact⟨_,_,_,.inl rfl,cr_sum hc,aiL,by decide +kernel,by decide,by decide⟩
 split at h
 ·next e=>cases h;cases eq_of_beq e;exact⟨_,_,_,.inl rfl,cr_max hc,akA,by decide +kernel,by decide,by decide⟩
 split at h
 ·next e=>cases h;cases eq_of_beq e;exact⟨_,_,_,.inl rfl,cr_all hc,akO,by decide +kernel,by decide,by decide⟩
 split at h
 ·next e=>cases h;cases eq_of_beq e;exact⟨_,_,_,.inl rfl,cr_any hc,ajg,by decide +kernel,by decide,by decide⟩
 split at h
 ·next e=>cases h;cases eq_of_beq e;exact⟨_,_,_,.inr rfl,call_tuple_of,afX,by decide +kernel,by decide,by decide⟩
 split at h
 ·next e=>cases h;cases eq_of_beq e;exact⟨_,_,_,.inr rfl,call_list_of,agB,by decide +kernel,by decide,by decide⟩
 split at h
 ·next e=>cases h;cases eq_of_beq e;exact⟨_,_,_,.inr rfl,ak9,akM,by decide +kernel,by decide,by decide⟩
 ·cases h
theorem ajt{x:Str}{o:Dat->Dat->Out Dat}{X:Cx}(hc:X.calm=true)(h:b2D x=some o)(aj:aQ)(W:WX):∃(f:Value) (id:String) (r:List V->Hp->VK->Prop),(f=.builtin id∨f=.type id)/\CallR X f r/\Fn2 aj X.K W o r/\BV f x:=by
 unfold b2D at h
 split at h
 ·next e=>cases h;cases eq_of_beq e;exact⟨_,_,_,.inl rfl,call_max2 hc,ahM,by decide +kernel,by decide,by decide⟩
 split at h
 ·next e=>cases h;cases eq_of_beq e;exact⟨_,_,_,.inl rfl,call_min2 hc,agU,by decide +kernel,by decide,by decide⟩
 ·cases h
def tyN(x:Str):Option NT:=if x=="int" then some .int else if x=="bool" then some .bool else if x=="str" then some .str else if x=="tuple" then some .tuple else if x=="list" then some .list else none
theorem aiA{x:Str}{t:NT}(h:tyN x=some t):BV (.type t.name) x:=by
 unfold tyN at h
 split at h
 ·next e=>cases h;cases eq_of_beq e;exact⟨by decide +kernel,by decide,by decide⟩
 split at h
 ·next e=>cases h;cases eq_of_beq e;exact⟨by decide +kernel,by decide,by decide⟩
 split at h
 ·next e=>cases h;cases eq_of_beq e;exact⟨by decide +kernel,by decide,by decide⟩
 split at h
 ·next e=>cases h;cases eq_of_beq e;exact⟨by decide +kernel,by decide,by decide⟩
 split at h
 ·next e=>cases h;cases eq_of_beq e;exact⟨by decide +kernel,by decide,by decide⟩
 ·cases h
structure Tr where
 E:Tc->Expr->Option QF
 W:Tc->Expr->Option QF
 T:Tc->Expr->Option QT
 I:Tc->Bool->Expr->Expr->Option IF
structure Tr.Ok(t:Tr):Prop where
 oe:∀{aj:aQ} {c:Tc} {X:Cx} {W:WX} {k:Nat},Amb aj c X W k->∀{e:Expr} {f:QF},t.E c e=some f->QE aj X W e f
 ow:∀{aj:aQ} {c:Tc} {X:Cx} {W:WX} {k:Nat},Amb aj c X W k->∀{e:Expr} {f:QF},t.W c e=some f->QW aj X W e f
 ot:∀{aj:aQ} {c:Tc} {X:Cx} {W:WX} {k:Nat},Amb aj c X W k->∀{e:Expr} {f:QT},t.T c e=some f->tD aj X W e f
 oi:∀{aj:aQ} {c:Tc} {X:Cx} {W:WX} {k:Nat},Amb aj c X W k->∀{firm:Bool} {tg e:Expr} {f:IF},t.I c firm tg e=some f->QI aj X W firm tg e f
def FW(t:Tr)(c:Tc):List Expr->Option QA
 |[]=>some au
 |a::es=>gd (nst a) ((t.E c a).bind fun fa=>(FW t c es).bind fun fr=>some (ak fa fr))
section
variable{aj:aQ}{c:Tc}{X:Cx}{W:WX}{k:Nat}{t:Tr}
theorem uF(o:t.Ok)(a:Amb aj c X W k):∀{es:List Expr} {f:QA},FW t c es=some f->Dt aj X W es f/\es.all nst=true/\∀M ρ ds,f M ρ=.ok ds->ds.length=es.length
 |[],f,h=>by
  cases h
  exact⟨ajD,rfl,fun M ρ ds e=>by cases e;rfl⟩
 |e::es,f,h=>by
  rw[FW,aV]at h
  obtain⟨hs,h⟩:=h
  obtain⟨fa,h1,h⟩:=aqY.mp h
  obtain⟨fr,h2,h⟩:=aqY.mp h
  cases h
  obtain⟨i1,i2,i3⟩:=uF o a h2
  refine⟨ahQ (o.oe a h1) i1 (cH hs es),by simp[hs,i2],fun M ρ ds e=>?_⟩
  unfold ak at e
  cases hf:fa M ρ with
  |ok d=>
   rw[hf]at e
   cases hr:fr M ρ with
   |ok dr=>
    rw[hr]at e
    cases e
    simp[i3 M ρ dr hr]
   |exc y=>rw[hr]at e;cases e
   |bad=>rw[hr]at e;cases e
  |exc y=>rw[hf]at e;cases e
  |bad=>rw[hf]at e;cases e
end
def trO(t:Tr)(c:Tc):Option Expr->Option QO
 |none=>some Dd
 |some a=>(t.W c a).bind fun fa=>some (tK fa)
theorem aeG{aj:aQ}{c:Tc}{X:Cx}{W:WX}{k:Nat}{t:Tr}(o:t.Ok)(a:Amb aj c X W k){e:Option Expr}{f:QO}(h:trO t c e=some f):QOe aj X W e f:=by
 cases e with
 |none=>cases h;exact ah4
 |some e=>
  obtain⟨fa,h1,h⟩:=aqY.mp h
  cases h
  exact ahS (o.ow a h1)
def Yg(c:Tc):List Expr->Option (List Nat)
 |[]=>some []
 |.Name x _::es=>(vM c x).bind fun i=>(Yg c es).bind fun js=>some (i::js)
 |_::_=>none
def QX(c:Tc):Expr->Option (List Nat×fK)
 |.Name x _=>(vM c x).bind fun i=>some ([i],aF i)
 |.Tuple es _ _=>(Yg c es).bind fun js=>some (js,bx js)
 |_=>none
theorem Uh{aj:aQ}{c:Tc}{X:Cx}{W:WX}{k:Nat}(a:Amb aj c X W k):∀{es:List Expr} {js:List Nat},Yg c es=some js->Ru X es js
 |[],js,h=>by cases h;trivial
 |.Name x p::es,js,h=>by
  rw[Yg]at h
  obtain⟨i,h1,h⟩:=aqY.mp h
  obtain⟨r,h2,h⟩:=aqY.mp h
  cases h
  obtain⟨s1,s2,s3⟩:=m9 a h1
  exact⟨s1,s2,s3,Uh a h2⟩
theorem tV{aj:aQ}{c:Tc}{X:Cx}{W:WX}{k:Nat}(a:Amb aj c X W k){e:Expr}{js:List Nat}{f:fK}(h:QX c e=some (js,f)):QG aj X e js f:=by
 unfold QX at h
 split at h
 ·obtain⟨i,h1,h⟩:=aqY.mp h
  cases h
  obtain⟨s1,s2,s3⟩:=m9 a h1
  exact Uu a.nd s1 s2 s3
 ·obtain⟨js',h1,h⟩:=aqY.mp h
  cases h
  exact adE a.calm a.nd (Uh a h1)
 ·cases h
def Tc.inn(c:Tc)(scope:Scope):Tc:={ c with sc:=relS scope c.sc,top:=false }
theorem Amb.inn{aj:aQ}{c:Tc}{X:Cx}{W:WX}{k:Nat}(a:Amb aj c X W k)(scope:Scope)(s:Shared)(H:Hp)(C:Addr)(cl:List (Str×Addr))(fp:List Addr):Amb aj (c.inn scope) (X.blk s H scope (compEnvC scope cl C X.env) fp) WF k where
 hN:=a.hN
 hs:=by
  show relS scope X.env.scope=relS scope c.sc
  rw[a.hs]
 calm:=a.calm
 nd:=a.nd
 tk:=akX
 rm:=a.rm
 gl:=a.gl
 bl:=a.bl
 fn:=fun z=>nomatch z
 hk:=a.hk
def Oz:List Expr->List Nat->List (Str×Nat)
 |.Name x _::es,j::js=>(x,j)::Oz es js
 |_,_=>[]
def mY:Expr->List Nat->List (Str×Nat)
 |.Name x _,[j]=>[(x,j)]
 |.Tuple es _ _,js=>Oz es js
 |_,_=>[]
def Ln(js vs:List Nat):Bool:=js.all fun j=>vs.contains j
theorem ou{js vs:List Nat}(h:Ln js vs=true):∀j∈js,j∈vs:=fun j hj=>by
 have:=ars.mp h j hj
 simpa using this
def O5(t:Tr)(c:Tc):List Expr->Option QT
 |[]=>some gJ
 |[a]=>t.T c a
 |_=>none
theorem PTs.weak{X:Cx}{e:List Expr}{t t':TT}(h:PTs X e t)(k:∀σ H Q,t' σ H Q->t σ H Q):PTs X e t':=⟨fun pins s σ H Q I q=>h.run pins s σ H Q I (k σ H Q q)⟩
theorem uK{aj:aQ}{c:Tc}{X:Cx}{W:WX}{k:Nat}{t:Tr}(o:t.Ok)(a:Amb aj c X W k){ifs:List Expr}{f:QT}(h:O5 t c ifs=some f):PTs X ifs (jJ X.K aj W f):=by
 unfold O5 at h
 split at h
 ·cases h
  exact PTs.weak pts_nil fun σ H Q ⟨g,ρ,M,I,z⟩=>z H (Ex.refl H)
 ·exact pts_one (o.ot a h)
 ·cases h
def XM(t:Tr)(c:Tc)(elt tg iter:Expr)(ifs:List Expr)(scope:Scope):Option QF:=
 (t.I c false tg iter).bind fun it=>(QX (c.inn scope) tg).bind fun jt=>(O5 t (c.inn scope) ifs).bind fun tt=>(t.E (c.inn scope) elt).bind fun te=>
  gd (blkC c.N c.sc scope (mY tg jt.1)&&(Ln jt.1 ((mY tg jt.1).map (·.2))&&!yw iter)) (some (dH it jt.2 ((mY tg jt.1).map (·.2)) tt te))
theorem abu{aj:aQ}{c:Tc}{X:Cx}{W:WX}{k:Nat}{t:Tr}(o:t.Ok)(a:Amb aj c X W k){elt tg iter:Expr}{ifs:List Expr}{scope:Scope}{pos:Pos}{f:QF}(h:XM t c elt tg iter ifs scope=some f):QE aj X W (.ListComp elt [⟨tg,iter,ifs,0⟩] scope pos) f:=by
 unfold XM at h
 obtain⟨it,h1,h⟩:=aqY.mp h
 obtain⟨⟨js,tf⟩,h2,h⟩:=aqY.mp h
 obtain⟨tt,h3,h⟩:=aqY.mp h
 obtain⟨te,h4,h⟩:=aqY.mp h
 obtain⟨hb,h⟩:=aV.mp h
 cases h
 simp only[aq0,ark]at hb
 obtain⟨b1,b2,b3⟩:=hb
 exact alk a.calm a.nd (o.oi a h1) (by rw[a.hN,a.hs];exact b1) (ou b2) (fun s H C cl fp=>tV (a.inn scope s H C cl fp) h2) (fun s H C cl fp=>uK o (a.inn scope s H C cl fp) h3) (fun s H C cl fp=>o.oe (a.inn scope s H C cl fp) h4) (pX b3)
def aaj(t:Tr)(c:Tc)(x:Str)(e:Expr)(es:List Expr):Option QF:=match c.G.lookup x with
 |some (.fq n m)=>(FW t c (e::es)).bind fun as=>gd (Gz c.sc x&&(!Fx x&&decide ((e::es).length=n))) (some (aZ m as))
 |some _=>none
 |none=>match es with
  |[]=>(b1D x).bind fun o=>(t.W c e).bind fun fa=>gd (vh c x x&&nst e) (some (fj o fa))
  |[.Name y p]=>match x=="isinstance" with
   |true=>(tyN y).bind fun ty=>(t.W c e).bind fun fa=>gd (vh c x x&&(vh c y y&&nst e)) (some (wY ty fa))
   |false=>(b2D x).bind fun o=>(t.W c e).bind fun fa=>(t.W c (.Name y p)).bind fun fb=>gd (vh c x x&&nst e) (some (aA o fa fb))
  |[e2]=>(b2D x).bind fun o=>(t.W c e).bind fun fa=>(t.W c e2).bind fun fb=>gd (vh c x x&&(nst e&&nst e2)) (some (aA o fa fb))
  |_=>none
theorem adR{aj:aQ}{c:Tc}{X:Cx}{W:WX}{k:Nat}{x:Str}{o:Dat->Dat->Out Dat}{a b:Expr}{fa fb:QF}{p pos:Pos}(am:Amb aj c X W k)(h:b2D x=some o)(hg:vh c x x=true)(ha:QW aj X W a fa)(hb:QW aj X W b fb)(hs:nst a=true)(hs2:nst b=true):QE aj X W (.Call (.Name x p) [a,b] [] pos) (aA o fa fb):=by
 obtain⟨f,id,r,hf,hc,ho,hv⟩:=ajt am.calm h aj W
 obtain⟨_,hg,hm⟩:=oG am hg
 exact aly hf hc ho hg hm hv ha hb hs hs2
theorem aej{aj:aQ}{c:Tc}{X:Cx}{W:WX}{k:Nat}{t:Tr}(o:t.Ok)(a:Amb aj c X W k){x:Str}{e:Expr}{es:List Expr}{p pos:Pos}{f:QF}(h:aaj t c x e es=some f):QE aj X W (.Call (.Name x p) (e::es) [] pos) f:=by
 unfold aaj at h
 split at h
 ·next n m hl=>
  obtain⟨as,h1,h⟩:=aqY.mp h
  obtain⟨hb,h⟩:=aV.mp h
  cases h
  simp only[aq0,ark,decide_eq_true_eq]at hb
  obtain⟨b1,b2,b3⟩:=hb
  obtain⟨fa,hm,hk,fd,ps,j,hj,hp,hB,F⟩:=a.gl x _ hl
  obtain⟨i1,i2,i3⟩:=uF o a h1
  exact ahI a.tk F (a.rm.mono hj) (tH a b1) hm hk hB i1 (b3.trans hp.symm) (uo b2).1 i2 i3
 ·cases h
 ·split at h
  ·obtain⟨o1,h1,h⟩:=aqY.mp h
   obtain⟨fa,h2,h⟩:=aqY.mp h
   obtain⟨hb,h⟩:=aV.mp h
   cases h
   rw[aq0]at hb
   obtain⟨f,id,r,hf,hc,ho,hv⟩:=aiB a.calm h1 aj W
   obtain⟨_,hg,hm⟩:=oG a hb.1
   exact agn hf hc ho hg hm hv (o.ow a h2) hb.2
  ·split at h
   ·next ex=>
    obtain⟨ty,h1,h⟩:=aqY.mp h
    obtain⟨fa,h2,h⟩:=aqY.mp h
    obtain⟨hb,h⟩:=aV.mp h
    cases h
    simp only[aq0]at hb
    obtain⟨b1,b2,b3⟩:=hb
    obtain⟨_,hg,hm⟩:=oG a b1
    obtain⟨_,hg2,hm2⟩:=oG a b2
    cases eq_of_beq ex
    exact akc hg hm ⟨by decide +kernel,by decide,by decide⟩ hg2 hm2 (aiA h1) (o.ow a h2) b3
   ·obtain⟨o1,h1,h⟩:=aqY.mp h
    obtain⟨fa,h2,h⟩:=aqY.mp h
    obtain⟨fb,h3,h⟩:=aqY.mp h
    obtain⟨hb,h⟩:=aV.mp h
    cases h
    rw[aq0]at hb
    exact adR a h1 hb.1 (o.ow a h2) (o.ow a h3) hb.2 rfl
  ·obtain⟨o1,h1,h⟩:=aqY.mp h
   obtain⟨fa,h2,h⟩:=aqY.mp h
   obtain⟨fb,h3,h⟩:=aqY.mp h
   obtain⟨hb,h⟩:=aV.mp h
   cases h
   simp only[aq0]at hb
   exact adR a h1 hb.1 (o.ow a h2) (o.ow a h3) hb.2.1 hb.2.2
  ·cases h
def stE(t:Tr)(c:Tc):Expr->Option QF
 |.Name x _=>(match KY c x with
  |some i=>some (aq i)
  |none=>match c.G.lookup x with
   |some (.con d)=>gd (Gz c.sc x&&!Fx x) (some (qC d))
   |_=>none)
 |.Constant (.int i) _ _=>some (qC (.int i))
 |.Constant (.str x) _ _=>some (qC (.str x))
 |.Constant (.bool x) _ _=>some (qC (.bool x))
 |.Constant .none _ _=>some (qC .none)
 |.BinOp a op b _=>(akF op).bind fun o=>(t.W c a).bind fun fa=>(t.W c b).bind fun fb=>some (aA o fa fb)
 |.UnaryOp .USub a _=>(t.W c a).bind fun fa=>some (fj Vd fa)
 |.UnaryOp .Not a _=>(t.W c a).bind fun fa=>some (RD fa)
 |.BoolOp _ [a] _=>t.E c a
 |.BoolOp .And (a::b::r) p=>(t.E c a).bind fun fa=>(t.E c (.BoolOp .And (b::r) p)).bind fun fb=>some (zR fa fb)
 |.BoolOp .Or (a::b::r) p=>(t.E c a).bind fun fa=>(t.E c (.BoolOp .Or (b::r) p)).bind fun fb=>some (afU fa fb)
 |.Compare a [op] [b] _=>(match isN op with
  |some neg=>(T8 b).bind fun d=>(t.W c a).bind fun fa=>some (wU neg d fa)
  |none=>(Oi op).bind fun o=>(t.W c a).bind fun fa=>(t.W c b).bind fun fb=>gd (!yw b) (some (aA o fa fb)))
 |.Compare a [op,op'] [b,b2] _=>(Oi op).bind fun o=>(Oi op').bind fun o'=>(t.W c a).bind fun fa=>(t.W c b).bind fun fb=>(t.W c b2).bind fun fc=>gd (!yw b2) (some (Wu (pq o o' fa fb fc)))
 |.IfExp d a b _=>(t.T c d).bind fun ta=>(t.E c a).bind fun fa=>(t.E c b).bind fun fb=>some (K6 ta fa fb)
 |.Tuple es _ _=>(FW t c es).bind fun fr=>some (bJ fr)
 |.List es _=>(FW t c es).bind fun fr=>some (zB fr)
 |.Subscript a b _=>(match b with
  |.Slice lo hi none _=>(t.W c a).bind fun fa=>(trO t c lo).bind fun fl=>(trO t c hi).bind fun fh=>some (Qn fa fl fh)
  |b=>gd (!Zd b) ((t.W c a).bind fun fa=>(t.W c b).bind fun fb=>some (aA aW fa fb)))
 |.ListComp elt [⟨tg,iter,ifs,0⟩] scope _=>XM t c elt tg iter ifs scope
 |.Call (.Name x _) (e::es) [] _=>aaj t c x e es
 |_=>none
def stW(t:Tr)(c:Tc):Expr->Option QF
 |.Name x p=>(match KY c x with
  |some i=>some (ao i)
  |none=>t.E c (.Name x p))
 |e=>t.E c e
def valT:Expr->Bool
 |.UnaryOp .Not _ _=>false
 |.BoolOp _ _ _=>false
 |.IfExp _ _ _ _=>false
 |.Compare _ _ _ _=>false
 |_=>true
theorem ahP{e:Expr}{env:PySem.Env}(h:valT e=true):∀whole,isTrue e env whole=(do let v ←whole;standAt e.pos;holding [v] (truthy v)):=fun whole=>by
 cases e with
 | UnaryOp o a p=>cases o <;> first | (with_unfolding_all rfl) | cases h
 |BoolOp _ _ _=>cases h
 |IfExp _ _ _ _=>cases h
 |Compare _ _ _ _=>cases h
 |_=>with_unfolding_all rfl
def stT(t:Tr)(c:Tc):Expr->Option QT
 |.UnaryOp .Not a _=>(t.T c a).bind fun ta=>some (jQ ta)
 |.BoolOp _ [a] _=>t.T c a
 |.BoolOp .And (a::b::r) p=>(t.T c a).bind fun ta=>(t.T c (.BoolOp .And (b::r) p)).bind fun tb=>some (jR ta tb)
 |.BoolOp .Or (a::b::r) p=>(t.T c a).bind fun ta=>(t.T c (.BoolOp .Or (b::r) p)).bind fun tb=>some (La ta tb)
 |.Compare a [op] [b] _=>(match isN op with
  |some neg=>(T8 b).bind fun d=>(t.W c a).bind fun fa=>some (bA (wU neg d fa))
  |none=>(Oi op).bind fun o=>(t.W c a).bind fun fa=>(t.W c b).bind fun fb=>gd (!yw b) (some (bA (aA o fa fb))))
 |.Compare a [op,op'] [b,b2] _=>(Oi op).bind fun o=>(Oi op').bind fun o'=>(t.W c a).bind fun fa=>(t.W c b).bind fun fb=>(t.W c b2).bind fun fc=>gd (!yw b2) (some (pq o o' fa fb fc))
 |e=>gd (valT e) ((t.W c e).bind fun fa=>some (gY fa))
def trF(t:Tr)(c:Tc)(firm:Bool)(e:Expr):Option QF:=match firm with
 |true=>t.E c e
 |false=>t.W c e
def isTup:Expr->Bool
 |.Tuple _ _ _=>true
 |_=>false
def stI(t:Tr)(c:Tc)(firm:Bool)(tg:Expr):Expr->Option IF
 |.Call (.Name x p) [a] [] pos=>(match vh c x "range" with
  |true=>(t.W c a).bind fun fa=>gd (nst a) (some (zm fa))
  |false=>match vh c x "enumerate" with
   |true=>(trF t c firm a).bind fun fa=>gd (nst a&&isTup tg) (some (yE 0 fa))
   |false=>(trF t c firm (.Call (.Name x p) [a] [] pos)).bind fun fa=>some (cU fa))
 |.Call (.Name x p) [a,b] [] pos=>(match vh c x "range" with
  |true=>(t.W c a).bind fun fa=>(t.W c b).bind fun fb=>gd (nst a&&nst b) (some (Cu fa fb))
  |false=>match vh c x "zip" with
   |true=>(trF t c firm a).bind fun fa=>(trF t c firm b).bind fun fb=>gd (nst a&&(nst b&&isTup tg)) (some (Fv fa fb))
   |false=>(trF t c firm (.Call (.Name x p) [a,b] [] pos)).bind fun fa=>some (cU fa))
 |.Call (.Name x p) [a] [⟨some kw,.Constant (.int i) j kp,kp2⟩] pos=>gd (vh c x "enumerate"&&(kw=="start"&&(decide (-(2 ^ 63)<=i/\i < 2 ^ 63)&&(nst a&&isTup tg)))) ((trF t c firm a).bind fun fa=>some (yE i fa))
 |e=>(trF t c firm e).bind fun fa=>some (cU fa)
theorem Yp{b:Expr}(h:(!Zd b)=true):PlainIx b:=fun v i=>by
 cases b <;> first | rfl | cases h
section
variable{aj:aQ}{c:Tc}{X:Cx}{W:WX}{k:Nat}{t:Tr}
theorem alc(o:t.Ok)(a:Amb aj c X W k){e:Expr}{f:QF}(h:stE t c e=some f):QE aj X W e f:=by
 unfold stE at h
 split at h
 ·split at h
  ·next i hi=>
   cases h
   obtain⟨s1,s2,s3,s4⟩:=Af a hi
   exact ajo s1 s2 s3 s4
  ·split at h
   ·next d hl=>
    obtain⟨hb,h⟩:=aV.mp h
    cases h
    simp only[aq0,ark]at hb
    obtain⟨v,u,h1,h2,h3⟩:=a.gl _ _ hl
    exact PE.weak (pe_glob (tH a hb.1) h1 h2 (uo hb.2).1) fun σ H Q ⟨g,ρ,M,I,z⟩=>z v H (Ex.refl H) (h3 g H)
   ·cases h
 ·cases h;exact akH
 ·cases h;exact ajV
 ·cases h;exact alE
 ·cases h;exact akg
 ·obtain⟨op,h1,h⟩:=aqY.mp h
  obtain⟨fa,h2,h⟩:=aqY.mp h
  obtain⟨fb,h3,h⟩:=aqY.mp h
  cases h
  obtain⟨r,r1,r2⟩:=aha h1 X aj W
  exact ajv r1 r2 (o.ow a h2) (o.ow a h3)
 ·obtain⟨fa,h2,h⟩:=aqY.mp h
  cases h
  exact aje (o.ow a h2)
 ·obtain⟨fa,h2,h⟩:=aqY.mp h
  cases h
  exact ahu (o.ow a h2)
 ·exact pe_one (o.oe a h)
 ·obtain⟨fa,h2,h⟩:=aqY.mp h
  obtain⟨fb,h3,h⟩:=aqY.mp h
  cases h
  exact agV (o.oe a h2) (o.oe a h3)
 ·obtain⟨fa,h2,h⟩:=aqY.mp h
  obtain⟨fb,h3,h⟩:=aqY.mp h
  cases h
  exact akV (o.oe a h2) (o.oe a h3)
 ·split at h
  ·next neg hn=>
   obtain⟨d,h1,h⟩:=aqY.mp h
   obtain⟨fa,h2,h⟩:=aqY.mp h
   cases h
   obtain⟨v,v1,v2,v3⟩:=aaR (X:=X) h1
   refine alN v1 (adn hn v2) (o.ow a h2) v3 (Dm ?_)
   unfold T8 at h1
   split at h1 <;> first | rfl | cases h1
  ·obtain⟨op,h1,h⟩:=aqY.mp h
   obtain⟨fa,h2,h⟩:=aqY.mp h
   obtain⟨fb,h3,h⟩:=aqY.mp h
   obtain⟨hb,h⟩:=aV.mp h
   cases h
   obtain⟨r,r1,r2⟩:=Ck h1 a.rm aj W
   exact ahT r1 r2 (o.ow a h2) (o.ow a h3) (Dm (by simpa using hb))
 ·obtain⟨op,h1,h⟩:=aqY.mp h
  obtain⟨op',h1',h⟩:=aqY.mp h
  obtain⟨fa,h2,h⟩:=aqY.mp h
  obtain⟨fb,h3,h⟩:=aqY.mp h
  obtain⟨fc,h4,h⟩:=aqY.mp h
  obtain⟨hb,h⟩:=aV.mp h
  cases h
  obtain⟨r,r1,r2⟩:=Ck h1 a.rm aj W
  obtain⟨r',r1',r2'⟩:=Ck h1' a.rm aj W
  exact af6 r1 r1' r2 r2' (o.ow a h2) (o.ow a h3) (o.ow a h4) (Ws (by simpa using hb))
 ·obtain⟨ta,h1,h⟩:=aqY.mp h
  obtain⟨fa,h2,h⟩:=aqY.mp h
  obtain⟨fb,h3,h⟩:=aqY.mp h
  cases h
  exact aeV (o.ot a h1) (o.oe a h2) (o.oe a h3)
 ·obtain⟨fr,h1,h⟩:=aqY.mp h
  cases h
  exact akv (uF o a h1).1
 ·obtain⟨fr,h1,h⟩:=aqY.mp h
  cases h
  exact akY (uF o a h1).1
 ·split at h
  ·obtain⟨fa,h1,h⟩:=aqY.mp h
   obtain⟨fl,h2,h⟩:=aqY.mp h
   obtain⟨fh,h3,h⟩:=aqY.mp h
   cases h
   exact alZ (o.ow a h1) (aeG o a h2) (aeG o a h3)
  ·obtain⟨hb,h⟩:=aV.mp h
   obtain⟨fa,h1,h⟩:=aqY.mp h
   obtain⟨fb,h2,h⟩:=aqY.mp h
   cases h
   exact ali (o.ow a h1) (o.ow a h2) (Yp hb)
 ·exact abu o a h
 ·exact aej o a h
 ·cases h
theorem ajR(o:t.Ok)(a:Amb aj c X W k){e:Expr}{f:QF}(h:stW t c e=some f):QW aj X W e f:=by
 unfold stW at h
 split at h
 ·split at h
  ·next i hi=>
   cases h
   obtain⟨s1,s2,s3,s4⟩:=Af a hi
   exact ajf s1 s2 s3 s4
  ·exact(o.oe a h).w
 ·exact(o.oe a h).w
theorem aj2{a b:Expr}{rest:List Expr}{ta tb:QT}{pos:Pos}(ha:tD aj X W a ta)(hb:tD aj X W (.BoolOp .And (b::rest) pos) tb):tD aj X W (.BoolOp .And (a::b::rest) pos) (jR ta tb):=by
 have hb':QWt aj X W (.BoolOp .And (b::rest) pos) tb:=⟨fun wh pins s σ H Q I q=>hb.run pins s σ H Q I q⟩
 exact PW.pt (ajj ha hb')
theorem amb{a b:Expr}{rest:List Expr}{ta tb:QT}{pos:Pos}(ha:tD aj X W a ta)(hb:tD aj X W (.BoolOp .Or (b::rest) pos) tb):tD aj X W (.BoolOp .Or (a::b::rest) pos) (La ta tb):=by
 have hb':QWt aj X W (.BoolOp .Or (b::rest) pos) tb:=⟨fun wh pins s σ H Q I q=>hb.run pins s σ H Q I q⟩
 exact PW.pt (alQ ha hb')
theorem aiP(o:t.Ok)(a:Amb aj c X W k){e:Expr}{f:QT}(h:stT t c e=some f):tD aj X W e f:=by
 unfold stT at h
 split at h
 ·obtain⟨ta,h1,h⟩:=aqY.mp h
  cases h
  exact akf (o.ot a h1)
 ·next op _ _=>
  cases op
  ·exact PW.pt (pw_and1 (o.ot a h))
  ·exact PW.pt (pw_or1 (o.ot a h))
 ·obtain⟨ta,h1,h⟩:=aqY.mp h
  obtain⟨tb,h2,h⟩:=aqY.mp h
  cases h
  exact aj2 (o.ot a h1) (o.ot a h2)
 ·obtain⟨ta,h1,h⟩:=aqY.mp h
  obtain⟨tb,h2,h⟩:=aqY.mp h
  cases h
  exact amb (o.ot a h1) (o.ot a h2)
 ·split at h
  ·next neg hn=>
   obtain⟨d,h1,h⟩:=aqY.mp h
   obtain⟨fa,h2,h⟩:=aqY.mp h
   cases h
   obtain⟨v,v1,v2,v3⟩:=aaR (X:=X) h1
   refine al3 v1 (adn hn v2) (o.ow a h2) v3 (Dm ?_)
   unfold T8 at h1
   split at h1 <;> first | rfl | cases h1
  ·obtain⟨op,h1,h⟩:=aqY.mp h
   obtain⟨fa,h2,h⟩:=aqY.mp h
   obtain⟨fb,h3,h⟩:=aqY.mp h
   obtain⟨hb,h⟩:=aV.mp h
   cases h
   obtain⟨r,r1,r2⟩:=Ck h1 a.rm aj W
   exact aji r1 r2 (o.ow a h2) (o.ow a h3) (Dm (by simpa using hb))
 ·obtain⟨op,h1,h⟩:=aqY.mp h
  obtain⟨op',h1',h⟩:=aqY.mp h
  obtain⟨fa,h2,h⟩:=aqY.mp h
  obtain⟨fb,h3,h⟩:=aqY.mp h
  obtain⟨fc,h4,h⟩:=aqY.mp h
  obtain⟨hb,h⟩:=aV.mp h
  cases h
  obtain⟨r,r1,r2⟩:=Ck h1 a.rm aj W
  obtain⟨r',r1',r2'⟩:=Ck h1' a.rm aj W
  exact afl r1 r1' r2 r2' (o.ow a h2) (o.ow a h3) (o.ow a h4) (Ws (by simpa using hb))
 ·obtain⟨hv,h⟩:=aV.mp h
  obtain⟨fa,h1,h⟩:=aqY.mp h
  cases h
  exact aj3 (o.ow a h1) (ahP hv)
theorem CJ(o:t.Ok)(a:Amb aj c X W k){firm:Bool}{e:Expr}{f:QF}(h:trF t c firm e=some f):QF' aj X W firm e f:=by
 cases firm
 ·exact o.ow a h
 ·exact o.oe a h
theorem Oo{e:Expr}(h:isTup e=true):∃es j p,e=.Tuple es j p:=by
 cases e <;> first | exact⟨_,_,_,rfl⟩ | cases h
theorem akz(o:t.Ok)(a:Amb aj c X W k){firm:Bool}{tg e:Expr}{f:IF}(h:stI t c firm tg e=some f):QI aj X W firm tg e f:=by
 unfold stI at h
 split at h
 ·split at h
  ·next hb=>
   obtain⟨fa,h1,h⟩:=aqY.mp h
   obtain⟨hs,h⟩:=aV.mp h
   cases h
   obtain⟨rfl,hg,hm⟩:=oG a hb
   exact adF hg hm (o.ow a h1) hs
  ·split at h
   ·next hb=>
    obtain⟨fa,h1,h⟩:=aqY.mp h
    obtain⟨hs,h⟩:=aV.mp h
    cases h
    obtain⟨rfl,hg,hm⟩:=oG a hb
    rw[aq0]at hs
    obtain⟨es,j,p,rfl⟩:=Oo hs.2
    exact ahJ hg hm (CJ o a h1) hs.1
   ·obtain⟨fa,h1,h⟩:=aqY.mp h
    cases h
    exact Yz (CJ o a h1)
 ·split at h
  ·next hb=>
   obtain⟨fa,h1,h⟩:=aqY.mp h
   obtain⟨fb,h2,h⟩:=aqY.mp h
   obtain⟨hs,h⟩:=aV.mp h
   cases h
   obtain⟨rfl,hg,hm⟩:=oG a hb
   rw[aq0]at hs
   exact adg hg hm (o.ow a h1) (o.ow a h2) hs.1 hs.2
  ·split at h
   ·next hb=>
    obtain⟨fa,h1,h⟩:=aqY.mp h
    obtain⟨fb,h2,h⟩:=aqY.mp h
    obtain⟨hs,h⟩:=aV.mp h
    cases h
    obtain⟨rfl,hg,hm⟩:=oG a hb
    simp only[aq0]at hs
    obtain⟨es,j,p,rfl⟩:=Oo hs.2.2
    exact aiS hg hm (CJ o a h1) (CJ o a h2) hs.1 hs.2.1
   ·obtain⟨fa,h1,h⟩:=aqY.mp h
    cases h
    exact Yz (CJ o a h1)
 ·obtain⟨hs,h⟩:=aV.mp h
  obtain⟨fa,h1,h⟩:=aqY.mp h
  cases h
  simp only[aq0,decide_eq_true_eq]at hs
  obtain⟨hb,hk,hi,hn,ht⟩:=hs
  obtain⟨rfl,hg,hm⟩:=oG a hb
  cases eq_of_beq hk
  obtain⟨es,j,p,rfl⟩:=Oo ht
  exact aeS hi.1 hi.2 hg hm (CJ o a h1) hn
 ·obtain⟨fa,h1,h⟩:=aqY.mp h
  cases h
  exact Yz (CJ o a h1)
end
def MV.n:MV->Nat
 |.q n _=>n
 |.g n _=>n
def MV.qt:MV->Bool
 |.q _ _=>true
 |.g _ _=>false
def tbN(tb:List (Str×MV))(n:Nat):Bool:=tb.all fun p=>p.2.n==n
def tbQ(tb:List (Str×MV)):Bool:=tb.all fun p=>p.2.qt
theorem qH{α:Type}{c:Str}{v:α}:∀{tb:List (Str×α)},tb.lookup c=some v->(c,v)∈tb
 |[],h=>nomatch h
 |(y,u)::r,h=>by
  rw[arB]at h
  split at h
  ·next e=>
   cases h
   rw[eq_of_beq e]
   exact aq4
  ·exact aq5 _ (qH h)
section
variable{aj:aQ}{c:Tc}{X:Cx}{W:WX}{k:Nat}{t:Tr}
theorem Xo(a:Amb aj c X W k){m:Str}{n:Nat}{tb:List (Str×MV)}(h:c.hs.Ms.lookup m=some tb)(hn:tbN tb n=true):Jm X aj k m n tb:=fun y v hv=>by
 refine⟨a.hk.ms m tb h y v hv,?_⟩
 have:=ars.mp hn _ (qH hv)
 cases v <;> exact eq_of_beq this
def aag(t:Tr)(c:Tc)(o:Expr)(m:Str)(es:List Expr)(apos pos:Pos):Option QF:=
 (c.hs.Ms.lookup m).bind fun tb=>(t.W c o).bind fun fo=>(FW t c es).bind fun as=>
  gd (tbQ tb&&(tbN tb (es.length+1)&&(baseOk o&&(decide (es.length < 30)&&(apos.endLine==pos.line))))) (some (aO tb fo as))
theorem acX(o:t.Ok)(a:Amb aj c X W k){b:Expr}{m:Str}{es:List Expr}{apos pos:Pos}{f:QF}(h:aag t c b m es apos pos=some f):QE aj X W (.Call (.Attribute b m apos) es [] pos) f:=by
 unfold aag at h
 obtain⟨tb,h1,h⟩:=aqY.mp h
 obtain⟨fo,h2,h⟩:=aqY.mp h
 obtain⟨as,h3,h⟩:=aqY.mp h
 obtain⟨hb,h⟩:=aV.mp h
 cases h
 simp only[aq0,decide_eq_true_eq]at hb
 obtain⟨_,b2,b3,b4,b5⟩:=hb
 obtain⟨i1,i2,i3⟩:=uF o a h3
 cases es with
 |nil=>
  cases h3
  exact af7 a.tk a.rm (Xo a h1 b2) (o.ow a h2) b3 b5
 |cons e es=>exact ahR a.tk a.rm (Xo a h1 b2) (o.ow a h2) i1 i3 b3 i2 b5 b4
def inN:CmpOp->Option Bool
 |.In=>some false
 |.NotIn=>some true
 |_=>none
theorem acV{op:CmpOp}{neg:Bool}(hr:Room k X.A)(h:inN op=some neg):OpR X (compareOp op) (rInD X neg):=by
 have h65:X.A.units+64 < cLine:=by have:=hr.un;omega
 cases op <;> cases h
 ·exact op_inD h65
 ·exact op_notInD h65
def abU(t:Tr)(c:Tc)(e:Expr)(op:CmpOp)(o:Expr)(f:Str):Option QF:=
 (inN op).bind fun neg=>(c.hs.df.lookup f).bind fun _=>(t.E c e).bind fun fe=>(t.W c o).bind fun fo=>gd (baseOk o) (some (OD neg f fe fo))
theorem ald{o e:Expr}{f:Str}{p1 pos:Pos}{fo fk:QF}{neg:Bool}{op:CmpOp}(co:jG X.K aj)(hw:aj.w=X.w)(hr:OpR X (compareOp op) (rInD X neg))(hk:QE aj X W e fk)(ho:QW aj X W o fo)(hb:baseOk o=true):tD aj X W (.Compare e [op] [.Attribute o f p1] pos) (bA (OD neg f fk fo)):=
 PT.weak (pt_cmpR hr hk (pe_fld ho (mU hb)) (by cases op <;> rfl)) fun σ H Q ⟨g,ρ,M,I,h⟩=>by
  refine agj co hw σ H _ ⟨g,ρ,M,I,h.bnd.mono (fun d h1 v H' e' r'=>?_) fun _ z=>z⟩
  obtain⟨k,h2,h3⟩:=Dz r'.weak h1
  exact⟨k,h2,h3 H' e'⟩
theorem abA(o:t.Ok)(a:Amb aj c X W k){e b:Expr}{op:CmpOp}{m:Str}{p1 pos:Pos}{f:QF}(h:abU t c e op b m=some f):QE aj X W (.Compare e [op] [.Attribute b m p1] pos) f/\tD aj X W (.Compare e [op] [.Attribute b m p1] pos) (bA f):=by
 unfold abU at h
 obtain⟨neg,h1,h⟩:=aqY.mp h
 obtain⟨_,_,h⟩:=aqY.mp h
 obtain⟨fe,h2,h⟩:=aqY.mp h
 obtain⟨fo,h3,h⟩:=aqY.mp h
 obtain⟨hb,h⟩:=aV.mp h
 cases h
 exact⟨aky a.hk.co a.hk.hw (acV a.rm h1) (o.oe a h2) (o.ow a h3) hb,ald a.hk.co a.hk.hw (acV a.rm h1) (o.oe a h2) (o.ow a h3) hb⟩
def Xm(t:Tr)(c:Tc)(e:Expr)(op:CmpOp)(x:Str):Option QF:=
 (inN op).bind fun neg=>match c.G.lookup x with
  |some (.dic kvs)=>(t.W c e).bind fun fe=>gd (Gz c.sc x&&!Fx x) (some (Va neg kvs fe))
  |_=>none
theorem ZR(o:t.Ok)(a:Amb aj c X W k){e:Expr}{op:CmpOp}{x:Str}{p1 pos:Pos}{f:QF}(h:Xm t c e op x=some f):QE aj X W (.Compare e [op] [.Name x p1] pos) f/\tD aj X W (.Compare e [op] [.Name x p1] pos) (bA f):=by
 unfold Xm at h
 obtain⟨neg,h1,h⟩:=aqY.mp h
 split at h
 ·next kvs hl=>
  obtain⟨fe,h2,h⟩:=aqY.mp h
  obtain⟨hb,h⟩:=aV.mp h
  cases h
  simp only[aq0,ark]at hb
  refine akD ?_ (a.gl x _ hl) (tH a hb.1) (uo hb.2).1 (o.ow a h2)
  cases op <;> cases h1
  ·exact .inl ⟨rfl,rfl⟩
  ·exact .inr ⟨rfl,rfl⟩
 ·cases h
def Zz(t:Tr)(c:Tc):Expr->Option QF
 |.Call (.Name y _) [b] [] _=>(match vh c y "set" with
  |true=>(t.W c b).bind fun fb=>gd (nst b) (some (fj RK fb))
  |false=>(t.W c (.Call (.Name y ⟨0,0,0,0⟩) [b] [] ⟨0,0,0,0⟩)).bind fun _=>none)
 |.SetComp elt [⟨tg,iter,ifs,0⟩] scope _=>(t.I c false tg iter).bind fun it=>(QX (c.inn scope) tg).bind fun jt=>(O5 t (c.inn scope) ifs).bind fun tt=>(t.E (c.inn scope) elt).bind fun te=>
  gd (blkC c.N c.sc scope (mY tg jt.1)&&(Ln jt.1 ((mY tg jt.1).map (·.2))&&!yw iter)) (some (Ce it jt.2 ((mY tg jt.1).map (·.2)) tt te))
 |e=>(t.W c e).bind fun fe=>gd (nst e) (some (fj Jb fe))
theorem afY(a:Amb aj c X W k):X.A.units+65 < cLine:=by have:=a.rm.un;omega
theorem acK(o:t.Ok)(a:Amb aj c X W k)(hg:Gl X "sorted")(hm:X.mg "sorted"=none){e:Expr}{p pos:Pos}{f:QF}(h:Zz t c e=some f):QE aj X W (.Call (.Name "sorted" p) [e] [] pos) f:=by
 unfold Zz at h
 split at h
 ·split at h
  ·next hb=>
   obtain⟨fb,h1,h⟩:=aqY.mp h
   obtain⟨hn,h⟩:=aV.mp h
   cases h
   obtain⟨rfl,hg2,hm2⟩:=oG a hb
   exact ahv (afY a) a.calm hg hm hg2 hm2 (o.ow a h1) hn
  ·obtain⟨_,_,h⟩:=aqY.mp h
   cases h
 ·obtain⟨it,h1,h⟩:=aqY.mp h
  obtain⟨⟨js,tf⟩,h2,h⟩:=aqY.mp h
  obtain⟨tt,h3,h⟩:=aqY.mp h
  obtain⟨te,h4,h⟩:=aqY.mp h
  obtain⟨hb,h⟩:=aV.mp h
  cases h
  simp only[aq0,ark]at hb
  obtain⟨b1,b2,b3⟩:=hb
  exact acT (afY a) a.calm a.nd hg hm (o.oi a h1) (by rw[a.hN,a.hs];exact b1) (ou b2) (fun s H C cl fp=>tV (a.inn _ s H C cl fp) h2) (fun s H C cl fp=>uK o (a.inn _ s H C cl fp) h3) (fun s H C cl fp=>o.oe (a.inn _ s H C cl fp) h4) (pX b3)
 ·obtain⟨fe,h1,h⟩:=aqY.mp h
  obtain⟨hn,h⟩:=aV.mp h
  cases h
  exact ahm (afY a) hg hm (o.ow a h1) hn
def QS(t:Tr)(c:Tc)(elt tg iter:Expr)(ifs:List Expr)(tg1 iter1:Expr)(ifs1:List Expr)(scope:Scope):Option QF:=
 (t.I c false tg iter).bind fun it=>(QX (c.inn scope) tg).bind fun jt=>(O5 t (c.inn scope) ifs).bind fun tt=>(t.I (c.inn scope) true tg1 iter1).bind fun it1=>(QX (c.inn scope) tg1).bind fun jt1=>(O5 t (c.inn scope) ifs1).bind fun tt1=>(t.E (c.inn scope) elt).bind fun te=>
  gd (blkC c.N c.sc scope (mY tg jt.1++mY tg1 jt1.1)&&(Ln ((mY tg1 jt1.1).map (·.2)) ((mY tg jt.1++mY tg1 jt1.1).map (·.2))&&(Ln jt.1 ((mY tg jt.1++mY tg1 jt1.1).map (·.2))&&(Ln jt1.1 ((mY tg1 jt1.1).map (·.2))&&(!yw iter&&!yw iter1)))))
   (some (Dc it jt.2 ((mY tg jt.1++mY tg1 jt1.1).map (·.2)) tt it1 jt1.2 ((mY tg1 jt1.1).map (·.2)) tt1 te))
theorem afq(o:t.Ok)(a:Amb aj c X W k){elt tg iter tg1 iter1:Expr}{ifs ifs1:List Expr}{scope:Scope}{pos:Pos}{f:QF}(h:QS t c elt tg iter ifs tg1 iter1 ifs1 scope=some f):QE aj X W (.ListComp elt [⟨tg,iter,ifs,0⟩,⟨tg1,iter1,ifs1,0⟩] scope pos) f:=by
 unfold QS at h
 obtain⟨it,h1,h⟩:=aqY.mp h
 obtain⟨⟨js,tf⟩,h2,h⟩:=aqY.mp h
 obtain⟨tt,h3,h⟩:=aqY.mp h
 obtain⟨it1,h4,h⟩:=aqY.mp h
 obtain⟨⟨js1,tf1⟩,h5,h⟩:=aqY.mp h
 obtain⟨tt1,h6,h⟩:=aqY.mp h
 obtain⟨te,h7,h⟩:=aqY.mp h
 obtain⟨hb,h⟩:=aV.mp h
 cases h
 simp only[aq0,ark]at hb
 obtain⟨b1,b2,b3,b4,b5,b6⟩:=hb
 exact ai4 a.calm a.nd (o.oi a h1) (by rw[a.hN,a.hs];exact b1) (ou b2) (ou b3) (ou b4) (fun s H C cl fp=>tV (a.inn _ s H C cl fp) h2) (fun s H C cl fp=>uK o (a.inn _ s H C cl fp) h3) (fun s H C cl fp=>o.oi (a.inn _ s H C cl fp) h4) (fun s H C cl fp=>tV (a.inn _ s H C cl fp) h5) (fun s H C cl fp=>uK o (a.inn _ s H C cl fp) h6) (fun s H C cl fp=>o.oe (a.inn _ s H C cl fp) h7) (pX b5) (fun env=>pX b6)
def xE(t:Tr)(c:Tc):Expr->Option QF
 |.Attribute o f _=>gd (baseOk o) ((t.W c o).bind fun fo=>some (fu f fo))
 |.Call (.Attribute o m apos) es [] pos=>aag t c o m es apos pos
 |.Compare e [op] [.Attribute o f _] _=>abU t c e op o f
 |.Compare e [op] [.Name x _] _=>Xm t c e op x
 |.Subscript (.Name x _) e _=>(match c.G.lookup x with
  |some (.dic kvs)=>(t.W c e).bind fun fe=>gd (Gz c.sc x&&(!Fx x&&!Zd e)) (some (abQ kvs fe))
  |_=>none)
 |.ListComp elt [⟨tg,iter,ifs,0⟩,⟨tg1,iter1,ifs1,0⟩] scope _=>QS t c elt tg iter ifs tg1 iter1 ifs1 scope
 |.Call (.Name x _) [e] [] _=>(match vh c x "sorted" with
  |true=>Zz t c e
  |false=>match vh c x "list",e with
   |true,.Attribute o f _=>(c.hs.df.lookup f).bind fun _=>(t.W c o).bind fun fo=>gd (baseOk o) (some (Cy f fo))
   |_,_=>none)
 |_=>none
theorem alO(o:t.Ok)(a:Amb aj c X W k){e:Expr}{f:QF}(h:xE t c e=some f):QE aj X W e f:=by
 unfold xE at h
 split at h
 ·obtain⟨hb,h⟩:=aV.mp h
  obtain⟨fo,h1,h⟩:=aqY.mp h
  cases h
  exact aiU a.hk.co (o.ow a h1) hb
 ·exact acX o a h
 ·exact(abA o a h).1
 ·exact(ZR o a h).1
 ·split at h
  ·next kvs hl=>
   obtain⟨fe,h1,h⟩:=aqY.mp h
   obtain⟨hb,h⟩:=aV.mp h
   cases h
   simp only[aq0]at hb
   exact aiD (a.gl _ _ hl) (tH a hb.1) (uo (by simpa using hb.2.1)).1 (o.ow a h1) (Yp hb.2.2)
  ·cases h
 ·exact afq o a h
 ·split at h
  ·next hb=>
   obtain⟨rfl,hg,hm⟩:=oG a hb
   exact acK o a hg hm h
  ·split at h
   ·next hb=>
    obtain⟨_,_,h⟩:=aqY.mp h
    obtain⟨fo,h1,h⟩:=aqY.mp h
    obtain⟨hb2,h⟩:=aV.mp h
    cases h
    obtain⟨rfl,hg,hm⟩:=oG a hb
    exact ae6 a.hk.co a.hk.hw a.calm hg hm (o.ow a h1) hb2
   ·cases h
 ·cases h
def xW(t:Tr)(c:Tc):Expr->Option QF
 |.Attribute o f _=>gd (baseOk o) ((t.W c o).bind fun fo=>some (bF f fo))
 |_=>none
theorem alX(o:t.Ok)(a:Amb aj c X W k){e:Expr}{f:QF}(h:xW t c e=some f):QW aj X W e f:=by
 unfold xW at h
 split at h
 ·obtain⟨hb,h⟩:=aV.mp h
  obtain⟨fo,h1,h⟩:=aqY.mp h
  cases h
  exact akE a.hk.co (o.ow a h1) hb
 ·cases h
def xT(t:Tr)(c:Tc):Expr->Option QT
 |.Compare e [op] [.Attribute o f _] _=>(abU t c e op o f).bind fun g=>some (bA g)
 |.Compare e [op] [.Name x _] _=>(Xm t c e op x).bind fun g=>some (bA g)
 |_=>none
theorem alC(o:t.Ok)(a:Amb aj c X W k){e:Expr}{f:QT}(h:xT t c e=some f):tD aj X W e f:=by
 unfold xT at h
 split at h
 ·obtain⟨g,h1,h⟩:=aqY.mp h
  cases h
  exact(abA o a h1).2
 ·obtain⟨g,h1,h⟩:=aqY.mp h
  cases h
  exact(ZR o a h1).2
 ·cases h
def xI(t:Tr)(c:Tc)(firm:Bool):Expr->Option IF
 |.Attribute o f _=>(match firm with
  |true=>none
  |false=>(c.hs.df.lookup f).bind fun _=>gd (baseOk o) ((t.W c o).bind fun fo=>some (CP f fo)))
 |_=>none
theorem al0(o:t.Ok)(a:Amb aj c X W k){firm:Bool}{tg e:Expr}{f:IF}(h:xI t c firm e=some f):QI aj X W firm tg e f:=by
 unfold xI at h
 split at h
 ·split at h
  ·cases h
  ·obtain⟨_,_,h⟩:=aqY.mp h
   obtain⟨hb,h⟩:=aV.mp h
   obtain⟨fo,h1,h⟩:=aqY.mp h
   cases h
   exact afs a.hk.co a.hk.hw (o.ow a h1) hb
 ·cases h
def els{α:Type}(a b:Option α):Option α:=match a with
 |some x=>some x
 |none=>b
theorem wj{α:Type}{a b:Option α}{x:α}(h:els a b=some x):a=some x∨b=some x:=by
 cases a with
 |none=>exact .inr h
 |some y=>exact .inl h
def xtE(t:Tr)(c:Tc)(e:Expr):Option QF:=els (xE t c e) (stE t c e)
def xtW(t:Tr)(c:Tc)(e:Expr):Option QF:=els (xW t c e) (stW t c e)
def xtT(t:Tr)(c:Tc)(e:Expr):Option QT:=els (xT t c e) (stT t c e)
def xtI(t:Tr)(c:Tc)(firm:Bool)(tg e:Expr):Option IF:=els (xI t c firm e) (stI t c firm tg e)
end
structure u6(aj:aQ)(c:Tc)(X:Cx)(W:WX)(k:Nat):Prop extends Amb aj c X W k where
 ps:PassesOwn (model X.prog X.w) X.A X.env X.xe
 st:X.stack=X.env::X.outer
 fr:X.env.frame=some X.env.locals
 kf:X.env.scope.kind=.function
structure Ts where
 G:Tc->Expr->Option GF
 H:Tc->Expr->Option GT
 S:Tc->Stmt->Option SF
 B:Tc->List Stmt->Option SF
structure Ts.Ok(s:Ts)(q:Bool):Prop where
 og:∀{aj:aQ} {c:Tc} {X:Cx} {W:WX} {k:Nat},u6 aj c X W k->∀{e:Expr} {f:GF},s.G c e=some f->GE aj X W q e f
 oh:∀{aj:aQ} {c:Tc} {X:Cx} {W:WX} {k:Nat},u6 aj c X W k->∀{e:Expr} {f:GT},s.H c e=some f->GTe aj X W q e f
 os:∀{aj:aQ} {c:Tc} {X:Cx} {W:WX} {k:Nat},u6 aj c X W k->∀{e:Stmt} {f:SF},s.S c e=some f->SE aj X W q e f
 ob:∀{aj:aQ} {c:Tc} {X:Cx} {W:WX} {k:Nat},u6 aj c X W k->∀{e:List Stmt} {f:SF},s.B c e=some f->JV aj X W q e f
def Fb:Expr->Bool
 |.ListComp _ _ _ _=>true
 |.SetComp _ _ _ _=>true
 |.DictComp _ _ _ _ _=>true
 |_=>false
theorem Gj{e:Expr}{tg:Option Expr}{l:Nat}{env:PySem.Env}(h:Fb e=false):swapsWith e tg l env=pure false:=by
 cases e <;> first | rfl | cases h
def ab7:Expr->Bool
 |.Tuple _ _ _=>true
 |_=>false
def swB(sc:Scope)(v:Expr)(scope:Scope)(x:Str)(p:Pos):Bool:=(match sc.names.lookup x with
 |some .local=>true
 |_=>false)&&(p.line==v.pos.line&&!(scope.names.any fun(n,k)=>n==x&&(k==.local || k==.cell)))
theorem R8{X:Cx}{elt:Expr}{gens:List Comprehension}{scope:Scope}{pos p:Pos}{x:Str}{l:Nat}(hk:X.env.scope.kind=.function)(h:swB X.env.scope (.ListComp elt gens scope pos) scope x p=true):X.env.scope.names.lookup x=some .local/\swapsWith (.ListComp elt gens scope pos) (some (.Name x p)) l X.env=pure true:=by
 unfold swB at h
 simp only[aq0]at h
 obtain⟨h1,h2,h3⟩:=h
 have e1:X.env.scope.names.lookup x=some .local:=by
  split at h1
  ·assumption
  ·cases h1
 refine⟨e1,?_⟩
 have eb:X.env.blockKind=.function:=by
  unfold PySem.Env.blockKind
  rw[hk]
  rfl
 unfold swapsWith
 show(pure (X.env.blockKind==.function&&X.env.kindOf x==some .local&&p.line==(Expr.ListComp elt gens scope pos).pos.line&&!(scope.names.any fun(n,k)=>n==x&&(k==.local || k==.cell))):Sem Bool)=pure true
 rw[eb,h2,h3]
 unfold PySem.Env.kindOf
 rw[e1]
 rfl
theorem adw{X:Cx}{elt:Expr}{gens:List Comprehension}{scope:Scope}{pos p:Pos}{x:Str}{l:Nat}(h:(p.line==(Expr.ListComp elt gens scope pos).pos.line)=false):swapsWith (.ListComp elt gens scope pos) (some (.Name x p)) l X.env=pure false:=by
 unfold swapsWith
 show(pure (X.env.blockKind==.function&&X.env.kindOf x==some .local&&p.line==(Expr.ListComp elt gens scope pos).pos.line&&!(scope.names.any fun(n,k)=>n==x&&(k==.local || k==.cell))):Sem Bool)=pure false
 rw[h,Bool.and_false,Bool.false_and]
def trN(t:Tr)(c:Tc):Expr->Option IF
 |.List es _=>(FW t c es).bind fun fr=>some (Ro fr)
 |_=>none
theorem acU{aj:aQ}{c:Tc}{X:Cx}{W:WX}{k:Nat}{t:Tr}(o:t.Ok)(a:Amb aj c X W k){e:Expr}{f:IF}(h:trN t c e=some f):FE aj X W e f/\Fb e=false:=by
 unfold trN at h
 split at h
 ·obtain⟨fr,h1,h⟩:=aqY.mp h
  cases h
  exact⟨aiy (uF o a h1).1,rfl⟩
 ·cases h
def U4(c:Tc):List Str->Option (List Nat)
 |[]=>some []
 |x::xs=>(match c.sc.names.lookup x with
  |some .local=>(idx c.N x).bind fun i=>(U4 c xs).bind fun js=>some (i::js)
  |_=>none)
theorem abv{aj:aQ}{c:Tc}{X:Cx}{W:WX}{k:Nat}(a:Amb aj c X W k):∀{xs:List Str} {js:List Nat},U4 c xs=some js->xs.length=js.length/\∀(n:Nat) (x:Str) (j:Nat),xs[n]?=some x->js[n]?=some j->X.N[j]?=some x/\X.env.scope.names.lookup x=some .local
 |[],js,h=>by
  cases h
  exact⟨rfl,fun n x j e=>by simp at e⟩
 |x::xs,js,h=>by
  rw[U4]at h
  split at h
  ·next e=>
   obtain⟨i,h1,h⟩:=aqY.mp h
   obtain⟨r,h2,h⟩:=aqY.mp h
   cases h
   obtain⟨i1,i2⟩:=abv a h2
   refine⟨by simp[i1],fun n y j e1 e2=>?_⟩
   cases n with
   |zero=>
    simp at e1 e2
    subst e1 e2
    exact⟨by rw[a.hN];exact Hf h1,by rw[a.hs];exact e⟩
   |succ n=>exact i2 n y j (by simpa using e1) (by simpa using e2)
  ·cases h
def nmE:Expr->Option (Str×Nat)
 |.Name x p=>some (x,p.line)
 |_=>none
def UL:List Expr->Option (List (Str×Nat))
 |[]=>some []
 |e::es=>(nmE e).bind fun x=>(UL es).bind fun r=>some (x::r)
def pnB(c:Tc)(ts vs:List Expr):Option (List Nat):=
 (UL ts).bind fun nls=>gd ((ts.length==2 || ts.length==3)&&(vs.length==ts.length&&(vs.all nst&&(nls.all (fun p=>p.2==((ts.head?.map (·.pos.line)).getD 0))&&((nls.map (·.1)).eraseDups.length==nls.length&&(!(vs.all (foldedForSure 8))&&!(vs.all (constantsAlone 8)))))))) (U4 c (nls.map (·.1)))
theorem Y8:∀{ts:List Expr} {nls:List (Str×Nat)},UL ts=some nls->nls.length=ts.length
 |[],_,h=>by cases h;rfl
 |e::es,_,h=>by
  rw[UL]at h
  obtain⟨x,h1,h⟩:=aqY.mp h
  obtain⟨r,h2,h⟩:=aqY.mp h
  cases h
  simp[Y8 h2]
theorem Rv{sc:Scope}{l:Nat}:∀{ts:List Expr} {nls:List (Str×Nat)},UL ts=some nls->nls.all (fun p=>p.2==l)=true->(∀x∈nls.map (·.1),sc.names.lookup x=some .local)->
  (ts.filterMap fun e=>match e with
  |.Name id pos=>if sc.names.lookup id==some .local&&pos.line==l then some id else none
  |_=>none)=nls.map (·.1)
 |[],_,h,_,_=>by cases h;rfl
 |e::es,_,h,hl,hk=>by
  rw[UL]at h
  obtain⟨x,h1,h⟩:=aqY.mp h
  obtain⟨r,h2,h⟩:=aqY.mp h
  cases h
  rw[arK,aq0]at hl
  have ih:=Rv (sc:=sc) h2 hl.2 fun y hy=>hk y (aq5 _ hy)
  cases e with
  |Name y p=>
   cases h1
   have e1:=hk y aq4
   have e2:(if sc.names.lookup y==some .local&&p.line==l then some y else none)=some y:=by
    rw[e1,show(p.line==l)=true from hl.1]
    rfl
   simp only[List.filterMap_cons,e2,ih,aq3]
  |_=>cases h1
theorem J5:∀(n:Nat) (l:List Str),l.length=n->l.eraseDups.length=l.length->l.Nodup:=by
 intro n
 induction n using Nat.strongRecOn with
 |_ n ih=>
  intro l hn h
  cases l with
  |nil=>exact asp
  |cons a r=>
   rw[asi]at h
   simp only[ari]at h hn
   have h1:(r.filter fun b=>!b==a).length<=r.length:=arj _ _
   have h2:∀l:List Str,l.eraseDups.length<=l.length:=by
    intro l
    induction hm:l.length using Nat.strongRecOn generalizing l with
    |_ m ihm=>
     cases l with
     |nil=>simp
     |cons x xs=>
      rw[asi]
      simp only[ari]at hm ⊢
      have z:(xs.filter fun b=>!b==x).length<=xs.length:=arj _ _
      have:=ihm _ (by omega) (xs.filter fun b=>!b==x) rfl
      omega
   have h3:=h2 (r.filter fun b=>!b==a)
   have e1:(r.filter fun b=>!b==a).length=r.length:=by omega
   have e2:(r.filter fun b=>!b==a)=r:=asj.mpr (List.length_filter_eq_length_iff.mp e1)
   rw[e2]at h
   rw[ar0]
   refine⟨fun z=>?_,ih r.length (by omega) r rfl (by omega)⟩
   have:=asj.mp e2 a z
   simp at this
theorem abn{aj:aQ}{c:Tc}{X:Cx}{W:WX}{k:Nat}(a:Amb aj c X W k):∀{xs:List Str} {js:List Nat},U4 c xs=some js->xs.Nodup->js.Nodup/\∀j∈js,∃x∈xs,X.N[j]?=some x
 |[],js,h,_=>by
  cases h
  exact⟨asp,fun j hj=>by simp at hj⟩
 |x::xs,js,h,nd=>by
  rw[U4]at h
  rw[ar0]at nd
  split at h
  ·next e=>
   obtain⟨i,h1,h⟩:=aqY.mp h
   obtain⟨r,h2,h⟩:=aqY.mp h
   cases h
   obtain⟨i1,i2⟩:=abn a h2 nd.2
   have hi:X.N[i]?=some x:=by rw[a.hN];exact Hf h1
   refine⟨ar0.mpr ⟨fun z=>?_,i1⟩,fun j hj=>?_⟩
   ·obtain⟨y,hy,e2⟩:=i2 i z
    rw[hi]at e2
    cases e2
    exact nd.1 hy
   ·rcases arh.mp hj with rfl|hj
    ·exact⟨x,aq4,hi⟩
    ·obtain⟨y,hy,e2⟩:=i2 j hj
     exact⟨y,aq5 _ hy,e2⟩
  ·cases h
theorem ahd{vs:List Expr}(h:vs.all nst=true):(vs.any fun e=>match e with
  |.Starred _ _=>true
  |_=>false)=false:=by
 induction vs with
 |nil=>rfl
 |cons v vs ih=>
  rw[arK,aq0]at h
  rw[ar5,ih h.2,Bool.or_false]
  cases v <;> first | rfl | cases h.1
theorem ai0{aj:aQ}{c:Tc}{X:Cx}{W:WX}{k:Nat}(a:u6 aj c X W k){ts vs:List Expr}{js:List Nat}{kt k2:Nat}{pt p2:Pos}(h:pnB c ts vs=some js) :
  ∃xs:List Str,xs.length=js.length/\js.length<=3/\js.Nodup/\(∀(n:Nat) (x:Str) (j:Nat),xs[n]?=some x->js[n]?=some j->X.N[j]?=some x/\X.env.scope.names.lookup x=some .local)/\swappedStores [.Tuple ts kt pt] (.Tuple vs k2 p2) X.env=pure (some xs):=by
 unfold pnB at h
 obtain⟨nls,h1,h⟩:=aqY.mp h
 obtain⟨hb,h⟩:=aV.mp h
 simp only[aq0,ark]at hb
 obtain⟨b1,b2,b3,b4,b5,b6,b7⟩:=hb
 have l1:=Y8 h1
 obtain⟨i1,i2⟩:=abv a.toAmb h
 have nd:=J5 _ _ rfl (by rw[aq9];exact eq_of_beq b5)
 obtain⟨d1,d2⟩:=abn a.toAmb h nd
 have hloc:∀x∈nls.map (·.1),X.env.scope.names.lookup x=some .local:=fun x hx=>by
  obtain⟨n,hn,e⟩:=List.mem_iff_getElem.mp hx
  have hj:n < js.length:=by rw[←i1];exact hn
  exact(i2 n x js[n] (by rw[aq2 hn,e]) (aq2 hj)).2
 have hf:=Rv (sc:=X.env.scope) h1 b4 hloc
 have h3:ts.length=2∨ts.length=3:=by
  rw[ar8]at b1
  exact b1.imp eq_of_beq eq_of_beq
 refine⟨nls.map (·.1),i1,?_,d1,i2,?_⟩
 ·rw[←i1,aq9,l1]
  omega
 ·have eb:X.env.blockKind=.function:=by
   unfold PySem.Env.blockKind
   rw[a.kf]
   rfl
  unfold swappedStores
  have e1:(!(ts.length==2 || ts.length==3) || vs.length != ts.length || X.env.blockKind != .function)=false:=by
   rw[b1,eb,eq_of_beq b2]
   simp
  have e2:=ahd b3
  have e3:(nls.map (·.1)).length=ts.length:=by rw[aq9,l1]
  have e4:((nls.map (·.1)).length != ts.length || (nls.map (·.1)).eraseDups.length != (nls.map (·.1)).length)=false:=by
   rw[e3,eq_of_beq b5,l1]
   simp
  simp only[e1,arz,if_false]
  generalize hA:List.filterMap (β:=Str) _ ts=A
  have eA:A=nls.map (·.1):=hA.symm.trans hf
  subst eA
  split
  ·next z=>exact absurd (z.symm.trans e2) (by decide)
  ·rw[e4,b6,b7]
   rfl
section
variable{X:Cx}{aj:aQ}{W:WX}{q:Bool}{e:Expr}{pos:Pos}
theorem aiN{j:Nat}{y:Str}{py:Pos}{elt tg iter:Expr}{cpos:Pos}{scope:Scope}{own:List (Str×Nat)}{it:IF}{tgf:fK}{js:List Nat}{tt:QT}{te:QF}{ifs:List Expr}(hc:X.calm=true)(hN:X.N.Nodup)(hy:X.N[j]?=some y)(hyl:X.env.scope.names.lookup y=some .local)
  (hsw:swapsWith (.ListComp elt [⟨tg,iter,ifs,0⟩] scope cpos) (some (.Name y py)) pos.line X.env=pure true) (hi:QI aj X W false tg iter it) (ok:blkC X.N X.env.scope scope own=true) (hj:∀j∈js,j∈own.map (·.2))
  (hg:∀(s:Shared) (H:Hp) (C:Addr) (cl:List (Str×Addr)) (fp:List Addr),QG aj (X.blk s H scope (compEnvC scope cl C X.env) fp) tg js tgf)
  (ht:∀(s:Shared) (H:Hp) (C:Addr) (cl:List (Str×Addr)) (fp:List Addr),PTs (X.blk s H scope (compEnvC scope cl C X.env) fp) ifs (jJ X.K aj WF tt))
  (he:∀(s:Shared) (H:Hp) (C:Addr) (cl:List (Str×Addr)) (fp:List Addr),QE aj (X.blk s H scope (compEnvC scope cl C X.env) fp) WF elt te) (hs:∀x,foldedSetIterable iter X.env x=pure x) :
  SE aj X W q (.Assign [.Name y py] (.ListComp elt [⟨tg,iter,ifs,0⟩] scope cpos) pos) (IV j (Bb it tgf (own.map (·.2)) tt te)):=by
 refine PS.weak (ps_setLc (g:=xO X.K aj js tgf) (tt:=jJ X.K aj WF tt) (te:=tQ X.K aj WF te) hc hN hy hyl hsw hi (blkOk_by ok) (fun s H C cl fp=>hg s H C cl fp) ht (fun s H C cl fp=>he s H C cl fp) hs) fun D σ H h=>?_
 exact Zm hj σ H _ (ac1 D σ H h)
end
def agq(t:Tr)(c:Tc)(elt tg iter:Expr)(ifs:List Expr)(scope:Scope):Option IF:=
 (t.I c false tg iter).bind fun it=>(QX (c.inn scope) tg).bind fun jt=>(O5 t (c.inn scope) ifs).bind fun tt=>(t.E (c.inn scope) elt).bind fun te=>
  gd (blkC c.N c.sc scope (mY tg jt.1)&&(Ln jt.1 ((mY tg jt.1).map (·.2))&&!yw iter)) (some (Bb it jt.2 ((mY tg jt.1).map (·.2)) tt te))
def U7(t:Tr)(c:Tc)(x:Str)(p:Pos)(elt tg iter:Expr)(ifs:List Expr)(scope:Scope)(cpos:Pos):Option SF:=
 (vM c x).bind fun j=>gd (swB c.sc (.ListComp elt [⟨tg,iter,ifs,0⟩] scope cpos) scope x p || !(p.line==(Expr.ListComp elt [⟨tg,iter,ifs,0⟩] scope cpos).pos.line))
  (match c.ml.contains x with
  |true=>(agq t c elt tg iter ifs scope).bind fun f=>some (IV j f)
  |false=>(XM t c elt tg iter ifs scope).bind fun f=>some (bB (aF j) (gOf f)))
section
variable{aj:aQ}{c:Tc}{X:Cx}{W:WX}{k:Nat}{t:Tr}{q:Bool}
theorem ab2(o:t.Ok)(a:u6 aj c X W k){x:Str}{p cpos pos:Pos}{elt tg iter:Expr}{ifs:List Expr}{scope:Scope}{f:SF}(h:U7 t c x p elt tg iter ifs scope cpos=some f):SE aj X W q (.Assign [.Name x p] (.ListComp elt [⟨tg,iter,ifs,0⟩] scope cpos) pos) f:=by
 unfold U7 at h
 obtain⟨j,hj,h⟩:=aqY.mp h
 obtain⟨hsw,h⟩:=aV.mp h
 obtain⟨s1,s2,s3⟩:=m9 a.toAmb hj
 rw[ar8]at hsw
 split at h
 ·obtain⟨f1,h1,h⟩:=aqY.mp h
  cases h
  unfold agq at h1
  obtain⟨it,h2,h1⟩:=aqY.mp h1
  obtain⟨⟨js,tf⟩,h3,h1⟩:=aqY.mp h1
  obtain⟨tt,h4,h1⟩:=aqY.mp h1
  obtain⟨te,h5,h1⟩:=aqY.mp h1
  obtain⟨hb,h1⟩:=aV.mp h1
  cases h1
  simp only[aq0,ark]at hb
  obtain⟨b1,b2,b3⟩:=hb
  rcases hsw with hsw|hsw
  ·rw[←a.hs]at hsw
   obtain⟨l1,l2⟩:=R8 (l:=pos.line) a.kf hsw
   exact aiN a.calm a.nd s1 l1 l2 (o.oi a.toAmb h2) (by rw[a.hN,a.hs];exact b1) (ou b2) (fun s H C cl fp=>tV (a.toAmb.inn scope s H C cl fp) h3) (fun s H C cl fp=>uK o (a.toAmb.inn scope s H C cl fp) h4) (fun s H C cl fp=>o.oe (a.toAmb.inn scope s H C cl fp) h5) (pX b3)
  ·exact adz a.nd s1 s2 s3 (alM a.calm a.nd (o.oi a.toAmb h2) (by rw[a.hN,a.hs];exact b1) (ou b2) (fun s H C cl fp=>tV (a.toAmb.inn scope s H C cl fp) h3) (fun s H C cl fp=>uK o (a.toAmb.inn scope s H C cl fp) h4) (fun s H C cl fp=>o.oe (a.toAmb.inn scope s H C cl fp) h5) (pX b3)) (adw (by simpa using hsw))
 ·obtain⟨f1,h1,h⟩:=aqY.mp h
  cases h
  rcases hsw with hsw|hsw
  ·rw[←a.hs]at hsw
   obtain⟨l1,l2⟩:=R8 (l:=pos.line) a.kf hsw
   unfold XM at h1
   obtain⟨it,h2,h1⟩:=aqY.mp h1
   obtain⟨⟨js,tf⟩,h3,h1⟩:=aqY.mp h1
   obtain⟨tt,h4,h1⟩:=aqY.mp h1
   obtain⟨te,h5,h1⟩:=aqY.mp h1
   obtain⟨hb,h1⟩:=aV.mp h1
   cases h1
   simp only[aq0,ark]at hb
   obtain⟨b1,b2,b3⟩:=hb
   exact ajZ a.calm a.nd s1 l1 l2 (o.oi a.toAmb h2) (by rw[a.hN,a.hs];exact b1) (ou b2) (fun s H C cl fp=>tV (a.toAmb.inn scope s H C cl fp) h3) (fun s H C cl fp=>uK o (a.toAmb.inn scope s H C cl fp) h4) (fun s H C cl fp=>o.oe (a.toAmb.inn scope s H C cl fp) h5) (pX b3)
  ·exact XD (agh (abu o a.toAmb h1)) (Uu a.nd s1 s2 s3) (adw (l:=pos.line) (by simpa using hsw)) (by with_unfolding_all rfl) (by with_unfolding_all rfl)
end
theorem Cr{tg e:Expr}{l:Nat}{env:PySem.Env}(h:Fb e=false):swapsWithSole [tg] e l env=pure false:=Gj h
def ab9(t:Tr)(s:Ts)(c:Tc):Expr->Expr->Option SF
 |.Name x p,.ListComp elt [⟨tg,iter,ifs,0⟩] scope cpos=>U7 t c x p elt tg iter ifs scope cpos
 |.Name x _,e=>(vM c x).bind fun j=>match c.ml.contains x with
  |true=>(trN t c e).bind fun f=>some (IV j f)
  |false=>gd (!Fb e) ((s.G c e).bind fun f=>some (bB (aF j) f))
 |.Tuple [.Name x _,.Starred (.Name y _) _] _ _,e=>(vM c x).bind fun i=>(vM c y).bind fun j=>gd (!Fb e&&!ab7 e) ((s.G c e).bind fun f=>some (Xp i j f))
 |.Tuple ts _ _,.Tuple vs _ _=>(pnB c ts vs).bind fun js=>(FW t c vs).bind fun f=>some (sPN js f)
 |.Tuple ts _ _,e=>(Yg c ts).bind fun js=>gd (!Fb e&&!ab7 e) ((s.G c e).bind fun f=>some (bB (bx js) f))
 |_,_=>none
theorem QJ{tg e:Expr}{env:PySem.Env}(h:ab7 e=false):swappedStores [tg] e env=pure none:=by
 cases tg <;> first | rfl | (cases e <;> first | rfl | cases h)
section
variable{aj:aQ}{c:Tc}{X:Cx}{W:WX}{k:Nat}{t:Tr}{s:Ts}{q:Bool}
theorem aeP(o:t.Ok)(os:s.Ok q)(a:u6 aj c X W k){tg e:Expr}{pos:Pos}{f:SF}(h:ab9 t s c tg e=some f):SE aj X W q (.Assign [tg] e pos) f:=by
 unfold ab9 at h
 split at h
 ·exact ab2 o a h
 ·obtain⟨j,hj,h⟩:=aqY.mp h
  obtain⟨s1,s2,s3⟩:=m9 a.toAmb hj
  split at h
  ·obtain⟨f1,h1,h⟩:=aqY.mp h
   cases h
   obtain⟨i1,i2⟩:=acU o a.toAmb h1
   exact adz a.nd s1 s2 s3 i1 (Gj i2)
  ·obtain⟨hc,h⟩:=aV.mp h
   obtain⟨f1,h1,h⟩:=aqY.mp h
   cases h
   exact XD (os.og a h1) (Uu a.nd s1 s2 s3) (Cr (by simpa using hc)) (by with_unfolding_all rfl) (by with_unfolding_all rfl)
 ·obtain⟨i,hi,h⟩:=aqY.mp h
  obtain⟨j,hj,h⟩:=aqY.mp h
  obtain⟨hc,h⟩:=aV.mp h
  obtain⟨f1,h1,h⟩:=aqY.mp h
  cases h
  simp only[aq0,ark]at hc
  exact ahG a.calm a.nd (m9 a.toAmb hi) (m9 a.toAmb hj) (os.og a h1) (Cr hc.1) (QJ hc.2)
 ·obtain⟨js,hj,h⟩:=aqY.mp h
  obtain⟨f1,h1,h⟩:=aqY.mp h
  cases h
  obtain⟨xs,p1,p2,p3,p4,p5⟩:=ai0 a hj
  exact al9 a.calm a.nd p3 p1 p2 p4 (uF o a.toAmb h1).1 p5 (Cr rfl)
 ·obtain⟨js,hj,h⟩:=aqY.mp h
  obtain⟨hc,h⟩:=aV.mp h
  obtain⟨f1,h1,h⟩:=aqY.mp h
  cases h
  simp only[aq0,ark]at hc
  exact XD (os.og a h1) (adE a.calm a.nd (Uh a.toAmb hj)) (Cr hc.1) (QJ hc.2) (by with_unfolding_all rfl)
 ·cases h
end
def ab6(s:Ts)(c:Tc):List Stmt->Option SF
 |[]=>some aU
 |[a]=>s.S c a
 |a::b::r=>(s.S c a).bind fun f=>(s.B c (b::r)).bind fun g=>some (aD f g)
def stS(t:Tr)(s:Ts)(c:Tc):Stmt->Option SF
 |.Assign [tg] e _=>ab9 t s c tg e
 |.Assign [.Name x _,.Name y _] e _=>(vM c x).bind fun i=>(vM c y).bind fun j=>gd (!ab7 e) ((s.G c e).bind fun f=>some (Rp i j f))
 |.AugAssign (.Name x _) .Add e _=>(vM c x).bind fun j=>(t.E c e).bind fun f=>some (Qc j f)
 |.Expr (.Call (.Attribute (.Name x _) m apos) [e] [] pos) _=>(KY c x).bind fun j=>gd (m=="append"&&(c.ml.contains x&&(nst e&&(apos.endLine==pos.line)))) ((t.E c e).bind fun f=>some (Pb j f))
 |.Return (some e) _=>(match t.E c e with
  |some f=>some (aR f)
  |none=>(s.G c e).bind fun f=>some (iG f))
 |.If d s1 s2 _=>(s.B c s1).bind fun f=>(s.B c s2).bind fun g=>(t.T c d).bind fun td=>some (bW td f g)
 |.For tg iter body [] _=>(t.I c true tg iter).bind fun it=>(QX c tg).bind fun jt=>(s.B c body).bind fun f=>gd (!yw iter) (some (qM it jt.2 f))
 |_=>none
section
variable{aj:aQ}{c:Tc}{X:Cx}{W:WX}{k:Nat}{t:Tr}{s:Ts}{q:Bool}
theorem afO(os:s.Ok q)(a:u6 aj c X W k){b:List Stmt}{f:SF}(h:ab6 s c b=some f):JV aj X W q b f:=by
 unfold ab6 at h
 split at h
 ·cases h;exact aj8
 ·exact ajP (os.os a h)
 ·obtain⟨f1,h1,h⟩:=aqY.mp h
  obtain⟨f2,h2,h⟩:=aqY.mp h
  cases h
  exact ahO (os.os a h1) (os.ob a h2)
theorem ajQ(o:t.Ok)(os:s.Ok q)(a:u6 aj c X W k){st:Stmt}{f:SF}(h:stS t s c st=some f):SE aj X W q st f:=by
 unfold stS at h
 split at h
 ·exact aeP o os a h
 ·obtain⟨i,hi,h⟩:=aqY.mp h
  obtain⟨j,hj,h⟩:=aqY.mp h
  obtain⟨hc,h⟩:=aV.mp h
  obtain⟨f1,h1,h⟩:=aqY.mp h
  cases h
  exact ahN a.nd (m9 a.toAmb hi) (m9 a.toAmb hj) (os.og a h1) (by with_unfolding_all rfl)
 ·obtain⟨j,hj,h⟩:=aqY.mp h
  obtain⟨f1,h1,h⟩:=aqY.mp h
  cases h
  obtain⟨s1,s2,s3⟩:=m9 a.toAmb hj
  exact aiY a.nd s1 s2 s3 (o.oe a.toAmb h1)
 ·obtain⟨j,hj,h⟩:=aqY.mp h
  obtain⟨hc,h⟩:=aV.mp h
  obtain⟨f1,h1,h⟩:=aqY.mp h
  cases h
  simp only[aq0]at hc
  cases eq_of_beq hc.1
  obtain⟨s1,s2,s3,s4⟩:=Af a.toAmb hj
  exact aiu s1 s2 s3 s4 (o.oe a.toAmb h1) hc.2.2.1 hc.2.2.2
 ·split at h
  ·next f1 h1=>
   cases h
   exact akW (o.oe a.toAmb h1)
  ·obtain⟨f1,h1,h⟩:=aqY.mp h
   cases h
   exact agH (os.og a h1)
 ·obtain⟨f1,h1,h⟩:=aqY.mp h
  obtain⟨f2,h2,h⟩:=aqY.mp h
  obtain⟨td,h3,h⟩:=aqY.mp h
  cases h
  exact alS (o.ot a.toAmb h3) (os.ob a h1) (os.ob a h2)
 ·obtain⟨it,h1,h⟩:=aqY.mp h
  obtain⟨⟨js,tf⟩,h2,h⟩:=aqY.mp h
  obtain⟨f1,h3,h⟩:=aqY.mp h
  obtain⟨hc,h⟩:=aV.mp h
  cases h
  exact akb a.ps a.calm (o.oi a.toAmb h1) (tV a.toAmb h2) (os.ob a h3) (pX (by simpa using hc))
 ·cases h
end
abbrev GA:=Mo->Env->bf (List Dat)
def alp:GA:=fun M _=>.ok [] M
def aiZ(a:GF)(r:GA):GA:=fun M ρ=>(a M ρ).bind fun d M1=>(r M1 ρ).bind fun ds M2=>.ok (d::ds) M2
def ajS(m:Mo->List Dat->bf Dat)(as:GA):GF:=fun M ρ=>(as M ρ).bind fun ds M1=>m M1 ds
def ajM(m:Mo->List Dat->Out Dat)(as:GA):GF:=fun M ρ=>(as M ρ).bind fun ds M1=>(m M1 ds).at M1
section
variable{X:Cx}{aj:aQ}{W:WX}{q:Bool}{a b e:Expr}{es:List Expr}{pos p:Pos}
variable{x:Str}{k:Nat}{f:Addr}{fd:FuncData}{ps:List Str}
def alr(a:GT):GT:=fun M ρ=>(a M ρ).bind fun b M1=>.ok (!b) M1
def al2(a b:GT):GT:=fun M ρ=>(a M ρ).bind fun x M1=>if x=true then b M1 ρ else .ok false M1
def anc(a b:GT):GT:=fun M ρ=>(a M ρ).bind fun x M1=>if x=true then .ok true M1 else b M1 ρ
def amg(a:GF):GT:=fun M ρ=>(a M ρ).bind fun d M1=>(Jc d).at M1
end
section
variable{aj:aQ}{c:Tc}{X:Cx}{W:WX}{k:Nat}{t:Tr}{s:Ts}{q:Bool}
def xG(t:Tr)(s:Ts)(c:Tc):Expr->Option GF
 |.Call (.Name x _) [] [] _=>(match c.G.lookup x with
  |some (.cls 0 m)=>gd (Gz c.sc x&&!Fx x) (some (Bh x m au))
  |_=>none)
 |.Call (.Name x _) (e::es) [] _=>(match c.G.lookup x with
  |some (.fg n m)=>gd (Gz c.sc x&&(!Fx x&&decide ((e::es).length=n))) ((FW t c (e::es)).bind fun as=>some (Iu m as))
  |some (.cls n m)=>gd (Gz c.sc x&&(!Fx x&&decide ((e::es).length=n))) ((FW t c (e::es)).bind fun as=>some (Bh x m as))
  |_=>none)
 |.Call (.Attribute o m apos) es [] pos=>(c.hs.Ms.lookup m).bind fun tb=>(t.W c o).bind fun fo=>(FW t c es).bind fun as=>
  gd (tbN tb (es.length+1)&&(baseOk o&&(decide (es.length < 30)&&(apos.endLine==pos.line)))) (some (cP tb fo as))
 |_=>none
theorem alV(o:t.Ok)(os:s.Ok false)(a:u6 aj c X W k){e:Expr}{f:GF}(h:xG t s c e=some f):GE aj X W false e f:=by
 unfold xG at h
 split at h
 ·split at h
  ·next m hl=>
   obtain⟨hb,h⟩:=aV.mp h
   cases h
   simp only[aq0,ark]at hb
   exact aif a.rm (a.gl _ _ hl) (tH a.toAmb hb.1) (uo hb.2).1
  ·cases h
 ·split at h
  ·next n m hl=>
   obtain⟨hb,h⟩:=aV.mp h
   simp only[aq0,ark,decide_eq_true_eq]at hb
   obtain⟨b1,b2,b3⟩:=hb
   obtain⟨fa,hm,hk,fd,ps,j,hj,hp,hB,F⟩:=a.gl _ _ hl
   obtain⟨as,h1,h⟩:=aqY.mp h
   cases h
   obtain⟨i1,i2,i3⟩:=uF o a.toAmb h1
   exact ag1 a.tk F (a.rm.mono hj) (tH a.toAmb b1) hm hk hB i1 (b3.trans hp.symm) (uo b2).1 i2 i3
  ·next n m hl=>
   obtain⟨hb,h⟩:=aV.mp h
   simp only[aq0,ark,decide_eq_true_eq]at hb
   obtain⟨b1,b2,b3⟩:=hb
   obtain⟨as,h1,h⟩:=aqY.mp h
   cases h
   obtain⟨i1,i2,i3⟩:=uF o a.toAmb h1
   exact ajT a.rm (a.gl _ _ hl) (tH a.toAmb b1) (uo b2).1 i1 i2 (fun M ρ ds z=>by rw[i3 M ρ ds z];exact b3)
  ·cases h
 ·next b m apos es pos=>
  obtain⟨tb,h1,h⟩:=aqY.mp h
  obtain⟨fo,h2,h⟩:=aqY.mp h
  obtain⟨as,h3,h⟩:=aqY.mp h
  obtain⟨hb,h⟩:=aV.mp h
  cases h
  simp only[aq0,decide_eq_true_eq]at hb
  obtain⟨b2,b3,b4,b5⟩:=hb
  obtain⟨i1,i2,i3⟩:=uF o a.toAmb h3
  cases es with
  |nil=>
   cases h3
   exact afJ a.tk a.rm (Xo a.toAmb h1 b2) (o.ow a.toAmb h2) b3 b5
  |cons e es=>exact ag7 a.tk a.rm (Xo a.toAmb h1 b2) (o.ow a.toAmb h2) i1 i3 b3 i2 b5 b4
 ·cases h
end
section
variable{aj:aQ}{c:Tc}{X:Cx}{W:WX}{k:Nat}{t:Tr}{s:Ts}{q:Bool}
theorem Jj{e o:Expr}{f:Str}{p:Pos}{l:Nat}{env:PySem.Env}:swapsWith e (some (.Attribute o f p)) l env=pure false:=by
 cases e <;> rfl
theorem afE{e o:Expr}{i:Expr}{p:Pos}{l:Nat}{env:PySem.Env}:swapsWith e (some (.Subscript o i p)) l env=pure false:=by
 cases e <;> rfl
theorem afD{o:Expr}{f:Str}{p spos:Pos}{i:Expr}{env:PySem.Env}(h:Zd i=false):∀v,assign (.Subscript (.Attribute o f p) i spos) env v=(do
   let ov ←holding [v] (eval (.Attribute o f p) env)
   let iv ←holding [v,ov] (eval i env)
   standAt spos
   holding [v,ov,iv] (setItem ov iv v)
   release [v,ov,iv] []):=fun v=>by
 cases i <;> first | (with_unfolding_all rfl) | cases h
def ajX(t:Tr)(c:Tc)(kx tg iter:Expr)(scope:Scope):Option (Mo->Env->Out (List (Dat×Dat))):=
 (t.I c false tg iter).bind fun it=>(QX (c.inn scope) tg).bind fun jt=>(t.E (c.inn scope) kx).bind fun te=>
  gd (blkC c.N c.sc scope (mY tg jt.1)&&(Ln jt.1 ((mY tg jt.1).map (·.2))&&!yw iter)) (some (qDc it jt.2 ((mY tg jt.1).map (·.2)) te))
theorem afI(a:Amb aj c X W k):X.A.units+64 < cLine:=by have:=a.rm.un;omega
def ae7(t:Tr)(s:Ts)(c:Tc)(o:Expr)(f:Str):Expr->Option SF
 |.Dict [] [] _=>(t.W c o).bind fun fo=>(c.hs.df.lookup f).bind fun b=>some (Nm c.hs.ft fo f b)
 |.DictComp kx (.Constant (.bool true) _ _) [⟨tg,iter,[],0⟩] scope _=>(t.W c o).bind fun fo=>(ajX t c kx tg iter scope).bind fun fe=>some (Qy c.hs.ft fo f fe)
 |.List es p=>(t.W c o).bind fun fo=>(trN t c (.List es p)).bind fun fe=>some (Eu c.hs.ft fo f fe)
 |e=>gd (!Fb e) ((t.W c o).bind fun fo=>(s.G c e).bind fun fe=>some (uV c.hs.ft fo f fe))
theorem ahY(ot:t.Ok)(os:s.Ok false)(a:u6 aj c X W k){o e:Expr}{f:Str}{p pos:Pos}{sf:SF}(h:ae7 t s c o f e=some sf):SE aj X W false (.Assign [.Attribute o f p] e pos) sf:=by
 have hk:=a.hk
 unfold ae7 at h
 split at h
 ·obtain⟨fo,h1,h⟩:=aqY.mp h
  obtain⟨b,h2,h⟩:=aqY.mp h
  cases h
  exact ahi hk.co hk.fk hk.hw (ot.ow a.toAmb h1) Jj
 ·obtain⟨fo,h1,h⟩:=aqY.mp h
  obtain⟨fe,h2,h⟩:=aqY.mp h
  cases h
  unfold ajX at h2
  obtain⟨it,i1,h2⟩:=aqY.mp h2
  obtain⟨⟨js,tf⟩,i2,h2⟩:=aqY.mp h2
  obtain⟨te,i3,h2⟩:=aqY.mp h2
  obtain⟨hb,h2⟩:=aV.mp h2
  cases h2
  simp only[aq0,ark]at hb
  obtain⟨b1,b2,b3⟩:=hb
  exact aht hk.co hk.fk (ot.ow a.toAmb h1) (aiO (g:=xO X.K aj js tf) (tk:=tQ X.K aj WF te) a.calm a.nd (afI a.toAmb) (ot.oi a.toAmb i1) (blkOk_by (by rw[a.hN,a.hs];exact b1)) (fun s H C cl fp=>tV (a.toAmb.inn _ s H C cl fp) i2) (fun s H C cl fp=>ot.oe (a.toAmb.inn _ s H C cl fp) i3) (pX b3)) (fun σ H Q z=>alJ hk.hw (ou b2) σ H Q z) Jj
 ·obtain⟨fo,h1,h⟩:=aqY.mp h
  obtain⟨fe,h2,h⟩:=aqY.mp h
  cases h
  exact agO hk.co hk.fk (ot.ow a.toAmb h1) (acU ot a.toAmb h2).1 Jj
 ·obtain⟨hc,h⟩:=aV.mp h
  obtain⟨fo,h1,h⟩:=aqY.mp h
  obtain⟨fe,h2,h⟩:=aqY.mp h
  cases h
  exact aij hk.co hk.fk (ot.ow a.toAmb h1) (os.og a h2) Jj
def ZK(n:Str):List Expr->Option (List Str)
 |[]=>some []
 |.Attribute (.Name m _) f _::es=>gd (m==n) ((ZK n es).bind fun fs=>some (f::fs))
 |_=>none
def acq(nm:Option Str):Expr->Option DP
 |.Constant (.str x) _ _=>some (.con (.str x))
 |.Constant .none _ _=>some (.con .none)
 |.Tuple [] _ _=>some (.con (.tuple []))
 |.Attribute (.Name m _) f _=>nm.bind fun n=>gd (m==n) (some (.fld f))
 |.Tuple es _ _=>nm.bind fun n=>(ZK n es).bind fun fs=>some (.flds fs)
 |_=>none
def DP.fs:DP->List Str
 |.con _=>[]
 |.fld f=>[f]
 |.flds fs=>fs
def acj(c:Tc)(nm:Option Str):List Stmt->Option (List (Nat×DP))
 |[]=>some []
 |.Assign [.Name x _] e _::r=>(vM c x).bind fun j=>(acq nm e).bind fun se=>(acj c nm r).bind fun st=>some ((j,se)::st)
 |_=>none
def Vh(c:Tc):Option Str->Option (Option Nat)
 |none=>some none
 |some n=>(KY c n).bind fun i=>match c.sc.names.lookup n with
  |some .local=>some (some i)
  |_=>none
def aj6(c:Tc):ExceptHandler->Option Hd
 |.ExceptHandler (some (.Name y _)) nm (s0::su) _=>(c.hs.xm.lookup y).bind fun tab=>(Vh c nm).bind fun i=>(acj c nm (s0::su)).bind fun st=>
  (match c.G.lookup y with
  |some .exc=>some true
  |some (.exi _)=>some true
  |_=>none).bind fun _=>
  gd (Gz c.sc y&&(!Fx y&&(st.all (fun p=>match i with
   |some j=>!(j==p.1)
   |none=>true)&&st.all (fun p=>p.2.fs.all (fun f=>((c.hs.xf.lookup y).getD []).contains f)&&decide (p.2.fs.length<=100))))) (some ⟨y,fun x=>tab.lookup x,i,st⟩)
 |_=>none
def Xn(c:Tc):List ExceptHandler->Option (List Hd)
 |[]=>some []
 |h::hs=>(aj6 c h).bind fun d=>(Xn c hs).bind fun ds=>some (d::ds)
theorem aa9{y n:Str}{C:Addr}{a:Addr}{oe:Obj}{cls:Value}{d:Option Addr}{pn:List (Addr×Obj)}{j:Nat}{fl:List Str}(hC:aj y=some C)(T:XfC X.K C)(hno:∀f∈fl,PySem.W.findIn X.K (.ref C) f=some none)(hz:Zc cls d oe)(hf:∃vs,oe.data=.fields vs)(hN:X.N[j]?=some n)(hv:Vis X.env.scope n)(hd:(n==("__debug__" : Str))=false)(hcd:(n==("__classdict__" : Str))=false) :
  ∀{es:List Expr} {fs:List Str},ZK n es=some fs->(∀f∈fs,f∈fl)->PA (X.suite a ((a,oe)::pn)) es (tUA X.K aj a cls d (some j) fun x=>Ra y x fs)
 |[],fs,h,_=>by
  cases h
  exact adD
 |.Attribute (.Name m p) f p2::es,fs,h,hs=>by
  rw[ZK]at h
  obtain⟨hm,h⟩:=aV.mp h
  obtain⟨fr,h1,h⟩:=aqY.mp h
  cases h
  cases eq_of_beq hm
  exact ahF (adl hC T (hno f (hs f aq4)) hz hf hN hv hd hcd) (aa9 hC T hno hz hf hN hv hd hcd h1 fun f hf=>hs f (aq5 _ hf)) rfl
theorem agJ{y:Str}{nm:Option Str}{i:Option Nat}{a:Addr}{oe:Obj}{cls:Value}{d:Option Addr}{pn:List (Addr×Obj)}{e:Expr}{se:DP}(am:Amb aj c X W k)(hi:Vh c nm=some i)(hy:(c.hs.xf.lookup y).getD []=fl)(hfl:∀f∈se.fs,f∈fl)(hl:se.fs.length<=100)(hz:Zc cls d oe)(hf:∃vs,oe.data=.fields vs)(h:acq nm e=some se) :
  PE (X.suite a ((a,oe)::pn)) e (tU X.K aj a cls d i fun x=>YB y x se):=by
 have fld:∀n j,nm=some n->i=some j->X.N[j]?=some n/\Vis X.env.scope n/\(n==("__debug__" : Str))=false/\(n==("__classdict__" : Str))=false:=fun n j e1 e2=>by
  subst e1 e2
  unfold Vh at hi
  obtain⟨j',h1,hi⟩:=aqY.mp hi
  split at hi
  ·cases hi
   exact Af am h1
  ·cases hi
 have hsome:∀n,nm=some n->∃j,i=some j:=fun n e1=>by
  subst e1
  unfold Vh at hi
  obtain⟨j',h1,hi⟩:=aqY.mp hi
  split at hi
  ·cases hi
   exact⟨_,rfl⟩
  ·cases hi
 have hxf:fl≠[]->∃C,aj y=some C/\XfC X.K C/\∀f∈fl,PySem.W.findIn X.K (.ref C) f=some none:=fun ne=>by
  cases hx:c.hs.xf.lookup y with
  |none=>
   rw[hx]at hy
   exact absurd hy.symm ne
  |some l=>
   rw[hx]at hy
   cases hy
   exact am.hk.xf y _ hx
 unfold acq at h
 split at h
 ·cases h
  exact aee pe_str fun σ H Q ⟨g,ρ,M,x,z,I,e,kk⟩=>by
   cases e
   exact kk _ H (Ex.refl H) (.str _)
 ·cases h
  exact aee pe_non fun σ H Q ⟨g,ρ,M,x,z,I,e,kk⟩=>by
   cases e
   exact kk _ H (Ex.refl H) .non
 ·cases h
  exact PE.weak (acL (aj:=aj) (cls:=cls) (d:=d) (i:=i) adD fun x zs e=>by cases e;exact arO _) fun σ H Q z=>z
 ·obtain⟨n,e1,h⟩:=aqY.mp h
  obtain⟨hm,h⟩:=aV.mp h
  cases h
  cases eq_of_beq hm
  obtain⟨j,rfl⟩:=hsome _ e1
  obtain⟨f1,f2,f3,f4⟩:=fld _ j e1 rfl
  obtain⟨C,c1,c2,c3⟩:=hxf (List.ne_nil_of_mem (hfl _ (aq7.mpr rfl)))
  exact adl c1 c2 (c3 _ (hfl _ (aq7.mpr rfl))) hz hf f1 f2 f3 f4
 ·next es _ _ hne=>
  obtain⟨n,e1,h⟩:=aqY.mp h
  obtain⟨fs,e2,h⟩:=aqY.mp h
  cases h
  obtain⟨j,rfl⟩:=hsome _ e1
  obtain⟨f1,f2,f3,f4⟩:=fld _ j e1 rfl
  have hfs:fs≠[]:=fun z=>by
   subst z
   match es,e2 with
   |[],_=>exact hne rfl
   |.Attribute (.Name m _) f _::es,e2=>
    rw[ZK]at e2
    obtain⟨_,e2⟩:=aV.mp e2
    obtain⟨_,_,e2⟩:=aqY.mp e2
    cases e2
  have hfn:fl≠[]:=by
   cases fs with
   |nil=>exact absurd rfl hfs
   |cons f r=>exact List.ne_nil_of_mem (hfl f aq4)
  obtain⟨C,c1,c2,c3⟩:=hxf hfn
  exact acL (aa9 c1 c2 c3 hz hf f1 f2 f3 f4 e2 hfl) fun x zs e=>by
   have:=VB e
   have hl:fs.length<=100:=hl
   omega
 ·cases h
theorem U6{y:Str}{nm:Option Str}{i:Option Nat}{a:Addr}{oe:Obj}{cls:Value}{d:Option Addr}{pn:List (Addr×Obj)}{fl:List Str}(am:Amb aj c X W k)(hi:Vh c nm=some i)(hy:(c.hs.xf.lookup y).getD []=fl)(hz:Zc cls d oe)(hf:∃vs,oe.data=.fields vs) :
  ∀{ss:List Stmt} {st:List (Nat×DP)},acj c nm ss=some st->(∀p∈st,(∀f∈p.2.fs,f∈fl)/\p.2.fs.length<=100)->PSs (X.suite a ((a,oe)::pn)) ss (tSu X.K aj a cls d i y st)
 |[],st,h,_=>by
  cases h
  exact PSs.weak pss_nil fun D σ H z=>akB z
 |.Assign [.Name x p] e p2::r,st,h,hs=>by
  rw[acj]at h
  obtain⟨j,h1,h⟩:=aqY.mp h
  obtain⟨se,h2,h⟩:=aqY.mp h
  obtain⟨st',h3,h⟩:=aqY.mp h
  cases h
  obtain⟨s1,s2,s3⟩:=m9 am h1
  obtain⟨u1,u2⟩:=hs (j,se) aq4
  have he:=agJ (a:=a) (pn:=pn) am hi hy u1 u2 hz hf h2
  have hne:Fb e=false/\swappedStores [.Name x p] e X.env=pure none:=by
   unfold acq at h2
   split at h2 <;> first | exact⟨rfl,rfl⟩ | cases h2
  refine PSs.weak (pss_cons (ps_asg he (pg_name (X:=X.suite a ((a,oe)::pn)) am.nd s1 s2 s3) (Cr hne.1) hne.2 (by with_unfolding_all rfl)) (U6 am hi hy hz hf h3 fun p hp=>hs p (aq5 _ hp))) fun D σ H z=>?_
  exact ajc z fun σ' H' z'=>z'
def anu(aj:aQ)(K:aqZ)(h:Hd)(D:Addr):Cl:=⟨.ref D,h.nm,fun a cls d=>tSu K aj a cls d h.nm h.y h.st⟩
theorem Zv(am:Amb aj c X W k):∀{hds:List ExceptHandler} {hs:List Hd},Xn c hds=some hs->∃ls,BX X hds ls/\GX X.K aj hs ls
 |[],hs,h=>by
  cases h
  exact⟨[],.nil,.nil⟩
 |h0::hds,hs,h=>by
  rw[Xn]at h
  obtain⟨d,h1,h⟩:=aqY.mp h
  obtain⟨ds,h2,h⟩:=aqY.mp h
  cases h
  obtain⟨ls,i1,i2⟩:=Zv am h2
  unfold aj6 at h1
  split at h1
  ·next y np nm s0 su cp=>
   obtain⟨tab,j1,h1⟩:=aqY.mp h1
   obtain⟨i,j2,h1⟩:=aqY.mp h1
   obtain⟨st,j3,h1⟩:=aqY.mp h1
   obtain⟨_,j4,h1⟩:=aqY.mp h1
   obtain⟨hb,h1⟩:=aV.mp h1
   cases h1
   simp only[aq0,ark]at hb
   obtain⟨b1,b2,b3,b4⟩:=hb
   obtain⟨⟨D,hD⟩,hx⟩:=am.hk.xm y tab j1
   have hm:X.mg y=some (.ref D):=by
    split at j4
    ·next hl=>
     obtain⟨C,g1,g2,_⟩:=am.gl y _ hl
     rw[hD]at g2
     cases g2
     exact g1
    ·next hl=>
     obtain⟨C,fI,fd,ps,g1,g2,_⟩:=am.gl y _ hl
     rw[hD]at g2
     cases g2
     exact g1
    ·cases j4
   have hnames:Names X y (.ref D):=⟨tH am b1,(uo b2).1,.inl hm⟩
   have hst:∀p∈st,(∀f∈p.2.fs,f∈(c.hs.xf.lookup y).getD [])/\p.2.fs.length<=100:=fun p hp=>by
    have:=ars.mp b4 p hp
    rw[aq0,decide_eq_true_eq]at this
    exact⟨fun f hf=>by simpa using ars.mp this.1 f hf,this.2⟩
   have hnj:∀p∈st,i≠some p.1:=fun p hp z=>by
    subst z
    have:=ars.mp b3 p hp
    simp at this
   refine⟨anu aj X.K ⟨y,fun x=>tab.lookup x,i,st⟩ D::ls,?_,.cons ⟨⟨D,hD,rfl⟩,hx,rfl,rfl,hnj⟩ i2⟩
   cases nm with
   |none=>
    cases j2
    exact .one hnames rfl (fun a oe cls d pn hz hf=>U6 am rfl rfl hz hf j3 hst) i1
   |some n=>
    have j2':=j2
    unfold Vh at j2
    obtain⟨i',s1,j2⟩:=aqY.mp j2
    split at j2
    ·next hloc=>
     cases j2
     refine .as hnames rfl (Af am s1).1 ?_ (fun a oe cls d pn hz hf=>U6 am j2' rfl hz hf j3 hst) i1
     unfold PySem.Env.kindOf
     rw[am.hs]
     exact hloc
    ·cases j2
  ·cases h1
theorem u6.tr(a:u6 aj c X W k){W':WX}{pn:List (Addr×Obj)}{xe:Value->Shared->Prop}(t:Takes (X.tr pn xe) W')(p:PassesOwn (model X.prog X.w) X.A X.env xe):u6 aj c (X.tr pn xe) W' k where
 hN:=a.hN
 hs:=a.hs
 calm:=a.calm
 nd:=a.nd
 tk:=t
 rm:=a.rm
 gl:=a.gl
 bl:=a.bl
 fn:=a.fn
 hk:=a.hk
 ps:=p
 st:=a.st
 fr:=a.fr
 kf:=a.kf
def xS(q:Bool)(t:Tr)(s:Ts)(c:Tc):Stmt->Option SF
 |.Raise (some (.Call (.Name x _) [] [] _)) none _=>(match c.G.lookup x with
  |some .exc=>gd (Gz c.sc x&&!Fx x) (some (eU x))
  |_=>none)
 |.Raise (some (.Call (.Name x _) (e::es) [] _)) none _=>(match c.G.lookup x with
  |some (.exi fs)=>(FW t c (e::es)).bind fun as=>gd (Gz c.sc x&&(!Fx x&&(decide ((e::es).length=fs.length)&&decide (fs.length<=1000)))) (some (Cj x fs as))
  |_=>none)
 |.Try body (h::hds) [] [] _=>(s.B c body).bind fun f=>(Xn c (h::hds)).bind fun hs=>some (XC f hs)
 |.Pass _=>some aU
 |.Expr (.Call (.Attribute (.Attribute o f p1) m apos) [e] [] pos) epos=>(match q with
  |true=>(s.G c (.Call (.Attribute (.Attribute o f p1) m apos) [e] [] pos)).bind fun f=>some (cD f)
  |false=>match m=="append" with
   |true=>gd (baseOk o&&(nst e&&(apos.endLine==pos.line))) ((t.W c o).bind fun fo=>(s.G c e).bind fun fe=>some (Ec f fo fe))
   |false=>(s.G c (.Call (.Attribute (.Attribute o f p1) m apos) [e] [] pos)).bind fun f=>some (cD f))
 |.Expr e _=>gd (!Fb e) ((s.G c e).bind fun f=>some (cD f))
 |.Assign [.Name x p] (.ListComp elt [⟨tg,iter,ifs,0⟩,⟨tg1,iter1,ifs1,0⟩] scope cpos) _=>(vM c x).bind fun j=>
  gd (swB c.sc (.ListComp elt [⟨tg,iter,ifs,0⟩,⟨tg1,iter1,ifs1,0⟩] scope cpos) scope x p&&!c.ml.contains x) ((QS t c elt tg iter ifs tg1 iter1 ifs1 scope).bind fun f=>some (bB (aF j) (gOf f)))
 |.Assign [.Attribute o f _] e _=>(match q with
  |true=>none
  |false=>ae7 t s c o f e)
 |.Assign [.Subscript (.Attribute o f _) i _] e _=>(match q with
  |true=>none
  |false=>gd (baseOk o&&(!Zd i&&!Fb e)) ((t.W c o).bind fun fo=>(t.E c i).bind fun fi=>(t.E c e).bind fun fe=>match c.hs.df.lookup f with
   |some _=>some (Mx f fo fi fe)
   |none=>some (SM f fo fi fe)))
 |.AugAssign (.Attribute o f _) .Add e _=>(match q with
  |true=>none
  |false=>(t.W c o).bind fun fo=>(t.E c e).bind fun fe=>some (Ry c.hs.ft f fo fe))
 |.Delete [.Subscript (.Attribute o f _) i _] _=>(match q with
  |true=>none
  |false=>gd (baseOk o) ((t.W c o).bind fun fo=>(t.E c i).bind fun fi=>some (Nk f fo fi)))
 |_=>none
theorem al5(o:t.Ok)(os:s.Ok q)(a:u6 aj c X W k){st:Stmt}{f:SF}(h:xS q t s c st=some f):SE aj X W q st f:=by
 have hk:=a.hk
 unfold xS at h
 split at h
 ·split at h
  ·next hl=>
   obtain⟨hb,h⟩:=aV.mp h
   cases h
   simp only[aq0,ark]at hb
   exact afR a.calm a.tk (tH a.toAmb hb.1) (uo hb.2).1 (a.gl _ _ hl)
  ·cases h
 ·split at h
  ·next fs hl=>
   obtain⟨as,h1,h⟩:=aqY.mp h
   obtain⟨hb,h⟩:=aV.mp h
   cases h
   simp only[aq0,ark,decide_eq_true_eq]at hb
   obtain⟨b1,b2,b3,b4⟩:=hb
   obtain⟨i1,i2,i3⟩:=uF o a.toAmb h1
   exact adB a.calm a.tk a.rm (tH a.toAmb b1) (uo b2).1 (a.gl _ _ hl) i1 i2 (fun M ρ ds z=>by rw[i3 M ρ ds z];exact b3) b4
  ·cases h
 ·obtain⟨f1,h1,h⟩:=aqY.mp h
  obtain⟨hs,h2,h⟩:=aqY.mp h
  cases h
  obtain⟨ls,i1,i2⟩:=Zv a.toAmb h2
  exact ako a.st a.fr a.nd a.tk (fun W' pn xe t p=>os.ob (a.tr t p) h1) i1 i2
 ·cases h
  exact PS.weak ps_pass fun D σ H ⟨g,ρ,M,I,z⟩=>z σ H g .refl I
 ·split at h
  ·obtain⟨f1,h1,h⟩:=aqY.mp h
   cases h
   exact Vb (os.og a h1) (Gj rfl)
  ·split at h
   ·next hm=>
    obtain⟨hb,h⟩:=aV.mp h
    obtain⟨fo,h1,h⟩:=aqY.mp h
    obtain⟨fe,h2,h⟩:=aqY.mp h
    cases h
    simp only[aq0]at hb
    cases eq_of_beq hm
    exact ag5 hk.co (o.ow a.toAmb h1) hb.1 (os.og a h2) hb.2.1 hb.2.2
   ·obtain⟨f1,h1,h⟩:=aqY.mp h
    cases h
    exact Vb (os.og a h1) (Gj rfl)
 ·obtain⟨hb,h⟩:=aV.mp h
  obtain⟨f1,h1,h⟩:=aqY.mp h
  cases h
  exact Vb (os.og a h1) (Gj (by simpa using hb))
 ·obtain⟨j,hj,h⟩:=aqY.mp h
  obtain⟨hsw,h⟩:=aV.mp h
  rw[aq0]at hsw
  obtain⟨f1,h1,h⟩:=aqY.mp h
  cases h
  obtain⟨s1,s2,s3⟩:=m9 a.toAmb hj
  have hsw:=hsw.1
  rw[←a.hs]at hsw
  have l1:=(R8 (l:=0) a.kf hsw).1
  have l2:=fun l=>(R8 (l:=l) a.kf hsw).2
  clear h
  unfold QS at h1
  obtain⟨it,g1,h⟩:=aqY.mp h1
  obtain⟨⟨js,tf⟩,h2,h⟩:=aqY.mp h
  obtain⟨tt,h3,h⟩:=aqY.mp h
  obtain⟨it1,h4,h⟩:=aqY.mp h
  obtain⟨⟨js1,tf1⟩,h5,h⟩:=aqY.mp h
  obtain⟨tt1,h6,h⟩:=aqY.mp h
  obtain⟨te,h7,h⟩:=aqY.mp h
  obtain⟨hb,h⟩:=aV.mp h
  cases h
  simp only[aq0,ark]at hb
  obtain⟨b1,b2,b3,b4,b5,b6⟩:=hb
  have am:=a.toAmb
  exact ahC a.calm a.nd s1 l1 (l2 _) (o.oi am g1) (by rw[a.hN,a.hs];exact b1) (ou b2) (ou b3) (ou b4) (fun s H C cl fp=>tV (am.inn _ s H C cl fp) h2) (fun s H C cl fp=>uK o (am.inn _ s H C cl fp) h3) (fun s H C cl fp=>o.oi (am.inn _ s H C cl fp) h4) (fun s H C cl fp=>tV (am.inn _ s H C cl fp) h5) (fun s H C cl fp=>uK o (am.inn _ s H C cl fp) h6) (fun s H C cl fp=>o.oe (am.inn _ s H C cl fp) h7) (pX b5) (fun env=>pX b6)
 ·split at h
  ·cases h
  ·exact ahY o os a h
 ·split at h
  ·cases h
  ·obtain⟨hb,h⟩:=aV.mp h
   obtain⟨fo,h1,h⟩:=aqY.mp h
   obtain⟨fi,h2,h⟩:=aqY.mp h
   obtain⟨fe,h3,h⟩:=aqY.mp h
   simp only[aq0,ark]at hb
   obtain⟨b1,b2,b3⟩:=hb
   split at h
   ·cases h
    exact ahV hk.co hk.hw (afI a.toAmb) (o.ow a.toAmb h1) b1 (o.oe a.toAmb h2) (o.oe a.toAmb h3) afE
   ·cases h
    exact ahy hk.co (o.ow a.toAmb h1) b1 (o.oe a.toAmb h3) (o.oe a.toAmb h2) (afD b2) (Cr b3) (by with_unfolding_all rfl)
 ·split at h
  ·cases h
  ·obtain⟨fo,h1,h⟩:=aqY.mp h
   obtain⟨fe,h2,h⟩:=aqY.mp h
   cases h
   exact ahU hk.co hk.fk (o.ow a.toAmb h1) (o.oe a.toAmb h2)
 ·split at h
  ·cases h
  ·obtain⟨hb,h⟩:=aV.mp h
   obtain⟨fo,h1,h⟩:=aqY.mp h
   obtain⟨fi,h2,h⟩:=aqY.mp h
   cases h
   exact ahh hk.co hk.hw (afI a.toAmb) (o.ow a.toAmb h1) hb (o.oe a.toAmb h2)
 ·cases h
end
def tr0:Tr:=⟨fun _ _=>none,fun _ _=>none,fun _ _=>none,fun _ _ _ _=>none⟩
def ajA(t:Tr):Tr:=⟨xtE t,xtW t,xtT t,xtI t⟩
def tr:Nat->Tr
 |0=>tr0
 |n+1=>ajA (tr n)
theorem zU:∀n,(tr n).Ok
 |0=>⟨fun _=>(by intro _ _ h;cases h),fun _=>(by intro _ _ h;cases h),fun _=>(by intro _ _ h;cases h),fun _=>(by intros;rename_i h;cases h)⟩
 |n+1=>⟨fun a=>(by intro _ _ h;exact(wj h).elim (alO (zU n) a) (alc (zU n) a)),fun a=>(by intro _ _ h;exact(wj h).elim (alX (zU n) a) (ajR (zU n) a)),fun a=>(by intro _ _ h;exact(wj h).elim (alC (zU n) a) (aiP (zU n) a)),fun a=>(by intro _ _ _ _ h;exact(wj h).elim (al0 (zU n) a) (akz (zU n) a))⟩
def ts0:Ts:=⟨fun _ _=>none,fun _ _=>none,fun _ _=>none,fun _ _=>none⟩
def ldG(q:Bool)(t:Tr)(s:Ts)(c:Tc)(e:Expr):Option GF:=match q with
 |true=>none
 |false=>xG t s c e
def ldH(_:Bool)(_:Ts)(_:Tc)(_:Expr):Option GT:=none
def ajr(q:Bool)(t:Tr)(s:Ts):Ts:=⟨fun c e=>els ((t.E c e).bind fun f=>some (gOf f)) (ldG q t s c e),fun c e=>els ((t.T c e).bind fun f=>some (afk f)) (ldH q s c e),fun c e=>els (stS t s c e) (xS q t s c e),ab6 s⟩
def ts(q:Bool)(t:Tr):Nat->Ts
 |0=>ts0
 |n+1=>ajr q t (ts q t n)
theorem M9{t:Tr}(o:t.Ok)(q:Bool):∀n,(ts q t n).Ok q
 |0=>⟨fun _=>(by intro _ _ h;cases h),fun _=>(by intro _ _ h;cases h),fun _=>(by intro _ _ h;cases h),fun _=>(by intros;rename_i h;cases h)⟩
 |n+1=>⟨fun a=>by
   intro _ _ h
   rcases wj h with h|h
   ·obtain⟨f,h1,h⟩:=aqY.mp h
    cases h
    exact agh (o.oe a.toAmb h1)
   ·cases q with
    |true=>cases h
    |false=>exact alV o (M9 o false n) a h,fun a=>by
   intro _ _ h
   rcases wj h with h|h
   ·obtain⟨f,h1,h⟩:=aqY.mp h
    cases h
    exact alh (o.ot a.toAmb h1)
   ·(cases h),fun a=>by
   intro _ _ h
   rcases wj h with h|h
   ·exact ajQ o (M9 o q n) a h
   ·exact al5 o (M9 o q n) a h,fun a=>by
   intro _ _ h
   exact afO (M9 o q n) a h⟩
def rd(c:Tc)(b:List Stmt):Option SF:=(ts true (tr 40) 60).B c b
def rdG(c:Tc)(b:List Stmt):Option SF:=(ts false (tr 40) 60).B c b
def CV(P:Program)(w:World)(K:aqZ)(mg:Str->Option Value)(base:Heap)(aj:aQ)(k:Nat):List (Str×GV)->Prop
 |[]=>True
 |(x,v)::r=>bh P w K mg base aj k x v/\CV P w K mg base aj k r
def CK(mg:Str->Option Value):List Str->Prop
 |[]=>True
 |x::r=>mg x=none/\CK mg r
section
variable{P:Program}{w:World}{K:aqZ}{mg:Str->Option Value}{base:Heap}{aj:aQ}{k:Nat}
theorem CV.get:∀{G:List (Str×GV)},CV P w K mg base aj k G->∀x v,G.lookup x=some v->bh P w K mg base aj k x v
 |[],_,x,v,h=>nomatch h
 |(y,u)::r,g,x,v,h=>by
  rw[arB]at h
  split at h
  ·next e=>
   cases h
   rw[eq_of_beq e]
   exact g.1
  ·exact g.2.get x v h
theorem CK.get:∀{B:List Str},CK mg B->∀x,x∈B->mg x=none
 |[],_,x,h=>nomatch h
 |y::r,g,x,h=>by
  rcases arh.mp h with rfl|h
  ·exact g.1
  ·exact g.2.get x h
theorem aec{qual:Str}{st:Stmt}{f:Addr}{N ps ml B:List Str}{G:List (Str×GV)}{Ms:Hs}(S:FnScope N ps (defScope st))(g:CV P w K mg base aj k G)(b:CK mg B)(hh:U9 P w K mg base aj k Ms)
  (cdv:Value) (A:Around) (outer:List PySem.Env) (s:Shared) (H:Hp) (E:XK) (hr:Room k (A.deeper (envOfC qual (defScope st) s.heap.objs.size f cdv))) :
  u6 aj ⟨N,defScope st,G,B,Ms,ml,true⟩ (cxOf (L2.CX P w) P w K mg base N qual (defScope st) f cdv A outer s H E) (afn E) k where
 hN:=rfl
 hs:=rfl
 calm:=rfl
 nd:=S.nd
 tk:=takes_of rfl rfl rfl rfl
 rm:=hr
 gl:=g.get
 bl:=b.get
 fn:=fun _ _=>rfl
 hk:=hh
 ps:=passes_of rfl
 st:=rfl
 fr:=rfl
 kf:=S.kind
theorem Yb{x qual:Str}{st:Stmt}{f:Addr}{fd:FuncData}{N ps ml B:List Str}{G:List (Str×GV)}{Ms:Hs}{body:SF}(F:Fun K x qual st f fd)(S:FnScope N ps (defScope st))(g:CV P w K mg base aj k G)(b:CK mg B)(hh:U9 P w K mg base aj k Ms)
  (h:rd ⟨N,defScope st,G,B,Ms,ml,true⟩ (defBody st)=some body):FnOk P w K mg base (L2.CX P w) (k+1) f fd ps (Vs K aj ps.length (mQ N.length body)):=
 amW F S fun cdv A outer s H E hr=>(M9 (zU 40) true 60).ob (aec S g b hh cdv A outer s H E hr) h
theorem RG{x qual:Str}{st:Stmt}{f:Addr}{fd:FuncData}{N ps ml B:List Str}{G:List (Str×GV)}{Ms:Hs}{body:SF}(F:Fun K x qual st f fd)(S:FnScope N ps (defScope st))(g:CV P w K mg base aj k G)(b:CK mg B)(hh:U9 P w K mg base aj k Ms)
  (h:rdG ⟨N,defScope st,G,B,Ms,ml,true⟩ (defBody st)=some body):FnOk P w K mg base (L2.CX P w) (k+1) f fd ps (JG K aj ps.length (mG N.length body)):=
 amY F S fun cdv A outer s H E hr=>(M9 (zU 40) false 60).ob (aec S g b hh cdv A outer s H E hr) h
theorem aiE{f:Addr}{fd:FuncData}{ps:List Str}{j:Nat}:FnOk P w K mg base (L2.CX P w) j f fd ps (Vs K aj ps.length fun _ _=>.bad):=
 ⟨fun vs H Q E h=>h.1,fun A outer s H args us vs Q E _ _ _ _ h=>by
  obtain⟨_,g,M,ds,_,_,_,z⟩:=h
  exact False.elim z⟩
theorem afx{x:Str}{f:Addr}{fd:FuncData}{ps:List Str}{j:Nat}{m:Mo->List Dat->Out Dat}(hj:j<=k)(hg:mg x=some (.ref f))(hk:PySem.W.keepIn K (.ref f)=true)(hB:Binds K fd ps [])(F:FnOk P w K mg base (L2.CX P w) j f fd ps (Vs K aj ps.length m)):bh P w K mg base aj k x (.fq ps.length m):=
 ⟨f,hg,hk,fd,ps,j,hj,rfl,hB,F⟩
theorem Kr{x:Str}{i:Int}{t:Tok}(h:mg x=some (.int i t)):bh P w K mg base aj k x (.con (.int i)):=⟨.int i,_,h,⟨t,rfl⟩,fun _ _=>.int i⟩
theorem V5{g:Gh}{H:Hp}:∀{vs:List V} {ds:List Dat},(vs.zip ds).all (fun p=>match p with
  |(.int i,.int j)=>decide (i=j)
  |(.str x,.str y)=>decide (x=y)
  |_=>false)=true->vs.length=ds.length->aM K g H vs ds
 |[],[],_,_=>.nil
 |[],_::_,_,h=>nomatch h
 |_::_,[],_,h=>nomatch h
 |v::vs,d::ds,h,hl=>by
  rw[arP,arK,aq0]at h
  refine .cons ?_ (V5 h.2 (arX hl))
  have h1:=h.1
  split at h1
  ·next e=>cases e;cases of_decide_eq_true h1;exact .int _
  ·next e=>cases e;cases of_decide_eq_true h1;exact .str _
  ·cases h1
theorem aeM{x:Str}{a:Addr}{vs:List V}{ds:List Dat}(h:mg x=some (.ref a))(q:∀H:Hp,SqT K H a vs)(hf:(vs.zip ds).all (fun p=>match p with
  |(.int i,.int j)=>decide (i=j)
  |(.str x,.str y)=>decide (x=y)
  |_=>false)=true) (hl:vs.length=ds.length):bh P w K mg base aj k x (.con (.tuple ds)):=⟨.ref a,_,h,rfl,fun _ H=>.tup (q H) (V5 hf hl)⟩
end
open PySem PySem.Spec PyProof.Rows L2
section
variable{fa:List He.Fa}{fn:List He.DefD}{tb:List He.Tab}{ex:aqZ->Bool}{w:World}{K:aqZ}
theorem MK.pH(c:MK fa fn tb ex w K)(i:Nat){f:He.Fa}(h:fa[i]?=some f:=by rfl):f.ok K=true:=c.t.d.fact i h
theorem MK.Wg(c:MK fa fn tb ex w K)(i:Nat){d:He.DefD}(h:fn[i]?=some d:=by rfl):∃fd,FunD K d.name d.qual d.params d.body d.scope (d.dvs K) (d.kws K) (He.fAd K d.at_) fd:=c.t.d.def_ i h
theorem DK{x qual:Str}{st:Stmt}{f:Addr}{fd:FuncData}(F:FunD K x qual (defArgs st) (defBody st) (defScope st) [] [] f fd):L2.Fun K x qual st f fd:=by
 obtain⟨oc,od,dV,kV,doc,pm,an,cdv,ct,osl,e,l,c,hd,_⟩:=F.ex
 rcases hd with⟨_,z⟩|⟨z,_⟩
 ·cases z
  exact⟨⟨oc,od,kV,doc,pm,an,cdv,ct,osl,e,l,c⟩,F.kp⟩
 ·exact absurd rfl z
end
def g0:Gh:=⟨[],fun _=>none,fun _=>False,fun _=>False⟩
theorem ajp(a:Addr):¬g0.A a:=fun z=>by
 rcases z with(z|z)|z|z
 ·cases z
 ·exact z rfl
 ·exact z
 ·exact z
theorem amh{H:Hp}:Kd g0 H:=⟨fun a z=>absurd z (ajp a),fun a z=>False.elim z,fun a z=>False.elim z⟩
theorem ak5{K:aqZ}{aj:aQ}{H:Hp}(nc:aj ""=none):fZ K aj g0 H []:=⟨rfl,fun h k a e=>(by cases h <;> cases e),fun h a i e=>(by cases h <;> cases e),fun h i e=>(by cases h <;> cases e),fun h i e=>(by cases h <;> cases e),fun h a i e=>(by cases h <;> cases e),fun h i e=>(by cases h <;> cases e),nc⟩
theorem Wf{K:aqZ}{g:Gh}{H:Hp}:∀ns:List Int,aM K g H (ns.map V.int) (ns.map PyData.int)
 |[]=>.nil
 |n::ns=>.cons (.int n) (Wf ns)
theorem aiR{K:aqZ}{H:Hp}{a:Addr}{ns:List Int}(hS:SqL K H a (ns.map V.int)):aM K g0 H [.ref a] [.list (ns.map PyData.int)]:=by
 refine .cons (.lst ?_ (Wf ns)) .nil
 rcases hS with h|h
 ·exact .inl ⟨h,ajp a⟩
 ·exact .inr h
theorem alP{K:aqZ}{aj:aQ}(nc:aj ""=none){m:Mo->List Dat->bf Dat}{H:Hp}{a:Addr}{ns:List Int}{M:Mo}(hS:SqL K H a (ns.map V.int))(h:m [] [.list (ns.map PyData.int)]=.ok (.bool true) M):JG K aj 1 m [.ref a] H (fun v _=>v=.bl true) fun _ _ _=>False:=
 ⟨rfl,g0,[],[.list (ns.map PyData.int)],amh,ak5 nc,aiR hS,by
  rw[h]
  exact fun v H' g' _ _ _ r=>by cases r;rfl⟩
section
variable{K:aqZ}{h:Heap}{mg:Str->Option Value}{w:World}
def oX(w:World)(K:aqZ)(xs:List Str)(ft:Ft):aQ:=⟨fun x=>match xs.contains x with
 |true=>some (He.ga K x)
 |false=>none,fun c=>(ft.lookup c).getD [],w⟩
theorem Ov{xs:List Str}{ft:Ft}{x:Str}{C:Addr}(e:oX w K xs ft x=some C):C=He.ga K x:=by
 have e:(match xs.contains x with
  |true=>some (He.ga K x)
  |false=>none)=some C:=e
 split at e
 ·exact(arn e).symm
 ·cases e
theorem CQ{xs:List Str}{ft:Ft}{x:Str}(e:xs.contains x=true):oX w K xs ft x=some (He.ga K x):=by
 show(match xs.contains x with
  |true=>some (He.ga K x)
  |false=>none)=_
 rw[e]
theorem Y6{ft:Ft}(hb:Kf K ft=true){c:Str}{fs:List Str}(hl:ft.lookup c=some fs):Cls K (He.ga K c)/\∀f∈fs,NoAttr K (He.ga K c) f:=by
 obtain⟨h1,h2⟩:=He.ba (ars.mp hb _ (qH hl))
 exact⟨He.cls_ok h1,fun f hf=>He.noat_ok (ars.mp h2 f hf)⟩
theorem adZ{xs:List Str}{ft:Ft}(hb:Kf K ft=true):jG K (oX w K xs ft):=fun c C f e hf=>by
 have e:=Ov e
 subst e
 have hf:f∈(ft.lookup c).getD []:=hf
 cases hl:ft.lookup c with
 |none=>rw[hl]at hf;cases hf
 |some fs=>
  rw[hl]at hf
  obtain⟨h1,h2⟩:=Y6 hb hl
  exact⟨h1,h2 f hf⟩
theorem afW{xs:List Str}{ft:Ft}:KH ft (oX w K xs ft):=fun c f e=>by
 unfold Ft.has at e
 show f∈(ft.lookup c).getD []
 split at e
 ·next fs hl=>
  rw[hl]
  simpa using e
 ·cases e
def xmN(xs:List Str)(xm:List (Str×List (Str×Bool))):Bool:=xm.all fun p=>xs.contains p.1
theorem alW{xs:List Str}{ft:Ft}{xm:List (Str×List (Str×Bool))}(hb:xmB K xm=true)(hn:xmN xs xm=true)(y:Str)(tab:List (Str×Bool))(hl:xm.lookup y=some tab):(∃D,oX w K xs ft y=some D)/\abW K (oX w K xs ft) y fun x=>tab.lookup x:=by
 refine⟨⟨_,CQ (ars.mp hn _ (qH hl))⟩,fun x b C e1 e2 D e3=>?_⟩
 rw[Ov e2,Ov e3]
 exact He.exm_ok (ars.mp (ars.mp hb _ (qH hl)) _ (qH e1))
theorem agZ{C:Addr}(hb:ai3 K C=true):OexC K C:=by
 obtain⟨h1,h2⟩:=He.ba hb
 obtain⟨h2,h3⟩:=He.ba h2
 obtain⟨h3,h4⟩:=He.ba h3
 obtain⟨h4,h5⟩:=He.ba h4
 refine⟨?_,He.eqO_ok h2,of_decide_eq_true h3,of_decide_eq_true h4,h5⟩
 split at h1
 ·next t dd cd sl hl=>
  obtain⟨t1,h1⟩:=He.ba h1
  split at h1
  ·next C' bm k0 k1 k2 k3 n k5 e1 e2=>
   obtain⟨a1,h1⟩:=He.ba h1
   obtain⟨a2,h1⟩:=He.ba h1
   obtain⟨a3,h1⟩:=He.ba h1
   obtain⟨a4,a5⟩:=He.ba h1
   have q1:=of_decide_eq_true t1
   have q2:=of_decide_eq_true a1
   have q3:=of_decide_eq_true a2
   have q4:cd.hasDel=false:=by simpa using a3
   have q5:sl=#[k0,k1,k2,k3,some (.builtin n),k5]:=by
    rw[←Array.toList_inj]
    exact e2
   obtain⟨nm,bs,mro,ns,qn,hd,sn,sub,ab,col,hdel⟩:=cd
   have e1:mro=.ref C'::bm:=e1
   have q4:hdel=false:=q4
   have a4:hd=true:=a4
   subst q1 q2 q3 q4 q5 e1 a4
   exact⟨nm,qn,ns,bs,bm,sn,sub,ab,col,dd,k0,k1,k2,k3,k5,hl,a5⟩
  ·cases h1
 ·cases h1
theorem TJ{x:Str}{fs:List Str}(hb:Uw K x fs=true):OexC K (He.ga K x)/\PySem.W.findIn K (.ref (He.ga K x)) "__init__"=some (some (.ref (He.ma K (He.ga K x) "__init__")))/\PySem.W.typeIn K (.ref (He.ma K (He.ga K x) "__init__"))=some (.type "function")/\XfC K (He.ga K x)/\∀f∈fs,PySem.W.findIn K (.ref (He.ga K x)) f=some none:=by
 obtain⟨h1,h2⟩:=He.ba hb
 obtain⟨h2,h3⟩:=He.ba h2
 obtain⟨h3,h4⟩:=He.ba h3
 obtain⟨h4,h5⟩:=He.ba h4
 exact⟨agZ h1,He.eqO_ok h2,of_decide_eq_true h3,xfB_ok h4,fun f hf=>He.eqO_ok (ars.mp h5 f hf)⟩
theorem af5{a:Addr}{xs:List Str}(hb:Xy K a xs=true)(H:Hp):SqT K H a (xs.map V.str):=by
 unfold Xy at hb
 split at hb
 ·next c d its n sl hl=>
  obtain⟨h1,h2⟩:=He.ba hb
  obtain⟨h3,h4⟩:=He.ba h2
  have q1:=of_decide_eq_true h1
  subst q1
  exact .inr ⟨_,its,n,hl,rfl,rfl,of_decide_eq_true h3,He.relAll_ok h4⟩
 ·cases hb
def zP(kvs:List (Str×List Str)):List (Str×Dat):=kvs.map fun q=>(q.1,.tuple (q.2.map PyData.str))
theorem Vq{g:Gh}{H:Hp}:∀xs:List Str,aM K g H (xs.map V.str) (xs.map PyData.str)
 |[]=>.nil
 |x::xs=>.cons (.str x) (Vq xs)
theorem Qx{y:Str}:∀{kvs:List (Str×List Str)},(zP kvs).lookup y=(kvs.lookup y).map fun xs=>PyData.tuple (xs.map PyData.str)
 |[]=>rfl
 |(z,xs)::r=>by
  show List.lookup y ((z,PyData.tuple (xs.map PyData.str))::zP r)=_
  rw[arB,arB]
  split
  ·rfl
  ·exact Qx
theorem look_none{α:Type}{y:Str}:∀{kvs:List (Str×α)},kvs.lookup y=none->y∉kvs.map (·.1)
 |[],_=>by simp
 |(z,a)::r,h=>by
  rw[arB]at h
  split at h
  ·cases h
  ·next hn=>
   rw[aq3,arh]
   rintro(e|e)
   ·subst e
    simp at hn
   ·exact look_none h e
theorem agE{x:Str}{kvs:List (Str×List Str)}(hb:ae4 K x kvs=true)(hk:∃es n,KDict K w (He.ga K x) es n):abM w K (He.ga K x) (zP kvs):=by
 obtain⟨h1,h2⟩:=He.ba hb
 obtain⟨h2,h3⟩:=He.ba h2
 obtain⟨es,n,D⟩:=hk
 rw[D.at_]at h1
 refine⟨es,n,D,?_,fun y=>?_⟩
 ·unfold zP
  rw[arA]
  exact of_decide_eq_true h2
 ·rw[Qx]
  cases hl:kvs.lookup y with
  |some xs=>
   have h4:=ars.mp h3 _ (qH hl)
   show ∃v u,PySem.W.nsIn K (He.ga K x) y=some (some u)/\RelV v u/\∀g H,Rep K g H v (.tuple (xs.map PyData.str))
   have h4:(match PySem.W.nsIn K (He.ga K x) y with
    |some (some (.ref a))=>Xy K a xs
    |_=>false)=true:=h4
   split at h4
   ·next a he=>exact⟨.ref a,.ref a,he,rfl,fun g H=>.tup (af5 h4 H) (Vq xs)⟩
   ·cases h4
  |none=>
   show PySem.W.nsIn K (He.ga K x) y=some none
   have ny:=look_none hl
   unfold PySem.W.nsIn
   rw[D.at_]
   have h1:es.toList.all (fun e=>(match e.key with
    |.str y _=>(kvs.map (·.1)).contains y
    |_=>false)&&!e.refKey)=true:=h1
   have f1:es.toList.find? (·.key.isStr y)=none:=by
    rw[List.find?_eq_none]
    intro e he z
    obtain⟨a1,a2⟩:=He.ba (ars.mp h1 e he)
    split at a1
    ·next y' tk hy=>
     rw[hy]at z
     have z:(y'==y)=true:=z
     have e':=eq_of_beq z
     subst e'
     exact ny (by simpa using a1)
    ·cases a1
   have f2:es.toList.any (·.refKey)=false:=by
    rw[List.any_eq_false]
    intro e he z
    obtain⟨a1,a2⟩:=He.ba (ars.mp h1 e he)
    rw[z]at a2
    cases a2
   show(match es.toList.find? (·.key.isStr y) with
    |some e=>some (some e.val)
    |none=>if es.toList.any (·.refKey) then none else some none)=some none
   rw[f1,f2]
   rfl
end
section
variable{P:Program}{w:World}{K:aqZ}{mg:Str->Option Value}{base:Heap}{k:Nat}{xs:List Str}{ft:Ft}
def Xr(P:Program)(w:World)(K:aqZ)(mg:Str->Option Value)(base:Heap)(aj:aQ)(k:Nat)(m:Str):List (Str×MV)->Prop
 |[]=>True
 |(c,v)::r=>bY P w K mg base aj k c m v/\Xr P w K mg base aj k m r
def Fg(P:Program)(w:World)(K:aqZ)(mg:Str->Option Value)(base:Heap)(aj:aQ)(k:Nat):List (Str×List (Str×MV))->Prop
 |[]=>True
 |(m,tb)::r=>Xr P w K mg base aj k m tb/\Fg P w K mg base aj k r
theorem Xr.get{aj:aQ}{m:Str}:∀{tb:List (Str×MV)},Xr P w K mg base aj k m tb->∀c v,tb.lookup c=some v->bY P w K mg base aj k c m v
 |[],_,c,v,h=>nomatch h
 |(y,u)::r,g,c,v,h=>by
  rw[arB]at h
  split at h
  ·next e=>
   cases h
   rw[eq_of_beq e]
   exact g.1
  ·exact g.2.get c v h
theorem Fg.get{aj:aQ}:∀{Ms:List (Str×List (Str×MV))},Fg P w K mg base aj k Ms->∀m tb,Ms.lookup m=some tb->∀c v,tb.lookup c=some v->bY P w K mg base aj k c m v
 |[],_,m,tb,h=>nomatch h
 |(y,u)::r,g,m,tb,h=>by
  rw[arB]at h
  split at h
  ·next e=>
   cases h
   rw[eq_of_beq e]
   exact g.1.get
  ·exact g.2.get m tb h
theorem anC{aj:aQ}{x:Str}{f:Addr}{fd:FuncData}{ps:List Str}{j:Nat}{m:Mo->List Dat->bf Dat}(hj:j<=k)(hg:mg x=some (.ref f))(hk:PySem.W.keepIn K (.ref f)=true)(hB:Binds K fd ps [])(F:FnOk P w K mg base (L2.CX P w) j f fd ps (JG K aj ps.length m)):bh P w K mg base aj k x (.fg ps.length m):=
 ⟨f,hg,hk,fd,ps,j,hj,rfl,hB,F⟩
theorem iU{x:Str}(hn:xs.contains x=true)(hg:mg x=some (.ref (He.ga K x)))(he:(He.Fa.exc x).ok K=true):bh P w K mg base (oX w K xs ft) k x .exc:=by
 obtain⟨h1,h2,h3,h4⟩:=He.exc_ok he
 exact⟨_,hg,CQ hn,h1,h2,h3,h4⟩
theorem ajB{x:Str}{fd:FuncData}{ps:List Str}{j n:Nat}{m:Mo->List Dat->bf Dat}(hj:j+1<=k)(hn:xs.contains x=true)(hg:mg x=some (.ref (He.ga K x)))(hc:Cls K (He.ga K x))(hm:(He.Fa.mkr x).ok K=true)(hp:ps.length=n+1)(hB:Binds K fd ps [])
  (F:FnOk P w K mg base (L2.CX P w) j (He.ma K (He.ga K x) "__init__") fd ps (JG K (oX w K xs ft) ps.length m)):bh P w K mg base (oX w K xs ft) k x (.cls n m):=
 ⟨_,_,fd,ps,j,hg,CQ hn,hc,He.mkr_ok hm,hj,hp,hB,F⟩
theorem ajs{aj:aQ}{x:Str}{kvs:List (Str×List Str)}(hg:mg x=some (.ref (He.ga K x)))(hb:ae4 K x kvs=true)(hk:∃es n,KDict K w (He.ga K x) es n):bh P w K mg base aj k x (.dic (zP kvs)):=⟨_,hg,agE hb hk⟩
theorem ajJ{x:Str}{fs:List Str}{fd:FuncData}{ps:List Str}(h2:2<=k)(hn:xs.contains x=true)(hg:mg x=some (.ref (He.ga K x)))(ho:Uw K x fs=true)(hp:ps.length=fs.length+1)(hB:Binds K fd ps [])(F:FnOk P w K mg base CX0 1 (He.ma K (He.ga K x) "__init__") fd ps (afV (He.ga K x) fs)):bh P w K mg base (oX w K xs ft) k x (.exi fs):=by
 obtain⟨h1,h3,h4,_,_⟩:=TJ ho
 exact⟨_,_,fd,ps,hg,CQ hn,h1,h3,h4,h2,hp,hB,F⟩
theorem agt{m:Str}{l:List Str}(hf:l.contains m=false)(z:m∈l):False:=by
 rw[List.contains_iff_mem.mpr z]at hf
 cases hf
theorem anG{c m:Str}{fd:FuncData}{ps:List Str}{j:Nat}{mm:Mo->List Dat->Out Dat}(hj:j<=k)(hn:xs.contains c=true)(hc:Cls K (He.ga K c))(hm:(He.Fa.meth c m).ok K=true)(hf:((ft.lookup c).getD []).contains m=false)(hB:Binds K fd ps [])(F:FnOk P w K mg base (L2.CX P w) j (He.ma K (He.ga K c) m) fd ps (Vs K (oX w K xs ft) ps.length mm)):bY P w K mg base (oX w K xs ft) k c m (.q ps.length mm):=
 ⟨_,_,CQ hn,hc,He.meth_ok hm,(fun z=>agt hf z),fd,ps,j,hj,rfl,hB,F⟩
theorem am3{c m:Str}{fd:FuncData}{ps:List Str}{j:Nat}{mm:Mo->List Dat->bf Dat}(hj:j<=k)(hn:xs.contains c=true)(hc:Cls K (He.ga K c))(hm:(He.Fa.meth c m).ok K=true)(hf:((ft.lookup c).getD []).contains m=false)(hB:Binds K fd ps [])(F:FnOk P w K mg base (L2.CX P w) j (He.ma K (He.ga K c) m) fd ps (JG K (oX w K xs ft) ps.length mm)):bY P w K mg base (oX w K xs ft) k c m (.g ps.length mm):=
 ⟨_,_,CQ hn,hc,He.meth_ok hm,(fun z=>agt hf z),fd,ps,j,hj,rfl,hB,F⟩
theorem alR{Ms:List (Str×List (Str×MV))}{xm:List (Str×List (Str×Bool))}{df:List (Str×Bool)}{xf:List (Str×List Str)}(hm:Fg P w K mg base (oX w K xs ft) k Ms)(hb:Kf K ft=true)(hx:xmB K xm=true)(hn:xmN xs xm=true)(hf:(xf.all fun p=>xs.contains p.1&&Uw K p.1 p.2)=true):U9 P w K mg base (oX w K xs ft) k ⟨Ms,ft,xm,df,xf⟩ where
 ms:=hm.get
 fk:=afW
 co:=adZ hb
 hw:=rfl
 xm:=alW hx hn
 xf:=fun y fs hl=>by
  obtain⟨h1,h2⟩:=He.ba (ars.mp hf _ (qH hl))
  obtain⟨_,_,_,h3,h4⟩:=TJ h2
  exact⟨_,CQ h1,h3,h4⟩
end
abbrev lI(l:List Int):Dat:=.list (l.map PyData.int)
abbrev aJ(l:List Int):Dat:=.tuple (l.map PyData.int)
theorem iD{tg:fK}{body:SF}{d:Dat}{ds:List Dat}{M M2:Mo}{ρ ρ1 ρ2:Env}(h1:tg d ρ=some ρ1)(h2:body M ρ1=.next ρ2 M2):gR tg body (d::ds) M ρ=gR tg body ds M2 ρ2:=by
 rw[gR,h1]
 show(match body M ρ1 with
   |.next ρ2 M2=>gR tg body ds M2 ρ2
   |.cont ρ2 M2=>gR tg body ds M2 ρ2
   |.brk ρ2 M2=>.next ρ2 M2
   |.ret d M2=>.ret d M2
   |.exc x ρ2 M2=>.exc x ρ2 M2
   |.bad=>.bad)=_
 rw[h2]
theorem fW{α:Type}{tg:fK}{tt:QT}{te:QF}{M:Mo}{ρ:Env}(ds:α->Dat)(p:α->Bool)(f:α->Dat):∀(xs:List α),(∀x∈xs,∃ρ1,tg (ds x) ρ=some ρ1/\tt M ρ1=.ok (p x)/\(p x=true->te M ρ1=.ok (f x)))->cO tg tt te M ρ (xs.map ds)=.ok ((xs.filter p).map f)
 |[],_=>rfl
 |x::xs,h=>by
  obtain⟨ρ1,h1,h2,h3⟩:=h x aq4
  have ih:=fW ds p f xs fun y hy=>h y (aq5 _ hy)
  rw[aq3,cO,h1]
  show((wZ (tt M ρ1)).bind fun b=>if b=true then(wZ (te M ρ1)).bind fun y=>(cO tg tt te M ρ (xs.map ds)).bind fun r=>.ok (y::r) else cO tg tt te M ρ (xs.map ds))=_
  rw[h2,ih]
  cases hp:p x with
  |true=>
   show(if true=true then(wZ (te M ρ1)).bind fun y=>(Out.ok ((xs.filter p).map f)).bind fun r=>.ok (y::r) else Out.ok ((xs.filter p).map f))=_
   rw[h3 hp,if_pos rfl,List.filter_cons_of_pos hp]
   rfl
  |false=>
   show(if false=true then(wZ (te M ρ1)).bind fun y=>(Out.ok ((xs.filter p).map f)).bind fun r=>.ok (y::r) else Out.ok ((xs.filter p).map f))=_
   rw[if_neg (by decide),List.filter_cons_of_neg (by rw[hp];decide)]
theorem dW{α:Type}{tg:fK}{te:QF}{M:Mo}{ρ:Env}(ds:α->Dat)(f:α->Dat)(xs:List α)(h:∀x∈xs,∃ρ1,tg (ds x) ρ=some ρ1/\te M ρ1=.ok (f x)):cO tg gJ te M ρ (xs.map ds)=.ok (xs.map f):=by
 have:=fW (tt:=gJ) ds (fun _=>true) f xs fun x hx=>by
  obtain⟨ρ1,h1,h2⟩:=h x hx
  exact⟨ρ1,h1,rfl,fun _=>h2⟩
 rw[this,asj.mpr (fun _ _=>rfl)]
theorem agz{i j:Int}(h : -(2 ^ 64) < i/\i < 2 ^ 64):decide (CMul i j)=true:=decide_eq_true (.inl h)
theorem mul_r{i j:Int}(h : -(2 ^ 64) < j/\j < 2 ^ 64):decide (CMul i j)=true:=decide_eq_true (.inr h)
section
variable(M:Mo)(ρ:Env)
@[simp]theorem ajh (f k:SF):aD f k M ρ=match f M ρ with
 |.next ρ' M'=>k M' ρ'
 |o=>o:=rfl
@[simp]theorem an4:aU M ρ=.next ρ M:=rfl
@[simp]theorem ao4 (tg:fK) (f:GF):bB tg f M ρ=(f M ρ).then ρ fun d M'=>match tg d ρ with
 |some ρ'=>.next ρ' M'
 |none=>.bad:=rfl
@[simp]theorem anW (i j:Nat) (f:GF):Rp i j f M ρ=(f M ρ).then ρ fun d M'=>.next ((ρ.set i (some (.dat d))).set j (some (.dat d))) M':=rfl
@[simp]theorem ev_if (t:QT) (f k:SF):bW t f k M ρ=((t M (sE ρ)).at M).then ρ fun c M'=>if c=true then f M' ρ else k M' ρ:=rfl
@[simp]theorem ap3 (f:QF):aR f M ρ=((f M (sE ρ)).at M).then ρ fun d M'=>.ret d M':=rfl
@[simp]theorem ap4 (it:IF) (tg:fK) (body:SF):qM it tg body M ρ=((it M ρ).at M).then ρ fun ds M'=>gR tg body ds M' ρ:=rfl
@[simp]theorem aoX (j:Nat) (f:IF):IV j f M ρ=((f M ρ).at M).then ρ fun xs M'=>.next (ρ.set j (some (.mut xs))) M':=rfl
@[simp]theorem aov (f:GF):cD f M ρ=(f M ρ).then ρ fun _ M'=>.next ρ M':=rfl
@[simp]theorem apq (j:Nat) (f:QF):Pb j f M ρ=match ρ[j]? with
 |some (some (.mut xs))=>((f M ρ).at M).then ρ fun d M'=>if xs.length < 100000 then .next (ρ.set j (some (.mut (xs++[d])))) M' else .bad
 |_=>.bad:=rfl
@[simp]theorem aog (j:Nat) (fi f:QF):alz j fi f M ρ=match ρ[j]? with
 |some (some (.mut xs))=>((f M ρ).at M).then ρ fun d M'=>((fi M' ρ).at M').then ρ fun i M2=>match i with
  |.int k=>match ixN xs.length k with
   |some n=>.next (ρ.set j (some (.mut (xs.set n d)))) M2
   |none=>.bad
  |_=>.bad
 |_=>.bad:=rfl
@[simp]theorem ao6 (j:Nat) (f:QF):Qc j f M ρ=match ρ[j]? with
 |some (some (.dat (.int i)))=>((f M ρ).at M).then ρ fun d M'=>match d with
  |.int k=>.next (ρ.set j (some (.dat (.int (i+k))))) M'
  |_=>.bad
 |_=>.bad:=rfl
@[simp]theorem anY (i j:Nat) (f:GF):Xp i j f M ρ=(f M ρ).then ρ fun d M'=>match d with
 |.list (d0::ds)=>if ds.length<=16000 then .next ((ρ.set i (some (.dat d0))).set j (some (.dat (.list ds)))) M' else .bad
 |.tuple (d0::ds)=>if ds.length<=16000 then .next ((ρ.set i (some (.dat d0))).set j (some (.dat (.list ds)))) M' else .bad
 |_=>.bad:=rfl
@[simp]theorem aqI (js:List Nat) (as:QA):sPN js as M ρ=((as M ρ).at M).then ρ fun ds M'=>match rP js ds ρ with
 |some ρ'=>.next ρ' M'
 |none=>.bad:=rfl
@[simp]theorem apO (f:QF):gOf f M ρ=(f M ρ).at M:=rfl
@[simp]theorem ev_op (o:Dat->Dat->Out Dat) (a b:QF):aA o a b M ρ=(a M ρ).bind fun x=>(b M ρ).bind fun y=>o x y:=rfl
@[simp]theorem ev_un (o:Dat->Out Dat) (a:QF):fj o a M ρ=(a M ρ).bind o:=rfl
@[simp]theorem ev_c (d:Dat):qC d M ρ=.ok d:=rfl
@[simp]theorem ev_var (i:Nat):aq i M ρ=match ρ[i]? with
 |some (some (.dat d))=>.ok d
 |_=>.bad:=rfl
@[simp]theorem aob (i:Nat):ao i M ρ=match ρ[i]? with
 |some (some (.dat d))=>.ok d
 |some (some (.mut xs))=>.ok (.list xs)
 |_=>.bad:=rfl
@[simp]theorem apT:au M ρ=.ok []:=rfl
@[simp]theorem anI (a:QF) (r:QA):ak a r M ρ=(a M ρ).bind fun x=>(r M ρ).bind fun xs=>.ok (x::xs):=rfl
@[simp]theorem ao2 (r:QA):bJ r M ρ=(r M ρ).bind fun xs=>Out.when (decide (xs.length<=100000)) (.ok (.tuple xs)):=rfl
@[simp]theorem aoP (r:QA):zB r M ρ=(r M ρ).bind fun xs=>Out.when (decide (xs.length<=100000)) (.ok (.list xs)):=rfl
@[simp]theorem aqw (a:QF):gY a M ρ=(a M ρ).bind Jc:=rfl
@[simp]theorem aqH (a:QF):bA a M ρ=(a M ρ).bind Bu:=rfl
@[simp]theorem an1 (a:QT):jQ a M ρ=(a M ρ).bind fun b=>.ok (!b):=rfl
@[simp]theorem aoe (a b:QT):jR a b M ρ=(a M ρ).bind fun x=>if x=true then b M ρ else .ok false:=rfl
@[simp]theorem aqg (a b:QT):La a b M ρ=(a M ρ).bind fun x=>if x=true then .ok true else b M ρ:=rfl
@[simp]theorem aqN (a:QT):Wu a M ρ=(a M ρ).bind fun b=>.ok (.bool b):=rfl
@[simp]theorem aoZ (t:QT) (a b:QF):K6 t a b M ρ=(t M ρ).bind fun x=>if x=true then a M ρ else b M ρ:=rfl
@[simp]theorem ev_is (neg:Bool) (c:Dat) (a:QF):wU neg c a M ρ=(a M ρ).bind fun d=>.ok (.bool (neg ^^ lF c d)):=rfl
@[simp]theorem ev_notV (a:QF):RD a M ρ=((a M ρ).bind Bu).bind fun b=>.ok (.bool (!b)):=by
 show(((a M ρ).bind Bu).bind fun b=>Out.ok (!b)).bind (fun b=>Out.ok (PyData.bool b))=_
 cases a M ρ with
 |ok d=>cases h:Bu d <;> simp[Out.bind,h]
 |exc x=>rfl
 |bad=>rfl
@[simp]theorem ev_andV (a b:QF):zR a b M ρ=(a M ρ).bind fun d=>(Bu d).bind fun x=>if x=true then b M ρ else .ok (.bool false):=rfl
@[simp]theorem ev_orV (a b:QF):afU a b M ρ=(a M ρ).bind fun d=>(Bu d).bind fun x=>if x=true then .ok (.bool true) else b M ρ:=rfl
@[simp]theorem amZ (o o':Dat->Dat->Out Dat) (a b c:QF):pq o o' a b c M ρ=(a M ρ).bind fun x=>(b M ρ).bind fun y=>(o x y).bind fun z=>(Bu z).bind fun k=>if k=true then(c M ρ).bind fun w=>(o' y w).bind Bu else .ok false:=rfl
@[simp]theorem apJ (t:NT) (a:QF):wY t a M ρ=(a M ρ).bind (zq t):=rfl
@[simp]theorem aqP (a:QF) (lo hi:QO):Qn a lo hi M ρ=(a M ρ).bind fun d=>(lo M ρ).bind fun l=>(hi M ρ).bind fun h=>slD d l h:=rfl
@[simp]theorem aqD:Dd M ρ=.ok none:=rfl
@[simp]theorem aqF (a:QF):tK a M ρ=(a M ρ).bind fun d=>(Bl d).bind fun i=>.ok (some i):=rfl
@[simp]theorem ev_call (m:Mo->List Dat->Out Dat) (as:QA):aZ m as M ρ=(as M ρ).bind fun ds=>m M ds:=rfl
@[simp]theorem ane (a:QF):cU a M ρ=(a M ρ).bind oN:=rfl
@[simp]theorem amq (a:QF):zm a M ρ=(a M ρ).bind fun d=>(Bl d).bind fun n=>Out.when (decide (n<=100000/\-100000<=n)) (.ok (gQ 0 n.toNat)):=rfl
@[simp]theorem aoh (k₀:Int) (a:QF):yE k₀ a M ρ=(a M ρ).bind fun d=>(oN d).bind fun ds=>.ok (pN k₀ ds):=rfl
@[simp]theorem aqt (a b:QF):Fv a b M ρ=(a M ρ).bind fun d=>(b M ρ).bind fun e=>(oN d).bind fun ds=>(oN e).bind fun es=>.ok (xU ds es):=rfl
@[simp]theorem an9 (it:IF) (tg:fK) (vs:List Nat) (tt:QT) (te:QF):dH it tg vs tt te M ρ=(it M ρ).bind fun ds=>Out.when (decide (ds.length<=50000)) ((cO tg tt te M (bT ρ vs) ds).bind fun r=>.ok (.list r)):=rfl
@[simp]theorem anz (it:IF) (tg:fK) (vs:List Nat) (tt:QT) (te:QF):Bb it tg vs tt te M ρ=(it M ρ).bind fun ds=>Out.when (decide (ds.length<=50000)) (cO tg tt te M (bT ρ vs) ds):=rfl
@[simp]theorem aoG (f:QA):Ro f M ρ=(f M ρ).bind fun xs=>Out.when (decide (xs.length<=100000)) (.ok xs):=rfl
@[simp]theorem ale (f:QF):afc f M ρ=(f M ρ).bind Xx:=rfl
@[simp]theorem ams (j:Nat) (d:Dat):aF j d ρ=some (ρ.set j (some (.dat d))):=rfl
@[simp]theorem anf (js:List Nat) (ds:List Dat):bx js (.tuple ds) ρ=rP js ds ρ:=rfl
@[simp]theorem aqK (n:Nat) (b:SF) (ds:List Dat):mQ n b M ds=match b M (ini n ds) with
 |.ret d _=>.ok d
 |.next _ _=>.ok .none
 |.exc x _ _=>.exc x
 |_=>.bad:=rfl
@[simp]theorem aqA (n:Nat) (b:SF) (ds:List Dat):mG n b M ds=match b M (ini n ds) with
 |.ret d M'=>.ok d M'
 |.next _ M'=>.ok .none M'
 |.exc x _ M'=>.exc x M'
 |_=>.bad:=rfl
end
section
variable(i j:Int)(ds es:List Dat)(b c:Bool)(x y:Str)
@[simp]theorem aox:fD (.int i) (.int j)=.ok (.int (i+j)):=rfl
@[simp]theorem aoy:fD (.list ds) (.list es)=Out.when (decide (ds.length+es.length<=100000)) (.ok (.list (ds++es))):=rfl
@[simp]theorem aod:fD (.tuple ds) (.tuple es)=Out.when (decide (ds.length+es.length<=100000)) (.ok (.tuple (ds++es))):=rfl
@[simp]theorem apZ:mF (.int i) (.int j)=.ok (.int (i - j)):=rfl
@[simp]theorem aqs:Bt (.int i) (.int j)=Out.when (decide (CMul i j)) (.ok (.int (i * j))):=rfl
@[simp]theorem apV:JB (.int i) (.int j)=Out.when (decide (CDiv i j)) (.ok (.int (i / j))):=rfl
@[simp]theorem aqh:pC (.int i) (.int j)=Out.when (decide (0 < j)) (.ok (.int (i % j))):=rfl
@[simp]theorem apI:X8 (.int i) (.int j)=Out.when (decide (CPow i j)) (.ok (.int (i ^ j.toNat))):=rfl
@[simp]theorem aqG:Rj (.int i) (.int j)=.ok (.bool (decide (i < j))):=rfl
@[simp]theorem aqL:rN (.int i) (.int j)=.ok (.bool (decide (i<=j))):=rfl
@[simp]theorem aqB:Z6 (.int i) (.int j)=.ok (.bool (decide (j < i))):=rfl
@[simp]theorem aqO:geD (.int i) (.int j)=.ok (.bool (decide (j<=i))):=rfl
@[simp]theorem aqm:cC (.int i) (.int j)=.ok (.bool (i==j)):=rfl
@[simp]theorem apA:cC (.str x) (.str y)=.ok (.bool (x==y)):=rfl
@[simp]theorem apB:cC (.bool b) (.bool c)=.ok (.bool (b==c)):=rfl
@[simp]theorem aoW:Ai (.int i) (.int j)=.ok (.bool (!(i==j))):=rfl
@[simp]theorem ao1:Ai (.str x) (.str y)=.ok (.bool (!(x==y))):=rfl
@[simp]theorem aql:Vd (.int i)=.ok (.int (-i)):=rfl
@[simp]theorem aou:Jc (.bool b)=.ok b:=rfl
@[simp]theorem anK:Jc (.list ds)=.ok (!ds.isEmpty):=rfl
@[simp]theorem aoa:Jc (.tuple ds)=.ok (!ds.isEmpty):=rfl
@[simp]theorem apv:Bu (.bool b)=.ok b:=rfl
@[simp]theorem aop:pF (.list ds)=.ok (.int ds.length):=rfl
@[simp]theorem anV:pF (.tuple ds)=.ok (.int ds.length):=rfl
@[simp]theorem aoY:U0 (.int i)=.ok (.int (if i < 0 then -i else i)):=rfl
@[simp]theorem ev_max2:sU (.int i) (.int j)=.ok (.int (if j > i then j else i)):=rfl
@[simp]theorem anT:Jt (.int i) (.int j)=.ok (.int (if j < i then j else i)):=rfl
@[simp]theorem apn:aW (.list ds) (.int i)=match atI ds i with
  |some d=>.ok d
  |none=>.bad:=rfl
@[simp]theorem aoM:aW (.tuple ds) (.int i)=match atI ds i with
  |some d=>.ok d
  |none=>.bad:=rfl
@[simp]theorem anM:Bl (.int i)=.ok i:=rfl
@[simp]theorem aqv (lo hi:Option Int):slD (.list ds) lo hi=.ok (.list (cutD ds lo hi)):=rfl
@[simp]theorem ape (lo hi:Option Int):slD (.tuple ds) lo hi=.ok (.tuple (cutD ds lo hi)):=rfl
@[simp]theorem aof:lN (.list ds)=.ok (.tuple ds):=rfl
@[simp]theorem anZ:lN (.tuple ds)=.ok (.tuple ds):=rfl
@[simp]theorem am6:M7 (.list ds)=.ok (.list ds):=rfl
@[simp]theorem amH:M7 (.tuple ds)=.ok (.list ds):=rfl
@[simp]theorem ap9:Xx (.list ds)=.ok ds:=rfl
@[simp]theorem aqu:Xx (.tuple ds)=.ok ds:=rfl
@[simp]theorem aoQ:oN (.list ds)=.ok ds:=rfl
@[simp]theorem aoK:oN (.tuple ds)=.ok ds:=rfl
@[simp]theorem an2 (o:Option Cell) (ρ:Env):sE (o::ρ)=o.map Rh::sE ρ:=rfl
@[simp]theorem ano:sE []=[]:=rfl
@[simp]theorem anv (d:Dat):Rh (.dat d)=.dat d:=rfl
@[simp]theorem amK (ds:List Dat):Rh (.mut ds)=.dat (.list ds):=rfl
@[simp]theorem aom (ρ:Env):rP [] [] ρ=some ρ:=rfl
@[simp]theorem aoo (j:Nat) (js:List Nat) (d:Dat) (ρ:Env):rP (j::js) (d::ds) ρ=rP js ds (ρ.set j (some (.dat d))):=rfl
@[simp]theorem anl (ρ:Env):bT ρ []=ρ:=rfl
@[simp]theorem anj (ρ:Env) (j:Nat) (js:List Nat):bT ρ (j::js)=(bT ρ js).set j none:=rfl
@[simp]theorem amt {α:Type} (a:α) (l:List α):atI (a::l) 0=some a:=atI_nat (j:=0) rfl
@[simp]theorem an7 (n:Nat):ini n ds=ds.map (fun d=>some (.dat d))++List.replicate (n - ds.length) none:=rfl
end
theorem aaL{a b:String}:Str.ofString a=Str.ofString b↔a=b:=by
 constructor
 ·intro h
  rw[Str.ofString_eq_toList,Str.ofString_eq_toList]at h
  have h1:a.toList.map Char.toNat=b.toList.map Char.toNat:=by simpa using h
  have h2:a.toList=b.toList:=by
   refine List.map_inj_right (f:=Char.toNat) (fun x y e=>?_) |>.mp h1
   exact Char.ext (UInt32.toNat_inj.mp e)
  exact String.toList_inj.mp h2
 ·rintro rfl
  rfl
@[simp]theorem apH (a b:String):(Str.ofString a=Str.ofString b)=(a=b):=propext aaL
@[simp]theorem aoj (a b:String):(Str.ofString a==Str.ofString b)=decide (a=b):=by
 rw[ar7]
 simp[aaL]
@[simp]theorem aqy {α:Type} (a b:α) (l:List α):atI (a::b::l) 1=some b:=atI_nat (j:=1) rfl
@[simp]theorem aqJ {α:Type} (a b c:α) (l:List α):atI (a::b::c::l) 2=some c:=atI_nat (j:=2) rfl
@[simp]theorem aqM {α:Type} (a b c d:α) (l:List α):atI (a::b::c::d::l) 3=some d:=atI_nat (j:=3) rfl
@[simp]theorem aqx {α:Type} (a b c d e:α) (l:List α):atI (a::b::c::d::e::l) 4=some e:=atI_nat (j:=4) rfl
@[simp]theorem aqz {α:Type} (a b c d e f:α) (l:List α):atI (a::b::c::d::e::f::l) 5=some f:=atI_nat (j:=5) rfl
@[simp]theorem aqT {α:Type} (a b c d e f g:α) (l:List α):atI (a::b::c::d::e::f::g::l) 6=some g:=atI_nat (j:=6) rfl
@[simp]theorem am2 (s:String):PyData.strOk (Str.ofString s)=true:=by
 rw[Str.ofString_eq_toList]
 unfold PyData.strOk
 simp only[Array.all_eq_true,decide_eq_true_eq]
 intro i h
 simp only[List.getElem_toArray,List.getElem_map]
 have:=s.toList[i]'(by simpa using h) |>.valid
 rcases this with z|⟨_,z⟩
 ·show(s.toList[i]'(by simpa using h)).val.toNat < _
  omega
 ·show(s.toList[i]'(by simpa using h)).val.toNat < _
  omega
section
variable(i j:Int)(x y:Str)(d e:Dat)(ds es:List Dat)(b c:Bool)
@[simp]theorem YW:PyData.eqv (.int i) (.int j)=(i==j):=by simp[PyData.eqv]
@[simp]theorem apM:PyData.eqv (.str x) (.str y)=(x==y):=by simp[PyData.eqv]
@[simp]theorem aqe:PyData.eqv (.bool b) (.bool c)=(b==c):=by simp[PyData.eqv]
@[simp]theorem apg:PyData.eqv .none .none=true:=by simp[PyData.eqv]
@[simp]theorem Yt:PyData.eqv (.tuple ds) (.tuple es)=PyData.eqvAll ds es:=by simp[PyData.eqv]
@[simp]theorem akd:PyData.eqv (.list ds) (.list es)=PyData.eqvAll ds es:=by simp[PyData.eqv]
@[simp]theorem aoE:PyData.eqv (.tuple ds) .none=false:=by simp[PyData.eqv]
@[simp]theorem aoN:PyData.eqv .none (.tuple ds)=false:=by simp[PyData.eqv]
@[simp]theorem aqi:PyData.eqv (.str x) (.int i)=false:=by simp[PyData.eqv]
@[simp]theorem ap2:PyData.eqv (.int i) (.str x)=false:=by simp[PyData.eqv]
@[simp]theorem ahA:PyData.eqvAll [] []=true:=by simp[PyData.eqvAll]
@[simp]theorem an5:PyData.eqvAll [] (d::ds)=false:=by simp[PyData.eqvAll]
@[simp]theorem ahe:PyData.eqvAll (d::ds) []=false:=by simp[PyData.eqvAll]
@[simp]theorem abl:PyData.eqvAll (d::ds) (e::es)=(PyData.eqv d e&&PyData.eqvAll ds es):=by simp[PyData.eqvAll]
end
@[simp]theorem zM:∀l m:List Int,PyData.eqvAll (l.map PyData.int) (m.map PyData.int)=decide (l=m)
 |[],[]=>by simp
 |[],_::_=>by simp
 |_::_,[]=>by simp
 |a::l,b::m=>by
  rw[aq3,aq3,abl,zM l m,YW]
  by_cases h:a=b <;> by_cases h2:l=m <;> simp[h,h2]
theorem Iz{n:Nat}:∀{ds:List Dat},mW n ds=true↔∀d∈ds,okd n d=true
 |[]=>by simp[mW]
 |d::ds=>by simp[mW,Iz (ds:=ds)]
@[simp]theorem ahl (n:Nat) (i:Int):okd n (.int i)=true:=by simp[okd]
@[simp]theorem Vp (n:Nat) (l:List Int):mW n (l.map PyData.int)=true:=Iz.mpr fun d h=>by
 obtain⟨i,_,rfl⟩:=arf.mp h
 simp
def ob(h:Nat):Dat:=obj h
section
variable(M:Mo)(ρ:Env)(h:Nat)(f:Str)
@[simp]theorem an0:Kz M f (ob h)=(M[h]?).bind fun i=>i.fs.lookup f:=rfl
@[simp]theorem am4 (tb:List (Str×MV)):DG tb M (ob h)=(M[h]?).bind fun i=>tb.lookup i.cls:=rfl
@[simp]theorem X5:j7 M (ob h)=(M[h]?).bind fun i=>match i.cls=="" with
 |true=>none
 |false=>some (h,i):=rfl
@[simp]theorem aqj (o:QF):fu f o M ρ=(o M ρ).bind fun d=>match Kz M f d with
 |some (.dat x)=>.ok x
 |_=>.bad:=rfl
@[simp]theorem aol (o:QF):bF f o M ρ=(o M ρ).bind fun d=>match Kz M f d with
 |some (.dat x)=>.ok x
 |some (.lst _ xs)=>.ok (.list xs)
 |_=>.bad:=rfl
@[simp]theorem aoq (tb:List (Str×MV)) (o:QF) (as:QA):aO tb o as M ρ=(o M ρ).bind fun d=>match DG tb M d with
 |some (.q _ m)=>(as M ρ).bind fun ds=>m M (d::ds)
 |_=>.bad:=rfl
@[simp]theorem amO (tb:List (Str×MV)) (o:QF) (as:QA):cP tb o as M ρ=((o M ρ).at M).bind fun d _=>match DG tb M d with
 |some (.q _ m)=>((as M ρ).at M).bind fun ds _=>(m M (d::ds)).at M
 |some (.g _ m)=>((as M ρ).at M).bind fun ds _=>m M (d::ds)
 |none=>.bad:=rfl
@[simp]theorem aon (x:Str) (m:Mo->List Dat->bf Dat) (as:QA):Bh x m as M ρ=((as M ρ).at M).bind fun ds _=>match m (M++[⟨x,[]⟩]) (ob M.length::ds) with
 |.ok .none M'=>.ok (ob M.length) M'
 |_=>.bad:=rfl
@[simp]theorem am5 (m:Mo->List Dat->bf Dat) (as:QA):Iu m as M ρ=((as M ρ).at M).bind fun ds _=>m M ds:=rfl
@[simp]theorem amw (m:Mo->List Dat->bf Dat) (as:GA):ajS m as M ρ=(as M ρ).bind fun ds M1=>m M1 ds:=rfl
@[simp]theorem amn (m:Mo->List Dat->Out Dat) (as:GA):ajM m as M ρ=(as M ρ).bind fun ds M1=>(m M1 ds).at M1:=rfl
@[simp]theorem am8:alp M ρ=.ok [] M:=rfl
@[simp]theorem amE (a:GF) (r:GA):aiZ a r M ρ=(a M ρ).bind fun d M1=>(r M1 ρ).bind fun ds M2=>.ok (d::ds) M2:=rfl
@[simp]theorem an8 (t:QT):afk t M ρ=(t M ρ).at M:=rfl
@[simp]theorem anD (a:GT):alr a M ρ=(a M ρ).bind fun b M1=>.ok (!b) M1:=rfl
@[simp]theorem amP (a b:GT):al2 a b M ρ=(a M ρ).bind fun x M1=>if x=true then b M1 ρ else .ok false M1:=rfl
@[simp]theorem anL (a b:GT):anc a b M ρ=(a M ρ).bind fun x M1=>if x=true then .ok true M1 else b M1 ρ:=rfl
@[simp]theorem amI (a:GF):amg a M ρ=(a M ρ).bind fun d M1=>(Jc d).at M1:=rfl
@[simp]theorem amV (x:Str):eU x M ρ=.exc ⟨x,[]⟩ ρ M:=rfl
@[simp]theorem amx (x:Str) (fs:List Str) (as:QA):Cj x fs as M ρ=((as M ρ).at M).then ρ fun ds M'=>.exc ⟨x,(fs.zip ds).reverse⟩ ρ M':=rfl
@[simp]theorem aqr (b:SF) (hs:List Hd):XC b hs M ρ=match b M ρ with
 |.exc x ρ' M'=>hdl hs x ρ' M'
 |o=>o:=rfl
@[simp]theorem anR (x:dU):hdl [] x ρ M=.exc x ρ M:=rfl
@[simp]theorem aoz (h:Hd) (r:List Hd) (x:dU):hdl (h::r) x ρ M=match h.tk x.cls with
  |some true=>match ab1 ρ h.nm with
   |true=>match Dy h.y x h.st (Ug ρ h.nm) with
    |some ρ2=>.next (Ug ρ2 h.nm) M
    |none=>.bad
   |false=>.bad
  |some false=>hdl r x ρ M
  |none=>.bad:=rfl
@[simp]theorem aos:Ug ρ none=ρ:=rfl
@[simp]theorem anU (i:Nat):Ug ρ (some i)=ρ.set i none:=rfl
@[simp]theorem amR:ab1 ρ none=true:=rfl
@[simp]theorem amU (i:Nat):ab1 ρ (some i)=decide (i < ρ.length):=rfl
@[simp]theorem ao9 (y:Str) (x:dU):Dy y x [] ρ=some ρ:=rfl
@[simp]theorem apR (y:Str) (x:dU) (j:Nat) (e:DP) (r:List (Nat×DP)):Dy y x ((j,e)::r) ρ=(YB y x e).bind fun d=>Dy y x r (ρ.set j (some (.dat d))):=rfl
@[simp]theorem apE (y:Str) (x:dU) (d:Dat):YB y x (.con d)=some d:=rfl
@[simp]theorem an3 (g:GF):iG g M ρ=(g M ρ).then ρ fun d M'=>.ret d M':=rfl
@[simp]theorem apk (t:GT) (f k:SF):ank t f k M ρ=(t M ρ).then ρ fun c M'=>if c=true then f M' ρ else k M' ρ:=rfl
@[simp]theorem amC (a b:QF):Cu a b M ρ=(a M ρ).bind fun d=>(b M ρ).bind fun e=>(Bl d).bind fun lo=>(Bl e).bind fun n=>Out.when (decide (n<=100000/\-100000<=n/\lo<=100000/\-100000<=lo)) (.ok (gQ lo (n - lo).toNat)):=rfl
@[simp]theorem anH (ft:Ft) (o:QF) (e:GF):uV ft o f e M ρ=(e M ρ).then ρ fun d M1=>((o M1 ρ).at M1).then ρ fun od M2=>match j7 M2 od with
 |some (h,i)=>match ft.has i.cls f&&decide (i.fs.length < 100) with
  |true=>.next ρ (M2.set h (i.put f (.dat d)))
  |false=>.bad
 |none=>.bad:=rfl
@[simp]theorem an6 (ft:Ft) (o:QF) (e:IF):Eu ft o f e M ρ=((e M ρ).at M).then ρ fun xs M0=>((o (M0++[⟨"",[]⟩]) ρ).at (M0++[⟨"",[]⟩])).then ρ fun od M2=>match j7 M2 od with
 |some (h,i)=>match ft.has i.cls f&&decide (i.fs.length < 100) with
  |true=>.next ρ (M2.set h (i.put f (.lst M0.length xs)))
  |false=>.bad
 |none=>.bad:=rfl
@[simp]theorem anS (ft:Ft) (o:QF) (b:Bool):Nm ft o f b M ρ=((o (M++[⟨"",[]⟩]) ρ).at (M++[⟨"",[]⟩])).then ρ fun od M2=>match j7 M2 od with
 |some (h,i)=>match ft.has i.cls f&&decide (i.fs.length < 100) with
  |true=>.next ρ (M2.set h (i.put f (.dic b [])))
  |false=>.bad
 |none=>.bad:=rfl
@[simp]theorem anP (ft:Ft) (o:QF) (e:Mo->Env->Out (List (Dat×Dat))):Qy ft o f e M ρ=((e M ρ).at M).then ρ fun kvs _=>((o (M++[⟨"",[]⟩]) ρ).at (M++[⟨"",[]⟩])).then ρ fun od M2=>match j7 M2 od with
 |some (h,i)=>match ft.has i.cls f&&decide (i.fs.length < 100) with
  |true=>.next ρ (M2.set h (i.put f (.dic true kvs)))
  |false=>.bad
 |none=>.bad:=rfl
@[simp]theorem aoc (o:QF) (e:GF):Ec f o e M ρ=((o M ρ).at M).then ρ fun od M0=>match Fl M0 f od with
 |some (_,_,n,_)=>(e M0 ρ).then ρ fun d M1=>match Fl M1 f od with
  |some (h,i,n',xs)=>match n==n'&&decide (xs.length < 100000) with
   |true=>.next ρ (M1.set h (i.put f (.lst n (xs++[d]))))
   |false=>.bad
  |none=>.bad
 |none=>.bad:=rfl
@[simp]theorem anJ (o fi e:QF):SM f o fi e M ρ=((e M ρ).at M).then ρ fun d _=>((o M ρ).at M).then ρ fun od _=>match Fl M f od with
 |some (h,i,n,xs)=>((fi M ρ).at M).then ρ fun k _=>match k with
  |.int k=>match ixN xs.length k with
   |some j=>.next ρ (M.set h (i.put f (.lst n (xs.set j d))))
   |none=>.bad
  |_=>.bad
 |none=>.bad:=rfl
@[simp]theorem aor (ft:Ft) (o e:QF):Ry ft f o e M ρ=((o M ρ).at M).then ρ fun od _=>match j7 M od with
 |some (h,i)=>match i.fs.lookup f,ft.has i.cls f&&decide (i.fs.length < 100) with
  |some (.dat (.int a)),true=>((e M ρ).at M).then ρ fun d _=>match d with
   |.int b=>.next ρ (M.set h (i.put f (.dat (.int (a+b)))))
   |_=>.bad
  |_,_=>.bad
 |none=>.bad:=rfl
theorem agC(d:Dat):Fl M f d=(j7 M d).bind fun p=>match p.2.fs.lookup f with
 |some (.lst n xs)=>some (p.1,p.2,n,xs)
 |_=>none:=rfl
@[simp]theorem aow:Fl M f (ob h)=(M[h]?).bind fun i=>match i.cls=="" with
 |true=>none
 |false=>match i.fs.lookup f with
  |some (.lst n xs)=>some (h,i,n,xs)
  |_=>none:=by
 rw[agC,X5]
 cases M[h]? with
 |none=>rfl
 |some i=>
  show(match i.cls=="" with
   |true=>none
   |false=>some (h,i)).bind _=(match i.cls=="" with
   |true=>none
   |false=>_)
  cases i.cls=="" <;> rfl
@[simp]theorem anO (i:Inst) (x:jk):i.put f x=⟨i.cls,putL f x i.fs⟩:=rfl
@[simp]theorem aqE (x:jk):putL f x []=[(f,x)]:=rfl
@[simp]theorem aqQ (x y:jk) (g:Str) (r:List (Str×jk)):putL f x ((g,y)::r)=if g=f then(g,x)::r else(g,y)::putL f x r:=rfl
@[simp]theorem anN (ft:Ft) (c:Str):Ft.has ft c f=match ft.lookup c with
 |some fs=>fs.contains f
 |none=>false:=rfl
@[simp]theorem anQ:yV M f (ob h)=(M[h]?).bind fun i=>match i.cls=="" with
 |true=>none
 |false=>match i.fs.lookup f with
  |some (.dic b kvs)=>some (h,i,b,kvs)
  |_=>none:=by
 show(j7 M (ob h)).bind _=_
 rw[X5]
 cases M[h]? with
 |none=>rfl
 |some i=>
  show(match i.cls=="" with
   |true=>none
   |false=>some (h,i)).bind _=(match i.cls=="" with
   |true=>none
   |false=>_)
  cases i.cls=="" <;> rfl
@[simp]theorem aoS (neg:Bool) (k o:QF):OD neg f k o M ρ=(k M ρ).bind fun d=>(o M ρ).bind fun od=>match yV M f od with
 |some (_,_,b,kvs)=>(dhas b kvs d).bind fun r=>.ok (.bool (neg ^^ r))
 |none=>.bad:=rfl
@[simp]theorem aoi (o k e:QF):Mx f o k e M ρ=((e M ρ).at M).then ρ fun v _=>((o M ρ).at M).then ρ fun od _=>match yV M f od with
 |some (h,i,b,kvs)=>((k M ρ).at M).then ρ fun d _=>match dhas b kvs d,decide (kvs.length < 100000) with
  |.ok false,true=>.next ρ (M.set h (i.put f (.dic b (kvs++[(d,v)]))))
  |_,_=>.bad
 |none=>.bad:=rfl
@[simp]theorem aot (o k:QF):Nk f o k M ρ=((o M ρ).at M).then ρ fun od _=>match yV M f od with
 |some (h,i,b,kvs)=>((k M ρ).at M).then ρ fun d _=>match dhas b kvs d,decide (kvs.length<=100000) with
  |.ok true,true=>.next ρ (M.set h (i.put f (.dic b (kvs.filter fun p=>!PyData.eqv p.1 d))))
  |_,_=>.bad
 |none=>.bad:=rfl
@[simp]theorem am9 (o:QF):CP f o M ρ=(o M ρ).bind fun od=>match yV M f od with
 |some (_,_,true,kvs)=>.ok (kvs.map (·.1))
 |_=>.bad:=rfl
@[simp]theorem amM (o:QF):Cy f o M ρ=(o M ρ).bind fun od=>match yV M f od with
 |some (_,_,_,kvs)=>.ok (.list (kvs.map (·.1)))
 |none=>.bad:=rfl
@[simp]theorem aqS (it:IF) (tg:fK) (vs:List Nat) (tk:QF):qDc it tg vs tk M ρ=(it M ρ).bind fun ds=>Out.when (decide (ds.length<=50000)) (Ek tg tk M (bT ρ vs) ds []):=rfl
@[simp]theorem amL (kvs:List (Dat×Dat)) (i:Int):dhas false kvs (.int i)=.ok (kvs.any fun p=>PyData.eqv p.1 (.int i)):=rfl
@[simp]theorem apQ (neg:Bool) (kvs:List (Str×Dat)) (k:QF):Va neg kvs k M ρ=(k M ρ).bind fun d=>match d with
 |.str x=>.ok (.bool (neg ^^ (kvs.lookup x).isSome))
 |_=>.bad:=rfl
@[simp]theorem aoT (kvs:List (Str×Dat)) (k:QF):abQ kvs k M ρ=(k M ρ).bind fun d=>match d with
 |.str x=>match kvs.lookup x with
  |some y=>.ok y
  |none=>.bad
 |_=>.bad:=rfl
@[simp]theorem am7 (it:IF) (tg:fK) (vs:List Nat) (tt:QT) (it1:IF) (tg1:fK) (vs1:List Nat) (tt1:QT) (te:QF):Dc it tg vs tt it1 tg1 vs1 tt1 te M ρ=((it M ρ).bind fun ds=>(iz tg tt it1 tg1 vs1 tt1 te M (bT ρ vs) ds).bind fun r=>Out.when (decide (r.length<=50000)) (.ok r)).bind fun r=>.ok (.list r):=rfl
@[simp]theorem amA (it:IF) (tg:fK) (vs:List Nat) (tt:QT) (te:QF):Ce it tg vs tt te M ρ=((it M ρ).bind fun ds=>Out.when (decide (ds.length<=50000)) (cO tg tt te M (bT ρ vs) ds)).bind fun ds=>match intsOf ds with
 |some l=>Out.when (decide (l.length<=4000)) (.ok (.list ((zW l).map PyData.int)))
 |none=>.bad:=rfl
@[simp]theorem amF {α:Type} (k g:Str) (y:α) (r:List (Str×α)):List.lookup k ((g,y)::r)=if k=g then some y else List.lookup k r:=by
 rw[arB]
 by_cases e:k=g
 ·subst e
  simp
 ·have:(k==g)=false:=by simpa using e
  rw[this,if_neg e]
end
end Rf
namespace Pr
open PySem PySem.Spec PyProof.Rows L2 Evl Rf
def yX:SF:=
 (aD (Eu j6 (ao 0) "allowances" (Ro au))
 (Eu j6 (ao 0) "circles" (Ro au)))
def uU:Mo->List Dat->bf Dat:=mG 1 yX
def Bq:SF:=
 (Nm j6 (ao 0) "held" true)
def vW:Mo->List Dat->bf Dat:=mG 1 Bq
def Fd:SF:=
 (Eu j6 (ao 0) "beasts" (Ro au))
def zN:Mo->List Dat->bf Dat:=mG 1 Fd
def yQ:SF:=
 (aD (uV j6 (ao 0) "owner_count" (gOf (qC (.int 0))))
 (aD (Nm j6 (ao 0) "holders" false)
 (aD (uV j6 (ao 0) "grounds" (Bh "Grounds" uU au))
 (aD (uV j6 (ao 0) "rights" (Bh "Rights" vW au))
 (uV j6 (ao 0) "herd" (Bh "Herd" zN au))))))
def qF:Mo->List Dat->bf Dat:=mG 1 yQ
def Bp:SF:=
 (aR (bJ (ak (fu "owner" (ao 0)) (ak (fu "ground" (ao 0)) (ak (fu "due" (ao 0)) (ak (fu "ear" (ao 0)) (ak (fu "alive" (ao 0)) au)))))))
def vL:Mo->List Dat->Out Dat:=mQ 1 Bp
def mO:List (Str×MV):=[("Beast",.q 1 vL)]
def Df:SF:=
 (aR (aA fD (aO mO (ao 0) au) (bJ (ak (fu "mother" (ao 0)) (ak (fj lN (bF "story" (ao 0))) au)))))
def yh:Mo->List Dat->Out Dat:=mQ 1 Df
def wD:SF:=
 (aR (Cy "holders" (ao 0)))
def qO:Mo->List Dat->Out Dat:=mQ 1 wD
def vm:SF:=
 (aR (Cy "held" (ao 0)))
def pP:Mo->List Dat->Out Dat:=mQ 1 vm
def uP:SF:=
 (aR (fj pF (bF "allowances" (ao 0))))
def qj:Mo->List Dat->Out Dat:=mQ 1 uP
def eZ:List (Str×MV):=[("Grounds",.q 1 qj)]
def Bj:SF:=
 (aR (Wu (pq rN rN (qC (.int 1)) (ao 1) (aO eZ (ao 0) au))))
def vK:Mo->List Dat->Out Dat:=mQ 2 Bj
def zF:List (Str×MV):=[("Grounds",.q 2 vK)]
def zj:SF:=
 (bW (jQ (gY (aO zF (ao 0) (ak (aq 1) au)))) (eU "NoGround") aU)
def uL:Mo->List Dat->Out Dat:=mQ 2 zj
def aG:List (Str×MV):=[("Grounds",.q 2 uL)]
def nO:SF:=
 (aD (cD (gOf (aO aG (ao 0) (ak (aq 1) au))))
 (aR (aA aW (bF "allowances" (ao 0)) (aA mF (ao 1) (qC (.int 1))))))
def jV:Mo->List Dat->Out Dat:=mQ 2 nO
def o7:SF:=
 (aD (cD (gOf (aO aG (ao 0) (ak (aq 1) au))))
 (aR (fj M7 (aA aW (bF "circles" (ao 0)) (aA mF (ao 1) (qC (.int 1)))))))
def kE:Mo->List Dat->Out Dat:=mQ 2 o7
def bD:List (Str×MV):=[("Grounds",.q 2 kE)]
def oV:SF:=
 (aR (aO bD (bF "grounds" (ao 0)) (ak (aq 1) au)))
def kZ:Mo->List Dat->Out Dat:=mQ 2 oV
def uw:List (Str×MV):=[("Rights",.q 1 pP)]
def u9:List (Str×MV):=[("Commons",.q 1 qO)]
def vR:List (Str×MV):=[("Beast",.q 1 yh)]
def bM:List (Str×MV):=[("Commons",.q 2 kZ)]
def dN:List (Str×MV):=[("Grounds",.q 2 jV)]
def zA:SF:=
 (aD (bB (aF 1) (gOf (dH (Cu (qC (.int 1)) (aA fD (aO eZ (bF "grounds" (ao 0)) au) (qC (.int 1)))) (aF 3) [3] gJ (bJ (ak (aO dN (bF "grounds" (ao 0)) (ak (aq 3) au)) (ak (fj lN (aO bM (ao 0) (ak (aq 3) au))) au))))))
 (aD (bB (aF 2) (gOf (dH (cU (bF "beasts" (bF "herd" (ao 0)))) (aF 4) [4] gJ (aO vR (ao 4) au))))
 (aR (bJ (ak (aO u9 (ao 0) au) (ak (aq 1) (ak (aO uw (bF "rights" (ao 0)) au) (ak (aq 2) au))))))))
def qm:Mo->List Dat->Out Dat:=mQ 5 zA
def Ux:SF:=
 (aD (bB (aF 5) (gOf (aA pC (aA fD (aA fD (aA Bt (ao 5) (qC (.int 48271))) (aA Bt (qC (.int 9973)) (ao 4))) (qC (.int 11))) (qC (.int 2147483647)))))
 (Pb 3 (aA pC (aA JB (ao 5) (qC (.int 1021))) (ao 2))))
def Tn:SF:=
 (aD (Pb 3 (aA pC (ao 0) (ao 2)))
 (bB (aF 0) (gOf (aA JB (ao 0) (ao 2)))))
def acA:SF:=
 (aD (IV 3 (Ro au))
 (aD (bB (aF 0) (gOf (fj U0 (ao 0))))
 (aD (bW (bA (aA geD (ao 0) (aA X8 (qC (.int 10)) (qC (.int 18))))) (aD (qM (zm (ao 1)) (aF 4) Tn)
 (aR (aq 3))) aU)
 (aD (bB (aF 5) (gOf (aA pC (aA Bt (aA fD (aA pC (ao 0) (qC (.int 1000003))) (qC (.int 17))) (qC (.int 69621))) (qC (.int 2147483647)))))
 (aD (qM (zm (ao 1)) (aF 4) Ux)
 (aR (aq 3)))))))
def Cd:Mo->List Dat->Out Dat:=mQ 6 acA
def Ow:SF:=
 (aD (bW (bA (aA cC (aA pC (ao 1) (qC (.int 4))) (qC (.int 1)))) (aR (fj lN (dH (cU (ao 0)) (aF 2) [2] gJ (aA sU (qC (.int 0)) (aA mF (ao 2) (qC (.int 7))))))) aU)
 (aD (bW (bA (aA cC (aA pC (ao 1) (qC (.int 4))) (qC (.int 2)))) (aR (fj lN (dH (cU (ao 0)) (aF 2) [2] gJ (aA pC (ao 2) (qC (.int 3)))))) aU)
 (aR (fj lN (ao 0)))))
def uE:Mo->List Dat->Out Dat:=mQ 3 Ow
def acv:SF:=
 (aD (bB (aF 1) (gOf (aZ Cd (ak (aq 0) (ak (qC (.int 7)) (ak (qC (.int 10)) au))))))
 (aR (aZ uE (ak (Qn (ao 1) Dd (tK (qC (.int 6)))) (ak (aA aW (ao 1) (qC (.int 6))) au)))))
def R4:Mo->List Dat->Out Dat:=mQ 2 acv
def Ez:SF:=
 (aD (bW (bA (aA cC (aA pC (ao 0) (qC (.int 8))) (qC (.int 7)))) (aR (zB au)) aU)
 (aD (bB (aF 1) (gOf (zB (ak (bJ (ak (qC (.str "ground")) (ak (qC (.int 0)) (ak (qC (.int 0)) au)))) (ak (bJ (ak (qC (.str "owner")) (ak (qC (.int 0)) (ak (qC (.int 0)) au)))) (ak (bJ (ak (qC (.str "owner")) (ak (qC (.int 0)) (ak (qC (.int 0)) au)))) (ak (bJ (ak (qC (.str "enrol")) (ak (qC (.int 0)) (ak (qC (.int 0)) au)))) (ak (bJ (ak (qC (.str "enrol")) (ak (qC (.int 1)) (ak (qC (.int 0)) au)))) au))))))))
 (aD (bB (aF 1) (gOf (aA fD (ao 1) (zB (ak (bJ (ak (qC (.str "bring")) (ak (qC (.int 0)) (ak (qC (.int 0)) au)))) (ak (bJ (ak (qC (.str "cut")) (ak (qC (.int 0)) (ak (qC (.int 0)) au)))) (ak (bJ (ak (qC (.str "bring")) (ak (qC (.int 1)) (ak (qC (.int 0)) au)))) (ak (bJ (ak (qC (.str "cut")) (ak (qC (.int 1)) (ak (qC (.int 0)) au)))) (ak (bJ (ak (qC (.str "ground")) (ak (qC (.int 0)) (ak (qC (.int 0)) au)))) (ak (bJ (ak (qC (.str "enrol")) (ak (qC (.int 0)) (ak (qC (.int 1)) au)))) au))))))))))
 (aR (aq 1)))))
def vJ:Mo->List Dat->Out Dat:=mQ 2 Ez
def Ko:SF:=
 (aD (bB (aF 1) (gOf (zB (ak (qC (.str "tear")) (ak (qC (.str "cut")) (ak (qC (.str "bring")) (ak (qC (.str "sell")) (ak (qC (.str "move")) (ak (qC (.str "enrol")) (ak (qC (.str "bear")) (ak (qC (.str "tear")) (ak (qC (.str "cut")) (ak (qC (.str "sell")) (ak (qC (.str "move")) (ak (qC (.str "unite")) (ak (qC (.str "part")) au))))))))))))))))
 (aD (bB (aF 1) (gOf (aA fD (ao 1) (zB (ak (qC (.str "heir")) (ak (qC (.str "pass")) (ak (qC (.str "die")) (ak (qC (.str "leave")) (ak (qC (.str "ground")) (ak (qC (.str "owner")) (ak (qC (.str "enrol")) (ak (qC (.str "tear")) (ak (qC (.str "sell")) (ak (qC (.str "bring")) (ak (qC (.str "bear")) (ak (qC (.str "cut")) au))))))))))))))))
 (aR (aA aW (ao 1) (aA pC (ao 0) (qC (.int 25)))))))
def Ab:Mo->List Dat->Out Dat:=mQ 2 Ko
def lX:SF:=
 (bW (bA (OD true "holders" (aq 1) (ao 0))) (eU "NoOwner") aU)
def jA:Mo->List Dat->Out Dat:=mQ 2 lX
def yP:SF:=
 (aR (dH (CP "held" (ao 0)) (bx [3,4,5]) [3,4,5] (jR (bA (aA cC (ao 3) (ao 1))) (bA (aA cC (ao 4) (ao 2)))) (aq 5)))
def uN:Mo->List Dat->Out Dat:=mQ 6 yP
def cI:List (Str×MV):=[("Rights",.q 3 uN)]
def uf:SF:=
 (aR (aA Z6 (fj pF (aO cI (ao 0) (ak (aq 1) (ak (aq 2) au)))) (qC (.int 0))))
def oW:Mo->List Dat->Out Dat:=mQ 3 uf
def rW:List (Str×MV):=[("Rights",.q 3 oW)]
def qT:SF:=
 (bW (jQ (gY (aO rW (bF "rights" (ao 0)) (ak (aq 1) (ak (aq 2) au))))) (eU "NoRight") aU)
def mj:Mo->List Dat->Out Dat:=mQ 3 qT
def sH:SF:=
 (aD (Ry j6 "owner_count" (ao 0) (qC (.int 1)))
 (aD (Mx "holders" (ao 0) (fu "owner_count" (ao 0)) (qC (.bool true)))
 (aR (fu "owner_count" (ao 0)))))
def iJ:Mo->List Dat->bf Dat:=mG 1 sH
def oO:SF:=
 (aD (bB (aF 4) (gOf (bJ (ak (aq 1) (ak (aq 2) (ak (aq 3) au))))))
 (aD (bW (bA (OD false "held" (aq 4) (ao 0))) (eU "HasRight") aU)
 (Mx "held" (ao 0) (aq 4) (qC (.bool true)))))
def ji:Mo->List Dat->bf Dat:=mG 5 oO
def CT:SF:=
 (bB (aF 2) (gOf (Dc (cU (ao 2)) (bx [4,5]) [4,5,6] gJ (Cu (ao 3) (aA fD (aA Jt (aA fD (ao 3) (ao 5)) (qC cR)) (qC (.int 1)))) (aF 6) [6] gJ (bJ (ak (aA fD (ao 4) (bJ (ak (aq 6) au))) (ak (aA mF (ao 5) (aA mF (ao 6) (ao 3))) au))))))
def Ym:SF:=
 (aD (bB (aF 2) (gOf (zB (ak (bJ (ak (bJ au) (ak (aq 1) au))) au))))
 (aD (qM (cU (aq 0)) (aF 3) CT)
 (aR (dH (cU (ao 2)) (bx [4,5]) [4,5] gJ (aq 4)))))
def LQ:Mo->List Dat->Out Dat:=mQ 7 Ym
def Tq:SF:=
 (aR (fj TQ (dH (Fv (ao 0) (ao 1)) (bx [2,3]) [2,3] (bA (aA Z6 (ao 3) (ao 2))) (aA mF (ao 3) (ao 2)))))
def lu:Mo->List Dat->Out Dat:=mQ 4 Tq
def EY:SF:=
 (aR (dH (cU (aZ LQ (ak (aq 0) (ak (aq 1) au)))) (aF 2) [2] (bA (aA cC (aZ lu (ak (aq 0) (ak (aq 2) au))) (ao 1))) (aq 2)))
def vC:Mo->List Dat->Out Dat:=mQ 3 EY
def U8:SF:=
 (aR (aA sU (aZ lu (ak (aq 0) (ak (aq 1) au))) (aZ lu (ak (aq 1) (ak (aq 0) au)))))
def HD:Mo->List Dat->Out Dat:=mQ 2 U8
def XH:SF:=
 (aR (aA rN (aZ HD (ak (aq 0) (ak (aq 1) au))) (ao 2)))
def rG:Mo->List Dat->Out Dat:=mQ 3 XH
def jZ:SF:=
 (bW (jQ (gY (fj Qg (dH (cU (ao 2)) (bx [5,6]) [5,6] gJ (aZ rG (ak (aq 4) (ak (aq 6) (ak (aq 3) au)))))))) (aR (aq 4)) aU)
def yr:SF:=
 (aD (qM (cU (aZ vC (ak (aq 0) (ak (aq 1) au)))) (aF 4) jZ)
 (eU "NoneFree"))
def pU:Mo->List Dat->Out Dat:=mQ 7 yr
def rC:SF:=
 (aR (aA aW (aO cI (bF "rights" (ao 0)) (ak (aq 1) (ak (aq 2) au))) (qC (.int 0))))
def lQ:Mo->List Dat->Out Dat:=mQ 3 rC
def PB:SF:=
 (aR (fj RK (ao 0)))
def qQ:Mo->List Dat->Out Dat:=mQ 1 PB
def vf:SF:=
 (aR (dH (yE 1 (bF "beasts" (ao 0))) (bx [1,2]) [1,2] (gY (bF "alive" (ao 2))) (bJ (ak (aq 1) (ak (aq 2) au)))))
def pK:Mo->List Dat->Out Dat:=mQ 3 vf
def dO:List (Str×MV):=[("Herd",.q 1 pK)]
def zu:SF:=
 (aR (dH (cU (aO dO (ao 0) au)) (bx [2,3]) [2,3] (bA (aA (inD false) (bF "ground" (ao 3)) (ao 1))) (bJ (ak (aq 2) (ak (aq 3) au)))))
def qu:Mo->List Dat->Out Dat:=mQ 4 zu
def sJ:SF:=
 (aR (dH (CP "held" (ao 0)) (bx [2,3,4]) [2,3,4] (bA (aA (inD false) (ao 3) (ao 1))) (bJ (ak (aq 2) (ak (aq 4) au)))))
def nR:Mo->List Dat->Out Dat:=mQ 5 sJ
def qN:List (Str×MV):=[("Rights",.q 2 nR)]
def eY:List (Str×MV):=[("Herd",.q 2 qu)]
def j8:SF:=
 (aD (bB (aF 3) (gOf (aO bM (ao 0) (ak (aq 2) au))))
 (aD (bB (aF 4) (gOf (dH (cU (aO eY (bF "herd" (ao 0)) (ak (aq 3) au))) (bx [5,6]) [5,6] (jR (bA (wU true .none (bF "due" (ao 6)))) (bA (aA Ai (ao 5) (ao 1)))) (bJ (ak (fu "owner" (ao 6)) (ak (fu "due" (ao 6)) au))))))
 (aR (aZ qQ (ak (aA fD (aO qN (bF "rights" (ao 0)) (ak (aq 3) au)) (ao 4)) au)))))
def iT:Mo->List Dat->Out Dat:=mQ 7 j8
def dh:List (Str×MV):=[("Commons",.q 3 iT)]
def oR:SF:=
 (aR (aO dh (ao 0) (ak (qC (.int 0)) (ak (aq 1) au))))
def kW:Mo->List Dat->Out Dat:=mQ 2 oR
def uO:SF:=
 (aR (fj maxD (dH (cU (aO bD (ao 0) (ak (aq 1) au))) (aF 2) [2] gJ (aO dN (ao 0) (ak (aq 2) au)))))
def qd:Mo->List Dat->Out Dat:=mQ 3 uO
def sW:List (Str×MV):=[("Grounds",.q 2 qd)]
def uY:SF:=
 (aR (aO sW (bF "grounds" (ao 0)) (ak (aq 1) au)))
def pY:Mo->List Dat->Out Dat:=mQ 2 uY
def iI:List (Str×MV):=[("Rights",.g 4 ji)]
def iy:List (Str×MV):=[("Commons",.g 1 iJ)]
def bR:List (Str×MV):=[("Commons",.q 2 pY)]
def bQ:List (Str×MV):=[("Commons",.q 2 kW)]
def bZ:List (Str×MV):=[("Commons",.q 3 lQ)]
def aN:List (Str×MV):=[("Commons",.q 3 mj)]
def aC:List (Str×MV):=[("Commons",.q 2 jA)]
def dX:SF:=
 (aD (cD (gOf (aO aC (ao 0) (ak (aq 1) au))))
 (aD (cD (gOf (aO aG (bF "grounds" (ao 0)) (ak (aq 2) au))))
 (aD (bW (jQ (pq rN rN (qC ju) (ao 3) (qC kJ))) (eU "BadExtra") aU)
 (aD (cD (gOf (aO aN (ao 0) (ak (aq 1) (ak (aq 2) au)))))
 (aD (bB (aF 4) (gOf (aZ pU (ak (aO bZ (ao 0) (ak (aq 1) (ak (aq 2) au))) (ak (aq 3) (ak (aO bQ (ao 0) (ak (aq 2) au)) (ak (aO bR (ao 0) (ak (aq 2) au)) au)))))))
 (aD (bB (aF 5) (cP iy (ao 0) au))
 (aD (cD (cP iI (bF "rights" (ao 0)) (ak (aq 5) (ak (aq 2) (ak (aq 4) au)))))
 (aR (bJ (ak (aq 5) (ak (aq 4) au)))))))))))
def cW:Mo->List Dat->bf Dat:=mG 6 dX
def jy:SF:=
 (aD (bW (jQ (pq rN rN (qC (.int 0)) (ao 1) (qC ig))) (eU "BadAllowance") aU)
 (aD (Ec "allowances" (ao 0) (gOf (aq 1)))
 (aD (Ec "circles" (ao 0) (gOf (bJ (ak (aO eZ (ao 0) au) au))))
 (aR (aO eZ (ao 0) au)))))
def fJ:Mo->List Dat->bf Dat:=mG 2 jy
def lB:List (Str×MV):=[("Grounds",.g 2 fJ)]
def lZ:SF:=
 (iG (cP lB (bF "grounds" (ao 0)) (ak (aq 1) au)))
def iw:Mo->List Dat->bf Dat:=mG 2 lZ
def Kw:SF:=
 (aR (dH (cU (aZ qQ (ak (aq 2) au))) (bx [4,5]) [4,5] (jR (bA (aA Ai (ao 4) (ao 0))) (gY (aZ rG (ak (aq 1) (ak (aq 5) (ak (aq 3) au)))))) (bJ (ak (aq 4) (ak (aq 5) au)))))
def Am:Mo->List Dat->Out Dat:=mQ 6 Kw
def TV:SF:=
 (aR (fj lN (dH (Fv (ao 0) (ao 1)) (bx [2,3]) [2,3] gJ (aA sU (ao 2) (ao 3)))))
def qp:Mo->List Dat->Out Dat:=mQ 4 TV
def BZ:SF:=
 (aD (bB (aF 4) (gOf (aZ Am (ak (aq 0) (ak (aq 1) (ak (aq 2) (ak (aq 3) au)))))))
 (bW (gY (ao 4)) (aD (bB (bx [5,6]) (gOf (aA aW (ao 4) (qC (.int 0)))))
 (Cj "Clash" ["ones","others","ear"] (ak (bJ (ak (aq 0) (ak (aq 1) au))) (ak (bJ (ak (aq 5) (ak (aq 6) au))) (ak (aZ qp (ak (aq 1) (ak (aq 6) au))) au))))) aU))
def oU:Mo->List Dat->Out Dat:=mQ 7 BZ
def lO:SF:=
 (cD (gOf (aZ oU (ak (aq 1) (ak (aq 2) (ak (aO bQ (ao 0) (ak (aq 3) au)) (ak (aO bR (ao 0) (ak (aq 3) au)) au)))))))
def gW:Mo->List Dat->Out Dat:=mQ 4 lO
def Jw:SF:=
 (aR (zR (aA cC (fj pF (ao 0)) (fj pF (qC jc))) (fj Jp (dH (cU (ao 0)) (aF 1) [1] gJ (Wu (pq rN rN (qC (.int 0)) (ao 1) (qC cR)))))))
def ux:Mo->List Dat->Out Dat:=mQ 2 Jw
def Io:SF:=
 (bW (jQ (gY (aZ ux (ak (aq 0) au)))) (eU "BadEar") aU)
def qR:Mo->List Dat->Out Dat:=mQ 1 Io
def cA:List (Str×MV):=[("Commons",.q 4 gW)]
def gG:SF:=
 (aD (cD (gOf (aO aC (ao 0) (ak (aq 1) au))))
 (aD (cD (gOf (aO aG (bF "grounds" (ao 0)) (ak (aq 2) au))))
 (aD (cD (gOf (aZ qR (ak (aq 3) au))))
 (aD (bW (bA (aA cC (ao 3) (qC jB))) (eU "Bare") aU)
 (aD (bW (bA (aA (inD false) (ao 3) (aO cI (bF "rights" (ao 0)) (ak (aq 1) (ak (aq 2) au))))) (eU "HasRight") aU)
 (aD (cD (gOf (aO cA (ao 0) (ak (aq 1) (ak (aq 3) (ak (aq 2) au))))))
 (cD (cP iI (bF "rights" (ao 0)) (ak (aq 1) (ak (aq 2) (ak (aq 3) au)))))))))))
def dR:Mo->List Dat->bf Dat:=mG 4 gG
def yq:SF:=
 (Nk "held" (ao 0) (bJ (ak (aq 1) (ak (aq 2) (ak (aq 4) au)))))
def vO:SF:=
 (aD (bB (aF 3) (gOf (aO cI (ao 0) (ak (aq 1) (ak (aq 2) au)))))
 (aD (bW (jQ (gY (ao 3))) (eU "NoRight") aU)
 (aD (qM (cU (aq 3)) (aF 4) yq)
 (aR (aq 3)))))
def oK:Mo->List Dat->bf Dat:=mG 5 vO
def yW:List (Str×MV):=[("Rights",.g 3 oK)]
def jx:SF:=
 (aD (cD (gOf (aO aC (ao 0) (ak (aq 1) au))))
 (aD (cD (gOf (aO aG (bF "grounds" (ao 0)) (ak (aq 2) au))))
 (aD (cD (gOf (aO aN (ao 0) (ak (aq 1) (ak (aq 2) au)))))
 (aD (bW (gY (fj Qg (dH (cU (aO eY (bF "herd" (ao 0)) (ak (zB (ak (aq 2) au)) au))) (bx [3,4]) [3,4] gJ (aA cC (bF "owner" (ao 4)) (ao 1))))) (eU "StillThere") aU)
 (iG (cP yW (bF "rights" (ao 0)) (ak (aq 1) (ak (aq 2) au))))))))
def gj:Mo->List Dat->bf Dat:=mG 5 jx
def qZ:SF:=
 (aD (bB (bx [2,3,4,5,6]) (gOf (aq 1)))
 (aD (uV j6 (ao 0) "owner" (gOf (aq 2)))
 (aD (uV j6 (ao 0) "ground" (gOf (aq 3)))
 (aD (uV j6 (ao 0) "due" (gOf (aq 4)))
 (aD (uV j6 (ao 0) "ear" (gOf (aq 5)))
 (uV j6 (ao 0) "alive" (gOf (aq 6))))))))
def ni:Mo->List Dat->bf Dat:=mG 7 qZ
def MF:SF:=
 (aD (bW (bA (aA cC (aA aW (ao 0) (qC (.int 0))) (qC (.str "born")))) (aD (bB (bx [1,2,3,4]) (gOf (aq 0)))
 (aR (bJ (ak (aq 3) (ak (aq 4) (ak (qC .none) (ak (qC jB) (ak (qC (.bool true)) au)))))))) aU)
 (aD (bB (bx [1,3,4,5]) (gOf (aq 0)))
 (aR (bJ (ak (aq 3) (ak (aq 4) (ak (qC .none) (ak (aq 5) (ak (qC (.bool true)) au)))))))))
def Cp:Mo->List Dat->Out Dat:=mQ 6 MF
def jM:List (Str×MV):=[("Beast",.g 2 ni)]
def Dk:SF:=
 (aD (Eu j6 (ao 0) "story" (Ro (ak (aq 1) au)))
 (aD (uV j6 (ao 0) "mother" (gOf (K6 (bA (aA cC (aA aW (ao 1) (qC (.int 0))) (qC (.str "born")))) (aA aW (ao 1) (qC (.int 1))) (qC (.int 0)))))
 (cD (cP jM (ao 0) (ak (aZ Cp (ak (aq 1) au)) au)))))
def uh:Mo->List Dat->bf Dat:=mG 2 Dk
def wF:SF:=
 (aD (Ec "beasts" (ao 0) (Bh "Beast" uh (ak (aq 1) au)))
 (aR (fj pF (bF "beasts" (ao 0)))))
def qX:Mo->List Dat->bf Dat:=mG 2 wF
def jK:List (Str×MV):=[("Herd",.g 2 qX)]
def jH:SF:=
 (aD (cD (gOf (aO aC (ao 0) (ak (aq 1) au))))
 (aD (cD (gOf (aO aG (bF "grounds" (ao 0)) (ak (aq 2) au))))
 (aD (cD (gOf (aZ qR (ak (aq 3) au))))
 (aD (cD (gOf (aO aN (ao 0) (ak (aq 1) (ak (aq 2) au)))))
 (iG (cP jK (bF "herd" (ao 0)) (ak (bJ (ak (qC (.str "brought")) (ak (aq 1) (ak (aq 2) (ak (aq 3) au))))) au)))))))
def gD:Mo->List Dat->bf Dat:=mG 4 jH
def tX:SF:=
 (aD (bW (jQ (pq rN rN (qC (.int 1)) (ao 1) (fj pF (bF "beasts" (ao 0))))) (eU "NoBeast") aU)
 (aR (aA aW (bF "beasts" (ao 0)) (aA mF (ao 1) (qC (.int 1))))))
def kh:Mo->List Dat->Out Dat:=mQ 2 tX
def fM:List (Str×MV):=[("Herd",.q 2 kh)]
def vP:SF:=
 (aD (bB (aF 2) (gOf (aO fM (ao 0) (ak (aq 1) au))))
 (aD (bW (jQ (gY (bF "alive" (ao 2)))) (eU "Dead") aU)
 (aR (aq 2))))
def rJ:Mo->List Dat->Out Dat:=mQ 3 vP
def bG:List (Str×MV):=[("Herd",.q 2 rJ)]
def rE:SF:=
 (aD (bB (aF 2) (gOf (aO bG (ao 0) (ak (aq 1) au))))
 (aD (bW (bA (wU false .none (bF "due" (ao 2)))) (eU "Unmarked") aU)
 (aR (aq 2))))
def oA:Mo->List Dat->Out Dat:=mQ 3 rE
def aX:List (Str×MV):=[("Herd",.q 2 oA)]
def mK:SF:=
 (aD (bB (aF 2) (gOf (aO aX (bF "herd" (ao 0)) (ak (aq 1) au))))
 (iG (cP jK (bF "herd" (ao 0)) (ak (bJ (ak (qC (.str "born")) (ak (aq 1) (ak (fu "owner" (ao 2)) (ak (fu "ground" (ao 2)) au))))) au))))
def jw:Mo->List Dat->bf Dat:=mG 3 mK
def Ji:SF:=
 (aR (fj lN (dH (yE 0 (ao 0)) (bx [2,3]) [2,3] gJ (K6 (bA (aA cC (ao 2) (ao 1))) (aA fD (ao 3) (qC (.int 1))) (aq 3)))))
def xX:Mo->List Dat->Out Dat:=mQ 4 Ji
def Lf:SF:=
 (aD (bB (bx [2,3,4,5,6]) (gOf (aq 0)))
 (aD (bB (aF 7) (gOf (aA aW (ao 1) (qC (.int 0)))))
 (aD (bW (bA (aA cC (ao 7) (qC (.str "cut")))) (Rp 4 5 (gOf (aA aW (ao 1) (qC (.int 1))))) (bW (bA (aA cC (ao 7) (qC (.str "torn")))) (bB (aF 5) (gOf (aZ xX (ak (aq 5) (ak (aA aW (ao 1) (qC (.int 1))) au))))) (bW (bA (aA cC (ao 7) (qC (.str "sold")))) (aD (bB (aF 2) (gOf (aA aW (ao 1) (qC (.int 1)))))
 (Rp 4 5 (gOf (aA aW (ao 1) (qC (.int 2)))))) (bW (bA (aA cC (ao 7) (qC (.str "moved")))) (bB (aF 3) (gOf (aA aW (ao 1) (qC (.int 1))))) (bW (bA (aA cC (ao 7) (qC (.str "followed")))) (aD (bB (aF 2) (gOf (aA aW (ao 1) (qC (.int 1)))))
 (bB (aF 3) (gOf (aA aW (ao 1) (qC (.int 2)))))) (bW (bA (aA cC (ao 7) (qC (.str "passed")))) (bB (aF 2) (gOf (aA aW (ao 1) (qC (.int 1))))) (bW (bA (aA cC (ao 7) (qC (.str "died")))) (bB (aF 6) (gOf (qC (.bool false)))) aU)))))))
 (aR (bJ (ak (aq 2) (ak (aq 3) (ak (aq 4) (ak (aq 5) (ak (aq 6) au))))))))))
def Ar:Mo->List Dat->Out Dat:=mQ 8 Lf
def yU:SF:=
 (aD (Ec "story" (ao 0) (gOf (aq 1)))
 (cD (cP jM (ao 0) (ak (aZ Ar (ak (aO mO (ao 0) au) (ak (aq 1) au))) au))))
def mV:Mo->List Dat->bf Dat:=mG 2 yU
def bO:List (Str×MV):=[("Beast",.g 2 mV)]
def oJ:SF:=
 (aD (bB (aF 2) (gOf (aO bG (bF "herd" (ao 0)) (ak (aq 1) au))))
 (aD (bB (aF 3) (gOf (aZ qp (ak (fu "ear" (ao 2)) (ak (aO bZ (ao 0) (ak (fu "owner" (ao 2)) (ak (fu "ground" (ao 2)) au))) au)))))
 (aD (cD (gOf (aO cA (ao 0) (ak (fu "owner" (ao 2)) (ak (aq 3) (ak (fu "ground" (ao 2)) au))))))
 (aD (cD (cP bO (ao 2) (ak (bJ (ak (qC (.str "cut")) (ak (aq 3) au))) au)))
 (aR (aq 3))))))
def jO:Mo->List Dat->bf Dat:=mG 4 oJ
def jg:SF:=
 (aD (bB (aF 3) (gOf (aO bG (bF "herd" (ao 0)) (ak (aq 1) au))))
 (aD (bW (jQ (pq rN Rj (qC (.int 0)) (ao 2) (fj pF (qC jc)))) (eU "NoPlace") aU)
 (aD (bW (bA (aA geD (aA aW (bF "ear" (ao 3)) (ao 2)) (qC cR))) (eU "Deepest") aU)
 (aD (cD (cP bO (ao 3) (ak (bJ (ak (qC (.str "torn")) (ak (aq 2) au))) au)))
 (aR (fu "ear" (ao 3)))))))
def fP:Mo->List Dat->bf Dat:=mG 4 jg
def vN:SF:=
 (aD (cD (gOf (aO fM (ao 0) (ak (aq 1) au))))
 (aR (dH (cU (aO dO (ao 0) au)) (bx [2,3]) [2,3] (jR (bA (aA cC (bF "mother" (ao 3)) (ao 1))) (bA (wU false .none (bF "due" (ao 3))))) (bJ (ak (aq 2) (ak (aq 3) au))))))
def rF:Mo->List Dat->Out Dat:=mQ 4 vN
def yN:List (Str×MV):=[("Herd",.q 2 rF)]
def qP:SF:=
 (cD (cP bO (ao 4) (ak (bJ (ak (qC (.str "followed")) (ak (fu "owner" (ao 2)) (ak (fu "ground" (ao 2)) au)))) au)))
def tL:SF:=
 (aD (bB (aF 2) (gOf (aO fM (ao 0) (ak (aq 1) au))))
 (qM (cU (aO yN (ao 0) (ak (aq 1) au))) (bx [3,4]) qP))
def pB:Mo->List Dat->bf Dat:=mG 5 tL
def iK:List (Str×MV):=[("Herd",.g 2 pB)]
def fQ:SF:=
 (aD (bB (aF 3) (gOf (aO aX (bF "herd" (ao 0)) (ak (aq 1) au))))
 (aD (cD (gOf (aO aC (ao 0) (ak (aq 2) au))))
 (aD (bW (bA (aA cC (bF "owner" (ao 3)) (ao 2))) (eU "SameOwner") aU)
 (aD (cD (gOf (aO aN (ao 0) (ak (aq 2) (ak (fu "ground" (ao 3)) au)))))
 (aD (bB (aF 4) (gOf (aZ qp (ak (fu "ear" (ao 3)) (ak (aO bZ (ao 0) (ak (aq 2) (ak (fu "ground" (ao 3)) au))) au)))))
 (aD (cD (gOf (aZ oU (ak (aq 2) (ak (aq 4) (ak (aO dh (ao 0) (ak (aq 1) (ak (fu "ground" (ao 3)) au))) (ak (aO bR (ao 0) (ak (fu "ground" (ao 3)) au)) au)))))))
 (aD (cD (cP bO (ao 3) (ak (bJ (ak (qC (.str "sold")) (ak (aq 2) (ak (aq 4) au)))) au)))
 (aD (cD (cP iK (bF "herd" (ao 0)) (ak (aq 1) au)))
 (aR (aq 4))))))))))
def dI:Mo->List Dat->bf Dat:=mG 5 fQ
def fU:SF:=
 (aD (bB (aF 3) (gOf (aO aX (bF "herd" (ao 0)) (ak (aq 1) au))))
 (aD (cD (gOf (aO aG (bF "grounds" (ao 0)) (ak (aq 2) au))))
 (aD (bB (aF 4) (gOf (fu "ground" (ao 3))))
 (aD (bW (bA (aA cC (ao 4) (ao 2))) (eU "SameGround") aU)
 (aD (cD (gOf (aO aN (ao 0) (ak (fu "owner" (ao 3)) (ak (aq 2) au)))))
 (aD (cD (gOf (aO cA (ao 0) (ak (fu "owner" (ao 3)) (ak (fu "due" (ao 3)) (ak (aq 2) au))))))
 (aD (cD (cP bO (ao 3) (ak (bJ (ak (qC (.str "moved")) (ak (aq 2) au))) au)))
 (aD (cD (cP iK (bF "herd" (ao 0)) (ak (aq 1) au)))
 (aR (aq 4))))))))))
def dJ:Mo->List Dat->bf Dat:=mG 5 fU
def rO:SF:=
 (cD (cP bO (aO bG (bF "herd" (ao 0)) (ak (aq 1) au)) (ak (bJ (ak (qC (.str "died")) au)) au)))
def lH:Mo->List Dat->bf Dat:=mG 2 rO
def Jl:SF:=
 (aD (bB (aF 2) (gOf (aZ qQ (ak (aq 0) au))))
 (aR (Dc (yE 0 (ao 2)) (bx [3,4]) [3,4,5] gJ (cU (Qn (ao 2) (tK (aA fD (ao 3) (qC (.int 1)))) Dd)) (aF 5) [5] (jR (bA (aA Ai (aA aW (ao 4) (qC (.int 0))) (aA aW (ao 5) (qC (.int 0))))) (gY (aZ rG (ak (aA aW (ao 4) (qC (.int 1))) (ak (aA aW (ao 5) (qC (.int 1))) (ak (aq 1) au)))))) (bJ (ak (aq 4) (ak (aq 5) au))))))
def uQ:Mo->List Dat->Out Dat:=mQ 6 Jl
def uD:SF:=
 (aD (bB (aF 3) (gOf (aA sU (aO bR (ao 0) (ak (aq 1) au)) (aO bR (ao 0) (ak (aq 2) au)))))
 (aR (aZ uQ (ak (aA fD (aO bQ (ao 0) (ak (aq 1) au)) (aO bQ (ao 0) (ak (aq 2) au))) (ak (aq 3) au)))))
def kY:Mo->List Dat->Out Dat:=mQ 4 uD
def rZ:SF:=
 (SM "circles" (ao 0) (aA mF (ao 3) (qC (.int 1))) (aq 2))
def vo:SF:=
 (aD (bB (aF 2) (gOf (fj lN (ao 1))))
 (aD (qM (cU (aq 1)) (aF 3) rZ)
 (aR (aq 1))))
def lJ:Mo->List Dat->bf Dat:=mG 4 vo
def gM:List (Str×MV):=[("Grounds",.g 2 lJ)]
def sY:SF:=
 (aD (bB (aF 3) (gOf (aO bD (ao 0) (ak (aq 1) au))))
 (aD (bB (aF 4) (gOf (aO bD (ao 0) (ak (aq 2) au))))
 (aD (bW (bA (aA (inD false) (ao 2) (ao 3))) (eU "Together") aU)
 (iG (cP gM (ao 0) (ak (fj Jb (aA fD (ao 3) (ao 4))) au))))))
def lg:Mo->List Dat->bf Dat:=mG 5 sY
def v7:List (Str×MV):=[("Grounds",.g 3 lg)]
def nQ:List (Str×MV):=[("Commons",.q 3 kY)]
def jF:SF:=
 (aD (cD (gOf (aO aG (bF "grounds" (ao 0)) (ak (aq 2) au))))
 (aD (bW (bA (aA (inD false) (ao 2) (aO bM (ao 0) (ak (aq 1) au)))) (eU "Together") aU)
 (aD (bB (aF 3) (gOf (aO nQ (ao 0) (ak (aq 1) (ak (aq 2) au)))))
 (aD (bW (gY (ao 3)) (aD (bB (bx [4,5]) (gOf (aA aW (ao 3) (qC (.int 0)))))
 (Cj "Clash" ["ones","others","ear"] (ak (aq 4) (ak (aq 5) (ak (aZ qp (ak (aA aW (ao 4) (qC (.int 1))) (ak (aA aW (ao 5) (qC (.int 1))) au))) au))))) aU)
 (iG (cP v7 (bF "grounds" (ao 0)) (ak (aq 1) (ak (aq 2) au))))))))
def gA:Mo->List Dat->bf Dat:=mG 6 jF
def qb:SF:=
 (aD (bB (aF 2) (gOf (dH (cU (aO bD (ao 0) (ak (aq 1) au))) (aF 3) [3] (bA (aA Ai (ao 3) (ao 1))) (aq 3))))
 (aD (bW (jQ (gY (ao 2))) (eU "Alone") aU)
 (aD (cD (cP gM (ao 0) (ak (zB (ak (aq 1) au)) au)))
 (iG (cP gM (ao 0) (ak (aq 2) au))))))
def jo:Mo->List Dat->bf Dat:=mG 4 qb
def o9:List (Str×MV):=[("Grounds",.g 2 jo)]
def qw:SF:=
 (iG (cP o9 (bF "grounds" (ao 0)) (ak (aq 1) au)))
def jY:Mo->List Dat->bf Dat:=mG 2 qw
def tO:SF:=
 (Qy j6 (ao 0) "held" (qDc (CP "held" (ao 0)) (bx [3,4,5]) [3,4,5] (bJ (ak (K6 (bA (aA cC (ao 3) (ao 1))) (aq 2) (aq 3)) (ak (aq 4) (ak (aq 5) au))))))
def oY:Mo->List Dat->bf Dat:=mG 6 tO
def CZ:SF:=
 (aR (dH (cU (aO dO (ao 0) au)) (bx [2,3]) [2,3] (bA (aA cC (bF "owner" (ao 3)) (ao 1))) (bJ (ak (aq 2) (ak (aq 3) au)))))
def xq:Mo->List Dat->Out Dat:=mQ 4 CZ
def Bo:List (Str×MV):=[("Herd",.q 2 xq)]
def sO:List (Str×MV):=[("Rights",.g 3 oY)]
def sG:SF:=
 (cD (cP bO (ao 5) (ak (bJ (ak (qC (.str "passed")) (ak (aq 2) au))) au)))
def jN:SF:=
 (aD (cD (gOf (aO aC (ao 0) (ak (aq 1) au))))
 (aD (cD (gOf (aO aC (ao 0) (ak (aq 2) au))))
 (aD (bW (bA (aA cC (ao 1) (ao 2))) (eU "SameOwner") aU)
 (aD (cD (cP sO (bF "rights" (ao 0)) (ak (aq 1) (ak (aq 2) au))))
 (aD (bB (aF 3) (gOf (aO Bo (bF "herd" (ao 0)) (ak (aq 1) au))))
 (aD (qM (cU (aq 3)) (bx [4,5]) sG)
 (aD (Nk "holders" (ao 0) (aq 1))
 (aR (dH (cU (ao 3)) (bx [4,5]) [4,5] gJ (aq 4))))))))))
def fV:Mo->List Dat->bf Dat:=mG 6 jN
def vA:SF:=
 (aD (bW (bA (aA cC (ao 0) (qC (.str "ear")))) (aR (zR (wY .tuple (ao 1)) (aZ ux (ak (aq 1) au)))) aU)
 (aD (bB (aF 2) (gOf (K6 (bA (aA cC (ao 0) (qC (.str "place")))) (aA mF (fj pF (qC jc)) (qC (.int 1))) (qC oM))))
 (aR (zR (wY .int (ao 1)) (Wu (pq rN rN (qC (.int 0)) (ao 1) (ao 2)))))))
def iV:Mo->List Dat->Out Dat:=mQ 3 vA
def YJ:SF:=
 (aD (bW (La (bA (aA cC (fj pF (ao 0)) (qC (.int 0)))) (bA (Va true (zP zp) (aA aW (ao 0) (qC (.int 0)))))) (aR (qC (.bool false))) aU)
 (aD (bB (aF 1) (gOf (abQ (zP zp) (aA aW (ao 0) (qC (.int 0))))))
 (aD (bB (aF 2) (gOf (Qn (ao 0) (tK (qC (.int 1))) Dd)))
 (aR (zR (aA cC (fj pF (ao 2)) (fj pF (ao 1))) (fj Jp (dH (Fv (ao 1) (ao 2)) (bx [3,4]) [3,4] gJ (aZ iV (ak (aq 3) (ak (aq 4) au))))))))))
def Gg:Mo->List Dat->Out Dat:=mQ 5 YJ
def sS:List (Str×MV):=[("Commons",.g 4 cW)]
def tZ:List (Str×MV):=[("Commons",.g 3 fV)]
def yg:List (Str×MV):=[("Commons",.g 2 jY)]
def wB:List (Str×MV):=[("Commons",.g 3 gA)]
def zf:List (Str×MV):=[("Commons",.g 2 lH)]
def yC:List (Str×MV):=[("Commons",.g 3 dJ)]
def xZ:List (Str×MV):=[("Commons",.g 3 dI)]
def yF:List (Str×MV):=[("Commons",.g 3 fP)]
def zK:List (Str×MV):=[("Commons",.g 2 jO)]
def xM:List (Str×MV):=[("Commons",.g 2 jw)]
def wu:List (Str×MV):=[("Commons",.g 4 gD)]
def vZ:List (Str×MV):=[("Commons",.g 3 gj)]
def v9:List (Str×MV):=[("Commons",.g 4 dR)]
def ql:List (Str×MV):=[("Commons",.g 2 iw)]
def cX:SF:=
 (aD (bW (jQ (gY (aZ Gg (ak (aq 1) au)))) (eU "BadDeed") aU)
 (aD (Xp 2 3 (gOf (aq 1)))
 (aD (bW (bA (aA cC (ao 2) (qC (.str "owner")))) (iG (cP iy (ao 0) au)) aU)
 (aD (bW (bA (aA cC (ao 2) (qC (.str "ground")))) (iG (cP ql (ao 0) (ak (aA aW (ao 3) (qC (.int 0))) au))) aU)
 (aD (bW (bA (aA cC (ao 2) (qC (.str "enrol")))) (iG (cP v9 (ao 0) (ak (aA aW (ao 3) (qC (.int 0))) (ak (aA aW (ao 3) (qC (.int 1))) (ak (aA aW (ao 3) (qC (.int 2))) au))))) aU)
 (aD (bW (bA (aA cC (ao 2) (qC (.str "leave")))) (iG (cP vZ (ao 0) (ak (aA aW (ao 3) (qC (.int 0))) (ak (aA aW (ao 3) (qC (.int 1))) au)))) aU)
 (aD (bW (bA (aA cC (ao 2) (qC (.str "bring")))) (iG (cP wu (ao 0) (ak (aA aW (ao 3) (qC (.int 0))) (ak (aA aW (ao 3) (qC (.int 1))) (ak (aA aW (ao 3) (qC (.int 2))) au))))) aU)
 (aD (bW (bA (aA cC (ao 2) (qC (.str "bear")))) (iG (cP xM (ao 0) (ak (aA aW (ao 3) (qC (.int 0))) au))) aU)
 (aD (bW (bA (aA cC (ao 2) (qC (.str "cut")))) (iG (cP zK (ao 0) (ak (aA aW (ao 3) (qC (.int 0))) au))) aU)
 (aD (bW (bA (aA cC (ao 2) (qC (.str "tear")))) (iG (cP yF (ao 0) (ak (aA aW (ao 3) (qC (.int 0))) (ak (aA aW (ao 3) (qC (.int 1))) au)))) aU)
 (aD (bW (bA (aA cC (ao 2) (qC (.str "sell")))) (iG (cP xZ (ao 0) (ak (aA aW (ao 3) (qC (.int 0))) (ak (aA aW (ao 3) (qC (.int 1))) au)))) aU)
 (aD (bW (bA (aA cC (ao 2) (qC (.str "move")))) (iG (cP yC (ao 0) (ak (aA aW (ao 3) (qC (.int 0))) (ak (aA aW (ao 3) (qC (.int 1))) au)))) aU)
 (aD (bW (bA (aA cC (ao 2) (qC (.str "die")))) (iG (cP zf (ao 0) (ak (aA aW (ao 3) (qC (.int 0))) au))) aU)
 (aD (bW (bA (aA cC (ao 2) (qC (.str "unite")))) (iG (cP wB (ao 0) (ak (aA aW (ao 3) (qC (.int 0))) (ak (aA aW (ao 3) (qC (.int 1))) au)))) aU)
 (aD (bW (bA (aA cC (ao 2) (qC (.str "part")))) (iG (cP yg (ao 0) (ak (aA aW (ao 3) (qC (.int 0))) au))) aU)
 (aD (bW (bA (aA cC (ao 2) (qC (.str "pass")))) (iG (cP tZ (ao 0) (ak (aA aW (ao 3) (qC (.int 0))) (ak (aA aW (ao 3) (qC (.int 1))) au)))) aU)
 (iG (cP sS (ao 0) (ak (aA aW (ao 3) (qC (.int 0))) (ak (aA aW (ao 3) (qC (.int 1))) (ak (aA aW (ao 3) (qC (.int 2))) au)))))))))))))))))))))
def cQ:Mo->List Dat->bf Dat:=mG 4 cX
def rK:List (Str×MV):=[("Commons",.g 2 cQ)]
def Mh:SF:=
 (aD (bB (aF 3) (gOf (qC .none)))
 (aD (XC (bB (aF 3) (cP rK (ao 0) (ak (aq 1) au))) [⟨"CommonError",fun x=>uZ.lookup x,none,[(3,(.con .none))]⟩])
 (aD (bW (bA (wU false .none (ao 3))) (aR (aq 2)) aU)
 (aD (bB (bx [4,5,6]) (gOf (aq 2)))
 (aD (bW (La (bA (aA cC (aA aW (ao 1) (qC (.int 0))) (qC (.str "owner")))) (bA (aA cC (aA aW (ao 1) (qC (.int 0))) (qC (.str "heir"))))) (Qc 4 (qC (.int 1))) aU)
 (aD (bW (bA (aA cC (aA aW (ao 1) (qC (.int 0))) (qC (.str "ground")))) (Qc 5 (qC (.int 1))) aU)
 (aD (bW (La (bA (aA cC (aA aW (ao 1) (qC (.int 0))) (qC (.str "bring")))) (bA (aA cC (aA aW (ao 1) (qC (.int 0))) (qC (.str "bear"))))) (Qc 6 (qC (.int 1))) aU)
 (aR (bJ (ak (aq 4) (ak (aq 5) (ak (aq 6) au))))))))))))
def rM:Mo->List Dat->bf Dat:=mG 7 Mh
def Qh:SF:=
 (aD (bB (aF 5) (gOf (aA aW (bJ (ak (qC (.int 0)) (ak (qC (.int 0)) (ak (qC (.int 0)) (ak (qC (.int 0)) (ak (qC (.int 0)) (ak (qC (.int 1)) (ak (qC (.int 1)) (ak (qC (.int 2)) (ak (qC (.int 3)) (ak (fj Vd (qC (.int 1))) au))))))))))) (ao 4))))
 (Pb 2 (aA sU (qC (.int 0)) (aA Jt (qC (.int 9)) (aA fD (ao 3) (ao 5))))))
def Yu:SF:=
 (aD (IV 2 (Ro au))
 (aD (qM (Fv (aq 0) (aq 1)) (bx [3,4]) Qh)
 (aR (fj lN (ao 2)))))
def KJ:Mo->List Dat->Out Dat:=mQ 6 Yu
def Mf:SF:=
 (aD (bW (bA (aA Rj (ao 1) (qC (.int 4)))) (aR (aZ KJ (ak (aq 2) (ak (aq 0) au)))) aU)
 (aR (aZ uE (ak (aq 0) (ak (aq 1) au)))))
def wL:Mo->List Dat->Out Dat:=mQ 3 Mf
def Xv:SF:=
 (aD (bW (gY (ao 2)) (aR (aA fD (qC (.int 1)) (aA pC (ao 0) (aA sU (qC (.int 1)) (ao 1))))) aU)
 (aR (aA pC (ao 0) (aA fD (ao 1) (qC (.int 2))))))
def jP:Mo->List Dat->Out Dat:=mQ 3 Xv
def jT:SF:=
 (aD (bB (aF 6) (gOf (aA Ai (aA aW (ao 3) (qC (.int 6))) (qC (.int 9)))))
 (aD (bB (aF 7) (gOf (aZ wL (ak (Qn (ao 3) (tK (qC (.int 8))) (tK (qC (.int 14)))) (ak (aA aW (ao 3) (qC (.int 7))) (ak (aq 5) au))))))
 (aD (bW (bA (aA cC (ao 0) (qC (.str "owner")))) (aR (bJ (ak (qC (.str "owner")) au))) aU)
 (aD (bW (bA (aA cC (ao 0) (qC (.str "ground")))) (aR (bJ (ak (qC (.str "ground")) (ak (aA fD (aA aW (bJ (ak (qC (.int 0)) (ak (qC (.int 1)) (ak (qC (.int 2)) (ak (qC (.int 3)) (ak (qC (.int 0)) (ak (qC (.int 1)) (ak (qC (.int 5)) (ak (qC (.int 6)) (ak (qC (.int 7)) (ak (qC (.int 8)) au))))))))))) (aA aW (ao 3) (qC (.int 7)))) (aA Bt (qC (.int 4)) (fj intD (RD (ao 6))))) au)))) aU)
 (aD (bW (jR (bA (aA cC (ao 0) (qC (.str "bring")))) (bA (aA Rj (aA aW (ao 3) (qC (.int 7))) (qC (.int 6))))) (bB (aF 7) (gOf (bJ (ak (qC (.int 0)) (ak (qC (.int 0)) (ak (qC (.int 0)) (ak (qC (.int 0)) (ak (qC (.int 0)) (ak (qC (.int 0)) au))))))))) aU)
 (aD (bW (La (bA (aA cC (ao 0) (qC (.str "enrol")))) (bA (aA cC (ao 0) (qC (.str "bring"))))) (aR (bJ (ak (aq 0) (ak (aZ jP (ak (aq 1) (ak (aA aW (ao 4) (qC (.int 0))) (ak (aq 6) au)))) (ak (aZ jP (ak (aq 2) (ak (aA aW (ao 4) (qC (.int 1))) (ak (aq 6) au)))) (ak (aq 7) au)))))) aU)
 (aD (bW (bA (aA cC (ao 0) (qC (.str "leave")))) (aR (bJ (ak (aq 0) (ak (aZ jP (ak (aq 1) (ak (aA aW (ao 4) (qC (.int 0))) (ak (aq 6) au)))) (ak (aZ jP (ak (aq 2) (ak (aA aW (ao 4) (qC (.int 1))) (ak (aq 6) au)))) au))))) aU)
 (aD (bW (bA (aA cC (ao 0) (qC (.str "heir")))) (aR (bJ (ak (aq 0) (ak (aZ jP (ak (aq 1) (ak (aA aW (ao 4) (qC (.int 0))) (ak (aq 6) au)))) (ak (aZ jP (ak (aq 2) (ak (aA aW (ao 4) (qC (.int 1))) (ak (aq 6) au)))) (ak (aA pC (aA aW (ao 3) (qC (.int 7))) (qC (.int 4))) au)))))) aU)
 (aD (bW (bA (aA cC (ao 0) (qC (.str "pass")))) (aR (bJ (ak (aq 0) (ak (aZ jP (ak (aq 1) (ak (aA aW (ao 4) (qC (.int 0))) (ak (aq 6) au)))) (ak (aZ jP (ak (aq 2) (ak (aA aW (ao 4) (qC (.int 0))) (ak (aq 6) au)))) au))))) aU)
 (aD (bW (bA (aA cC (ao 0) (qC (.str "unite")))) (aR (bJ (ak (aq 0) (ak (aZ jP (ak (aq 1) (ak (aA aW (ao 4) (qC (.int 1))) (ak (aq 6) au)))) (ak (aZ jP (ak (aq 2) (ak (aA aW (ao 4) (qC (.int 1))) (ak (aq 6) au)))) au))))) aU)
 (aD (bW (bA (aA cC (ao 0) (qC (.str "part")))) (aR (bJ (ak (aq 0) (ak (aZ jP (ak (aq 1) (ak (aA aW (ao 4) (qC (.int 1))) (ak (aq 6) au)))) au)))) aU)
 (aD (bW (bA (aA cC (ao 0) (qC (.str "tear")))) (aR (bJ (ak (aq 0) (ak (aZ jP (ak (aq 1) (ak (aA aW (ao 4) (qC (.int 2))) (ak (aq 6) au)))) (ak (aA pC (aA aW (ao 3) (qC (.int 7))) (qC (.int 6))) au))))) aU)
 (aD (bW (bA (aA cC (ao 0) (qC (.str "sell")))) (aR (bJ (ak (aq 0) (ak (aZ jP (ak (aq 1) (ak (aA aW (ao 4) (qC (.int 2))) (ak (aq 6) au)))) (ak (aZ jP (ak (aq 2) (ak (aA aW (ao 4) (qC (.int 0))) (ak (aq 6) au)))) au))))) aU)
 (aD (bW (bA (aA cC (ao 0) (qC (.str "move")))) (aR (bJ (ak (aq 0) (ak (aZ jP (ak (aq 1) (ak (aA aW (ao 4) (qC (.int 2))) (ak (aq 6) au)))) (ak (aZ jP (ak (aq 2) (ak (aA aW (ao 4) (qC (.int 1))) (ak (aq 6) au)))) au))))) aU)
 (aR (bJ (ak (aq 0) (ak (aZ jP (ak (aq 1) (ak (aA aW (ao 4) (qC (.int 2))) (ak (aq 6) au)))) au))))))))))))))))))
def gU:Mo->List Dat->Out Dat:=mQ 8 jT
def HW:SF:=
 (aD (bB (aF 3) (Iu rM (ak (aq 0) (ak (bJ (ak (qC (.str "bring")) (ak (qC (.int 1)) (ak (qC (.int 1)) (ak (bJ (ak (qC (.int 0)) (ak (qC (.int 0)) (ak (qC (.int 0)) (ak (qC (.int 0)) (ak (qC (.int 0)) (ak (qC (.int 0)) au))))))) au))))) (ak (aq 3) au)))))
 (bB (aF 3) (Iu rM (ak (aq 0) (ak (bJ (ak (qC (.str "cut")) (ak (aA aW (ao 3) (qC (.int 2))) au))) (ak (aq 3) au))))))
def Dj:SF:=
 (aD (bB (aF 8) (gOf (aZ Cd (ak (aq 7) (ak (qC (.int 14)) (ak (qC (.int 10)) au))))))
 (aD (bB (aF 9) (gOf (aZ Ab (ak (aA fD (aA Bt (aA aW (ao 8) (qC (.int 0))) (qC (.int 10))) (aA aW (ao 8) (qC (.int 1)))) au))))
 (aD (bB (aF 10) (gOf (aA fD (aA Bt (aA aW (ao 8) (qC (.int 2))) (qC (.int 10))) (aA aW (ao 8) (qC (.int 3))))))
 (aD (bB (aF 11) (gOf (aA fD (aA Bt (aA aW (ao 8) (qC (.int 4))) (qC (.int 10))) (aA aW (ao 8) (qC (.int 5))))))
 (aD (bW (bA (aA Rj (ao 6) (fj pF (ao 5)))) (bB (bx [9,10,11]) (gOf (aA aW (ao 5) (ao 6)))) aU)
 (bB (aF 3) (Iu rM (ak (aq 0) (ak (aZ gU (ak (aq 9) (ak (aq 10) (ak (aq 11) (ak (aq 8) (ak (aq 3) (ak (aq 4) au))))))) (ak (aq 3) au))))))))))
def QD:SF:=
 (aD (bB (aF 3) (gOf (bJ (ak (qC (.int 0)) (ak (qC (.int 0)) (ak (qC (.int 0)) au))))))
 (aD (bB (aF 4) (gOf (aZ R4 (ak (aA JB (ao 2) (qC (.int 512))) au))))
 (aD (bB (aF 5) (gOf (aZ vJ (ak (aq 2) au))))
 (aD (qM (yE 0 (aq 1)) (bx [6,7]) Dj)
 (aD (bW (bA (aA cC (aA pC (aA JB (ao 2) (qC (.int 8))) (qC (.int 8))) (qC (.int 1)))) (qM (zm (aA Bt (aA pC (aA JB (ao 2) (qC (.int 64))) (qC (.int 8))) (qC (.int 4)))) (aF 12) HW) aU)
 (aR (aq 3)))))))
def GJ:Mo->List Dat->bf Dat:=mG 13 QD
def Oj:SF:=
 (aR (fj Jp (dH (Fv (ao 0) (ao 1)) (bx [2,3]) [2,3] gJ (aA rN (ao 2) (ao 3)))))
def yS:Mo->List Dat->Out Dat:=mQ 4 Oj
def Fe:SF:=
 (aR (fj lN (Ce (cU (ao 1)) (bx [3,4]) [3,4] (jR (gY (aZ yS (ak (aq 4) (ak (aq 0) au)))) (bA (aA rN (aZ lu (ak (aq 4) (ak (aq 0) au))) (ao 2)))) (aq 3))))
def rR:Mo->List Dat->Out Dat:=mQ 5 Fe
def wC:SF:=
 (aD (bB (aF 2) (gOf (aO bQ (ao 0) (ak (aq 1) au))))
 (aD (bB (aF 3) (gOf (aO bR (ao 0) (ak (aq 1) au))))
 (aR (dH (cU (aO eY (bF "herd" (ao 0)) (ak (aO bM (ao 0) (ak (aq 1) au)) au))) (bx [4,5]) [4,5] gJ (bJ (ak (aq 4) (ak (fu "ear" (ao 5)) (ak (K6 (bA (wU false .none (bF "due" (ao 5)))) (qC .none) (aZ rR (ak (fu "ear" (ao 5)) (ak (aq 2) (ak (aq 3) au))))) au))))))))
def qK:Mo->List Dat->Out Dat:=mQ 6 wC
def Lk:SF:=
 (aR (fj maxD (dH (cU (aA aW (aA aW (aA aW (ao 0) (qC (.int 1))) (aA mF (ao 1) (qC (.int 1)))) (qC (.int 1)))) (aF 2) [2] gJ (aA aW (aA aW (aA aW (ao 0) (qC (.int 1))) (aA mF (ao 2) (qC (.int 1)))) (qC (.int 0))))))
def Ax:Mo->List Dat->Out Dat:=mQ 3 Lk
def Z5:SF:=
 (aD (bW (bA (aA Rj (ao 1) (fj pF (ao 0)))) (aR (aA aW (ao 0) (ao 1))) aU)
 (aR (qC (.int 0))))
def GD:Mo->List Dat->Out Dat:=mQ 2 Z5
def Uj:SF:=
 (aR (fj TQ (dH (Fv (ao 0) (ao 1)) (bx [2,3]) [2,3] gJ (aA sU (qC (.int 0)) (aA mF (ao 3) (ao 2))))))
def Cq:Mo->List Dat->Out Dat:=mQ 4 Uj
def Uv:SF:=
 (aR (zR (wY .int (ao 0)) (RD (wY .bool (ao 0)))))
def Hr:Mo->List Dat->Out Dat:=mQ 1 Uv
def Ot(r:Mo->List Dat->Out Dat):SF:=
 (bW (jQ (gY (aZ r (ak (aq 2) (ak (aq 3) au))))) (aR (qC (.bool false))) aU)
def Ht(r:Mo->List Dat->Out Dat):SF:=
 (aD (bW (bA (wU false .none (ao 1))) (aR (wU false .none (ao 0))) aU)
 (aD (bW (bA (wU false (.bool true) (ao 1))) (aR (wU false (.bool true) (ao 0))) aU)
 (aD (bW (bA (wU false (.bool false) (ao 1))) (aR (wU false (.bool false) (ao 0))) aU)
 (aD (bW (gY (wY .int (ao 1))) (aR (zR (aZ Hr (ak (aq 0) au)) (aA cC (ao 0) (ao 1)))) aU)
 (aD (bW (gY (wY .str (ao 1))) (aR (zR (wY .str (ao 0)) (aA cC (ao 0) (ao 1)))) aU)
 (aD (bW (jR (gY (wY .tuple (ao 1))) (jQ (gY (wY .tuple (ao 0))))) (aR (qC (.bool false))) aU)
 (aD (bW (jR (gY (wY .list (ao 1))) (jQ (gY (wY .list (ao 0))))) (aR (qC (.bool false))) aU)
 (aD (bW (bA (aA Ai (fj pF (ao 0)) (fj pF (ao 1)))) (aR (qC (.bool false))) aU)
 (aD (qM (Fv (aq 0) (aq 1)) (bx [2,3]) (Ot r))
 (aR (qC (.bool true))))))))))))
def lM:Nat->Mo->List Dat->Out Dat
 |0=>fun _ _=>.bad
 |n+1=>mQ 4 (Ht (lM n))
def zJ:SF:=
 (aD (bB (aF 2) (gOf (aO aX (bF "herd" (ao 0)) (ak (aq 1) au))))
 (aR (aZ lu (ak (fu "due" (ao 2)) (ak (fu "ear" (ao 2)) au)))))
def uH:Mo->List Dat->Out Dat:=mQ 3 zJ
def Tp:SF:=
 (aR (dH (cU (ao 0)) (aF 2) [2] (bA (aA cC (aA aW (ao 2) (qC (.int 0))) (ao 1))) (aq 2)))
def Cm:Mo->List Dat->Out Dat:=mQ 3 Tp
def wX:List (Str×MV):=[("Commons",.q 2 uH)]
def pO:List (Str×MV):=[("Commons",.q 2 qK)]
def yc:List (Str×MV):=[("Commons",.q 1 qm)]
def Mu:SF:=
 (aD (bB (aF 10) (gOf (aZ Cm (ak (aA aW (ao 3) (aA mF (ao 12) (qC (.int 1)))) (ak (aA fD (ao 4) (qC (.int 1))) au)))))
 (bW (jQ (gY (aZ (lM 10) (ak (aq 10) (ak (zB (ak (bJ (ak (aA fD (ao 4) (qC (.int 1))) (ak (aq 9) (ak (bJ (ak (aq 6) au)) au)))) au)) au))))) (aR (qC (.bool false))) aU))
def Hu:SF:=
 (bW (jR (jQ (gY (aA aW (ao 5) (qC (.int 4))))) (bA (aA Ai (aZ Cm (ak (aq 10) (ak (aA fD (ao 4) (qC (.int 1))) au))) (zB au)))) (aR (qC (.bool false))) aU)
def za:SF:=
 (aD (sPN [6,7] (ak (aA aW (ao 5) (qC (.int 0))) (ak (aA aW (ao 5) (qC (.int 1))) au)))
 (aD (sPN [8,9] (ak (aA aW (ao 5) (qC (.int 2))) (ak (aA aW (ao 5) (qC (.int 3))) au)))
 (aD (qM (cU (aq 3)) (aF 10) Hu)
 (aD (bB (aF 11) (gOf (aZ Ax (ak (aq 2) (ak (aq 7) au)))))
 (bW (jR (gY (aA aW (ao 5) (qC (.int 4)))) (jR (bA (wU true .none (ao 8))) (bA (aA rN (aZ Cq (ak (aq 8) (ak (aq 9) au))) (ao 11))))) (aD (bW (jQ (gY (aZ (lM 10) (ak (aO wX (ao 1) (ak (aA fD (ao 4) (qC (.int 1))) au)) (ak (aZ Cq (ak (aq 8) (ak (aq 9) au))) au))))) (aR (qC (.bool false))) aU)
 (qM (cU (aA aW (aA aW (aA aW (ao 2) (qC (.int 1))) (aA mF (ao 7) (qC (.int 1)))) (qC (.int 1)))) (aF 12) Mu)) aU)))))
def abZ:SF:=
 (aD (bB (aF 1) (Bh "Commons" qF au))
 (aD (cD (Iu GJ (ak (aq 1) (ak (Qn (ao 0) (tK (qC (.int 1))) (tK (qC (.int 44)))) (ak (fj U0 (aZ GD (ak (aq 0) (ak (qC (.int 0)) au)))) au)))))
 (aD (bB (aF 2) (gOf (aO yc (ao 1) au)))
 (aD (bB (aF 3) (gOf (dH (zm (fj pF (aA aW (ao 2) (qC (.int 1))))) (aF 4) [4] gJ (aO pO (ao 1) (ak (aA fD (ao 4) (qC (.int 1))) au)))))
 (aD (qM (yE 0 (aA aW (ao 2) (qC (.int 3)))) (bx [4,5]) za)
 (aR (qC (.bool true))))))))
def Xq:Mo->List Dat->bf Dat:=mG 13 abZ
theorem Xb:FnScope ["self","ones","others","ear"] ["self","ones","others","ear"] (defScope Ke):=⟨rfl,rfl,rfl,by decide +kernel,rfl,by decide +kernel,by decide +kernel⟩
abbrev rX(N:List Str)(s:Stmt)(G:List (Str×GV))(B:List Str)(Ms:List (Str×List (Str×MV)))(ml:List Str):Option SF:=rd ⟨N,defScope s,G,B,⟨Ms,j6,xmH,dfH,Wh⟩,ml,true⟩ (defBody s)
abbrev rY(N:List Str)(s:Stmt)(G:List (Str×GV))(B:List Str)(Ms:List (Str×List (Str×MV)))(ml:List Str):Option SF:=rdG ⟨N,defScope s,G,B,⟨Ms,j6,xmH,dfH,Wh⟩,ml,true⟩ (defBody s)
theorem ahL:FnScope ["_law_found_here","_law_due","_law_one","_law_other"] ["_law_found_here","_law_due"] (defScope Rx):=⟨rfl,rfl,rfl,by decide +kernel,rfl,by decide +kernel,by decide +kernel⟩
theorem akN:FnScope ["_law_script","_law_house","_law_stand","_law_gathered","_law_at","_law_row_here","_law_owner","_law_ground","_law_due","_law_ear_here","_law_told","_law_space","_law_other"] ["_law_script"] (defScope Nf):=⟨rfl,rfl,rfl,by decide +kernel,rfl,by decide +kernel,by decide +kernel⟩
theorem Ua:rY ["self"] Gm [] [] [] []=some yX:=by kernel_rfl
theorem Xe:rY ["self"] JM [] [] [] []=some Bq:=by kernel_rfl
theorem aaw:rY ["self"] N6 [] [] [] []=some Fd:=by kernel_rfl
theorem S8:rY ["self"] Gu [("Herd",.cls 0 zN),("Rights",.cls 0 vW),("Grounds",.cls 0 uU)] [] [] []=some yQ:=by kernel_rfl
theorem Xg:rX ["self"] JK [] [] [] []=some Bp:=by kernel_rfl
theorem Yi:rX ["self"] Lg [] ["tuple"] [("stand",mO)] []=some Df:=by kernel_rfl
theorem Qm:rX ["self"] Cz [] ["list"] [] []=some wD:=by kernel_rfl
theorem Nr:rX ["self"] BL [] ["list"] [] []=some vm:=by kernel_rfl
theorem Ue:rX ["self"] FZ [] ["len"] [] []=some uP:=by kernel_rfl
theorem Xl:rX ["self","ground"] JF [] [] [("many",eZ)] []=some Bj:=by kernel_rfl
theorem Tw:rX ["self","ground"] Hl [("NoGround",.exc)] [] [("has",zF)] []=some zj:=by kernel_rfl
theorem J8:rX ["self","ground"] yK [] [] [("need",aG)] []=some nO:=by kernel_rfl
theorem Ly:rX ["self","ground"] Aq [] ["list"] [("need",aG)] []=some o7:=by kernel_rfl
theorem KZ:rX ["self","ground"] Ao [] [] [("together",bD)] []=some oV:=by kernel_rfl
theorem Td:rX ["self","grounds","beasts","ground","beast"] HJ [] ["range","tuple"] [("all_rows",uw),("owners",u9),("told",vR),("many",eZ),("together",bM),("allowance",dN)] []=some zA:=by kernel_rfl
theorem al8:rX ["_law_cell_here","_law_many","_law_base","_law_found_here","_law_k","_law_turn"] s_row [] ["range","abs"] [] ["_law_found_here"]=some acA:=by kernel_rfl
theorem afa:rX ["_law_figures","_law_mode","_law_figure"] Z8 [] ["tuple","max"] [] []=some Ow:=by kernel_rfl
theorem al7:rX ["_law_cell_here","_law_figures"] agx [("_law_ear_by",.fq 2 uE),("_law_row",.fq 3 Cd)] [] [] []=some acv:=by kernel_rfl
theorem aaC:rX ["_law_head","_law_rows"] Oh [] [] [] []=some Ez:=by kernel_rfl
theorem ac3:rX ["_law_figure","_law_some"] Ww [] [] [] []=some Ko:=by kernel_rfl
theorem Il:rX ["self","owner"] xY [("NoOwner",.exc)] [] [] []=some lX:=by kernel_rfl
theorem UG:rX ["self","owner","ground","holder","where","mark"] Fw [] [] [] []=some yP:=by kernel_rfl
theorem Ld:rX ["self","owner","ground"] Ay [] ["len"] [("marks",cI)] []=some uf:=by kernel_rfl
theorem Iw:rX ["self","owner","ground"] xR [("NoRight",.exc)] [] [("has_right",rW)] []=some qT:=by kernel_rfl
theorem JX:rY ["self"] yL [] [] [] []=some sH:=by kernel_rfl
theorem LR:rY ["self","owner","ground","mark","row"] Ah [("HasRight",.exc)] [] [] []=some oO:=by kernel_rfl
theorem ajN:rX ["ear","many","heads","depth","head","left","cut"] adf [("GREATEST_DEPTH",.con cR)] ["range","min"] [] []=some Ym:=by kernel_rfl
theorem ahZ:rX ["one","other","here","there"] aaT [] ["sum","zip"] [] []=some Tq:=by kernel_rfl
theorem aaz:rX ["mark","extra","ear"] NP [("lacks",.fq 2 lu),("torn",.fq 2 LQ)] [] [] []=some EY:=by kernel_rfl
theorem ah1:rX ["one","other"] abH [("lacks",.fq 2 lu)] ["max"] [] []=some U8:=by kernel_rfl
theorem ajz:rX ["one","other","room"] adq [("apart",.fq 2 HD)] [] [] []=some XH:=by kernel_rfl
theorem ZV:rX ["mark","extra","rows","room","ear","owner","taken"] Ks [("NoneFree",.exc),("offspring",.fq 2 vC),("meet",.fq 3 rG)] ["any"] [] []=some yr:=by kernel_rfl
theorem Ik:rX ["self","owner","ground"] yx [] [] [("marks",cI)] []=some rC:=by kernel_rfl
theorem afp:rX ["rows"] Yv [] ["sorted","set"] [] []=some PB:=by kernel_rfl
theorem Nq:rX ["self","number","beast"] Bv [] ["enumerate"] [] []=some vf:=by kernel_rfl
theorem Ur:rX ["self","grounds","number","beast"] Gv [] [] [("all_living",dO)] []=some zu:=by kernel_rfl
theorem Kc:rX ["self","grounds","owner","ground","mark"] yJ [] [] [] []=some sJ:=by kernel_rfl
theorem Fo:rX ["self","left_out","ground","near","due","number","beast"] vB [("tidied",.fq 1 qQ)] [] [("in_grounds",qN),("grazing",eY),("together",bM)] []=some j8:=by kernel_rfl
theorem KN:rX ["self","ground"] Aa [] [] [("standing_but",dh)] []=some oR:=by kernel_rfl
theorem Ud:rX ["self","ground","near"] Gx [] ["max"] [("together",bD),("allowance",dN)] []=some uO:=by kernel_rfl
theorem T7:rX ["self","ground"] GP [] [] [("room",sW)] []=some uY:=by kernel_rfl
theorem Lw:rY ["self","elder","ground","extra","mark","heir"] Ak [("first_free",.fq 4 pU),("BadExtra",.exc),("FEWEST_EXTRA",.con ju),("MOST_EXTRA",.con kJ)] [] [("add_right",iI),("new_owner",iy),("room",bR),("standing",bQ),("first_mark",bZ),("need_right",aN),("need",aG),("need_owner",aC)] []=some dX:=by kernel_rfl
theorem Jg:rY ["self","allowance"] xP [("BadAllowance",.exc),("GREATEST_ALLOWANCE",.con ig)] [] [("many",eZ)] []=some jy:=by kernel_rfl
theorem Ie:rY ["self","allowance"] yG [] [] [("add_ground",lB)] []=some lZ:=by kernel_rfl
theorem aeA:rX ["owner","ear","rows","room","holder","mark"] Wq [("meet",.fq 3 rG),("tidied",.fq 1 qQ)] [] [] []=some Kw:=by kernel_rfl
theorem agQ:rX ["one","other","here","there"] abh [] ["tuple","zip","max"] [] []=some TV:=by kernel_rfl
theorem ace:rX ["owner","ear","rows","room","bars","holder","mark"] RL [("Clash",.exi ["ones","others","ear"]),("joint",.fq 2 qp),("barring",.fq 4 Am)] [] [] []=some BZ:=by kernel_rfl
theorem IK:rX ["self","owner","ear","ground"] yu [("ask_room",.fq 4 oU)] [] [("room",bR),("standing",bQ)] []=some lO:=by kernel_rfl
theorem afr:rX ["parts","depth"] Z0 [("GREATEST_DEPTH",.con cR),("PLACES",.con jc)] ["all","len"] [] []=some Jw:=by kernel_rfl
theorem abY:rX ["parts"] RN [("BadEar",.exc),("is_ear",.fq 1 ux)] [] [] []=some Io:=by kernel_rfl
theorem Q5:rY ["self","owner","ground","mark"] Ds [("HasRight",.exc),("Bare",.exc),("BARE_EAR",.con jB),("need_ear",.fq 1 qR)] [] [("add_right",iI),("ask_ground",cA),("marks",cI),("need",aG),("need_owner",aC)] []=some gG:=by kernel_rfl
theorem Xf:rY ["self","owner","ground","gone","mark"] JQ [("NoRight",.exc)] [] [("marks",cI)] []=some vO:=by kernel_rfl
theorem Qs:rY ["self","owner","ground","number","beast"] Ei [("StillThere",.exc)] ["any"] [("drop",yW),("grazing",eY),("need_right",aN),("need",aG),("need_owner",aC)] []=some jx:=by kernel_rfl
theorem Oq:rY ["self","stand","owner","ground","due","ear","alive"] CG [] [] [] []=some qZ:=by kernel_rfl
theorem agT:rX ["first","word","mother","owner","ground","ear"] aa4 [("BARE_EAR",.con jB)] [] [] []=some MF:=by kernel_rfl
theorem aaf:rY ["self","first"] Lr [("begun",.fq 1 Cp)] [] [("stand_so",jM)] []=some Dk:=by kernel_rfl
theorem O7:rY ["self","first"] CW [("Beast",.cls 1 uh)] ["len"] [] []=some wF:=by kernel_rfl
theorem Sh:rY ["self","owner","ground","ear"] Eh [("need_ear",.fq 1 qR)] [] [("add_beast",jK),("need_right",aN),("need",aG),("need_owner",aC)] []=some jH:=by kernel_rfl
theorem ZF:rX ["self","number"] Mg [("NoBeast",.exc)] ["len"] [] []=some tX:=by kernel_rfl
theorem W8:rX ["self","number","beast"] JR [("Dead",.exc)] [] [("known",fM)] []=some vP:=by kernel_rfl
theorem WM:rX ["self","number","beast"] JD [("Unmarked",.exc)] [] [("living",bG)] []=some rE:=by kernel_rfl
theorem U3:rY ["self","mother","cow"] G4 [] [] [("add_beast",jK),("marked",aX)] []=some mK:=by kernel_rfl
theorem acr:rX ["ear","place","at","depth"] QL [] ["tuple","enumerate"] [] []=some Ji:=by kernel_rfl
theorem acZ:rX ["stand","event","owner","ground","due","ear","alive","word"] Vj [("deepened",.fq 2 xX)] [] [] []=some Lf:=by kernel_rfl
theorem TX:rY ["self","event"] Gi [("gone_on",.fq 2 Ar)] [] [("stand_so",jM),("stand",mO)] []=some yU:=by kernel_rfl
theorem Xa:rY ["self","beast","found","due"] JH [("joint",.fq 2 qp)] [] [("befall",bO),("ask_ground",cA),("first_mark",bZ),("living",bG)] []=some oJ:=by kernel_rfl
theorem Tj:rY ["self","beast","place","found"] Hw [("Deepest",.exc),("GREATEST_DEPTH",.con cR),("NoPlace",.exc),("PLACES",.con jc)] ["len"] [("befall",bO),("living",bG)] []=some jg:=by kernel_rfl
theorem WQ:rX ["self","mother","number","beast"] JT [] [] [("all_living",dO),("known",fM)] []=some vN:=by kernel_rfl
theorem Kl:rY ["self","mother","beast","number","calf"] Ag [] [] [("calves",yN),("befall",bO),("known",fM)] []=some tL:=by kernel_rfl
theorem Vc:rY ["self","beast","buyer","found","due"] Gn [("ask_room",.fq 4 oU),("joint",.fq 2 qp),("SameOwner",.exc)] [] [("lead_calves",iK),("befall",bO),("room",bR),("standing_but",dh),("first_mark",bZ),("need_right",aN),("need_owner",aC),("marked",aX)] []=some fQ:=by kernel_rfl
theorem Uy:rY ["self","beast","ground","found","left"] Hg [("SameGround",.exc)] [] [("lead_calves",iK),("befall",bO),("ask_ground",cA),("need_right",aN),("need",aG),("marked",aX)] []=some fU:=by kernel_rfl
theorem WW:rY ["self","beast"] JC [] [] [("befall",bO),("living",bG)] []=some rO:=by kernel_rfl
theorem ab3:rX ["rows","room","tidy","at","row","greater"] R7 [("meet",.fq 3 rG),("tidied",.fq 1 qQ)] ["enumerate"] [] []=some Jl:=by kernel_rfl
theorem LC:rX ["self","ground","other","room"] Az [("clashing",.fq 2 uQ)] ["max"] [("standing",bQ),("room",bR)] []=some uD:=by kernel_rfl
theorem Nu:rY ["self","grounds","circle","ground"] BK [] ["tuple"] [] []=some vo:=by kernel_rfl
theorem QC:rY ["self","ground","other","ones","others"] Eo [("Together",.exc)] ["sorted"] [("enclose",gM),("together",bD)] []=some sY:=by kernel_rfl
theorem Rm:rY ["self","ground","other","pairs","row","greater"] Eb [("Clash",.exi ["ones","others","ear"]),("joint",.fq 2 qp),("Together",.exc)] [] [("unite",v7),("quarrels",nQ),("together",bM),("need",aG)] []=some jF:=by kernel_rfl
theorem Uo:rY ["self","ground","left","near"] Ho [("Alone",.exc)] [] [("enclose",gM),("together",bD)] []=some qb:=by kernel_rfl
theorem Ve:rY ["self","ground"] Hv [] [] [("part",o9)] []=some qw:=by kernel_rfl
theorem Ky:rY ["self","elder","heir","owner","ground","mark"] Av [] [] [] []=some tO:=by kernel_rfl
theorem Yh:rX ["self","owner","number","beast"] Kg [] [] [("all_living",dO)] []=some CZ:=by kernel_rfl
theorem Nt:rY ["self","elder","heir","passed","number","beast"] Bx [("SameOwner",.exc)] [] [("befall",bO),("owned",Bo),("hand_over",sO),("need_owner",aC)] []=some jN:=by kernel_rfl
theorem aas:rX ["kind","part","greatest"] Oe [("PLACES",.con jc),("GREATEST_PART",.con oM),("is_ear",.fq 1 ux)] ["isinstance","int","len","tuple"] [] []=some vA:=by kernel_rfl
theorem ai1:rX ["deed","shape","parts","kind","part"] aeO [("part_fits",.fq 2 iV),("SHAPES",.dic (zP zp))] ["all","zip","len"] [] []=some YJ:=by kernel_rfl
theorem Yj:rY ["self","deed","word","parts"] K8 [("BadDeed",.exc),("fits",.fq 1 Gg)] [] [("new_heir",sS),("pass_on",tZ),("part",yg),("unite",wB),("die",zf),("move",yC),("sell",xZ),("tear",yF),("cut",zK),("bear",xM),("bring",wu),("leave",vZ),("enrol",v9),("new_ground",ql),("new_owner",iy)] []=some cX:=by kernel_rfl
theorem aiJ:rY ["_law_house","_law_deed_here","_law_counts","_law_told","_law_owners","_law_grounds","_law_beasts"] aed [("CommonError",.exc)] [] [("do",rK)] []=some Mh:=by kernel_rfl
theorem aj9:rX ["_law_ear_here","_law_figures","_law_found_here","_law_depth","_law_figure","_law_more"] acO [] ["tuple","zip","max","min"] [] ["_law_found_here"]=some Yu:=by kernel_rfl
theorem adL:rX ["_law_figures","_law_mode","_law_base"] Wn [("_law_ear_by",.fq 2 uE),("_law_near",.fq 2 KJ)] [] [] []=some Mf:=by kernel_rfl
theorem al6:rX ["_law_figure","_law_many","_law_sure"] agv [] ["max"] [] []=some Xv:=by kernel_rfl
theorem akk:rX ["_law_word","_law_one","_law_two","_law_parts","_law_counts","_law_base","_law_sure","_law_mark"] aev [("_law_ref",.fq 3 jP),("_law_mark_by",.fq 3 wL)] ["int"] [] []=some jT:=by kernel_rfl
theorem ajy:rY ["_law_house","_law_cells","_law_head","_law_counts","_law_base","_law_begun_here","_law_at","_law_cell_here","_law_parts","_law_word","_law_one","_law_two","_law_k"] acW [("_law_done",.fg 3 rM),("_law_deed",.fq 6 gU),("_law_word_by",.fq 1 Ab),("_law_row",.fq 3 Cd),("_law_begun",.fq 1 vJ),("_law_ear",.fq 1 R4)] ["range","enumerate","len"] [] []=some QD:=by kernel_rfl
theorem afe:rX ["shallow","deep","low","high"] Ze [] ["all","zip"] [] []=some Oj:=by kernel_rfl
theorem aar:rX ["ear","rows","room","holder","mark"] Og [("lacks",.fq 2 lu),("deeper",.fq 2 yS)] ["tuple","sorted"] [] []=some Fe:=by kernel_rfl
theorem Py:rX ["self","ground","rows","room","number","beast"] Dq [("owners_of",.fq 3 rR)] [] [("grazing",eY),("together",bM),("room",bR),("standing",bQ)] []=some wC:=by kernel_rfl
theorem adh:rX ["_law_stand","_law_ground","_law_one"] VN [] ["max"] [] []=some Lk:=by kernel_rfl
theorem ai7:rX ["_law_script","_law_k"] adx [] ["len"] [] []=some Z5:=by kernel_rfl
theorem ah0:rX ["_law_one","_law_other","_law_a","_law_b"] abm [] ["sum","zip","max"] [] []=some Uj:=by kernel_rfl
theorem ahc:rX ["_law_found_here"] aa1 [] ["isinstance","bool","int"] [] []=some Uv:=by kernel_rfl
theorem ajd(r:Mo->List Dat->Out Dat):rd ⟨["_law_found_here","_law_due","_law_one","_law_other"],defScope Rx,[("_law_like",.fq 2 r),("_law_whole",.fq 1 Hr)],["zip","len","isinstance","list","tuple","str","int"],⟨[],j6,xmH,dfH,Wh⟩,[],true⟩ (defBody Rx)=some (Ht r):=by kernel_rfl
theorem S9:rX ["self","beast","found"] FT [("lacks",.fq 2 lu)] [] [("marked",aX)] []=some zJ:=by kernel_rfl
theorem ahn:rX ["_law_told","_law_beast","_law_row_here"] aaY [] [] [] []=some Tp:=by kernel_rfl
theorem alx:rY ["_law_script","_law_house","_law_stand","_law_gathered","_law_at","_law_row_here","_law_owner","_law_ground","_law_due","_law_ear_here","_law_told","_law_space","_law_other"] Nf [("_law_like",.fq 2 (lM 10)),("_law_found",.fq 2 Cm),("_law_tears",.fq 2 Cq),("_law_room_of",.fq 2 Ax),("_law_play",.fg 3 GJ),("_law_cell",.fq 2 GD),("Commons",.cls 0 qF)] ["enumerate","range","len","abs"] [("worn",wX),("gather",pO),("look",yc)] []=some abZ:=by kernel_rfl
structure Top(w:World)(K:aqZ)(mg:Str->Option Value):Prop where
 ex:∃h:Heap,K.In h/\h.Ns mainGlobals mg
 c:MK fa fn tbs exB w K
abbrev aj(w:World)(K:aqZ):aQ:=oX w K xsH j6
section
variable{P:Program}{w:World}{K:aqZ}{mg:Str->Option Value}{base:Heap}{k:Nat}(T:Top w K mg)
include T
theorem Top.glo(i:Nat){x:Str}(h:fa[i]?=some (.glo x):=by rfl):mg x=some (.ref (He.ga K x)):=by
 obtain⟨_,X,G⟩:=T.ex
 exact He.glo_ok X G (T.c.pH i h)
theorem Top.free(i:Nat){x:Str}(h:fa[i]?=some (.free x):=by rfl):mg x=none:=by
 obtain⟨_,X,G⟩:=T.ex
 exact He.free_ok X G (T.c.pH i h)
theorem Top.int(i:Nat){x:Str}{j:Int}(h:fa[i]?=some (.int x j):=by rfl):∃t,mg x=some (.int j t):=by
 obtain⟨_,X,G⟩:=T.ex
 exact He.int_ok X G (T.c.pH i h)
theorem Top.str(i:Nat){x j:Str}(h:fa[i]?=some (.str x j):=by rfl):∃t,mg x=some (.str j t):=by
 obtain⟨_,X,G⟩:=T.ex
 exact He.str_ok X G (T.c.pH i h)
theorem wg:bh P w K mg base (aj w K) k "GREATEST_DEPTH" (.con cR):=by
 obtain⟨t,h⟩:=T.int 151
 exact Kr h
theorem S7:bh P w K mg base (aj w K) k "FEWEST_EXTRA" (.con ju):=by
 obtain⟨t,h⟩:=T.int 152
 exact Kr h
theorem Yc:bh P w K mg base (aj w K) k "MOST_EXTRA" (.con kJ):=by
 obtain⟨t,h⟩:=T.int 153
 exact Kr h
theorem IW:bh P w K mg base (aj w K) k "GREATEST_ALLOWANCE" (.con ig):=by
 obtain⟨t,h⟩:=T.int 154
 exact Kr h
theorem Qe:bh P w K mg base (aj w K) k "PLACES" (.con jc):=aeM (T.glo 155) (fun H=>He.tupB_ok (He.ba (He.ba T.c.more).1).2 H) rfl rfl
theorem Q8:bh P w K mg base (aj w K) k "BARE_EAR" (.con jB):=aeM (T.glo 156) (fun H=>He.tupB_ok (He.ba T.c.more).2 H) rfl rfl
theorem RX:bh P w K mg base (aj w K) k "GREATEST_PART" (.con oM):=by
 obtain⟨t,h⟩:=T.int 157
 exact Kr h
theorem aeT:bh P w K mg base (aj w K) k "SHAPES" (.dic (zP zp)):=ajs (T.glo 150) (He.ba (He.ba (He.ba T.c.more).1).1).2 (T.c.t.tab 0)
theorem acw:bh P w K mg base (aj w K) k "NoGround" .exc:=iU (by rfl) (T.glo 107) (T.c.pH 108)
theorem aeC:bh P w K mg base (aj w K) k "NoOwner" .exc:=iU (by rfl) (T.glo 109) (T.c.pH 110)
theorem Wm:bh P w K mg base (aj w K) k "NoRight" .exc:=iU (by rfl) (T.glo 111) (T.c.pH 112)
theorem Q7:bh P w K mg base (aj w K) k "HasRight" .exc:=iU (by rfl) (T.glo 113) (T.c.pH 114)
theorem acC:bh P w K mg base (aj w K) k "NoneFree" .exc:=iU (by rfl) (T.glo 115) (T.c.pH 116)
theorem acf:bh P w K mg base (aj w K) k "BadExtra" .exc:=iU (by rfl) (T.glo 117) (T.c.pH 118)
theorem Tz:bh P w K mg base (aj w K) k "BadAllowance" .exc:=iU (by rfl) (T.glo 119) (T.c.pH 120)
theorem afL:bh P w K mg base (aj w K) k "BadEar" .exc:=iU (by rfl) (T.glo 122) (T.c.pH 123)
theorem ajF:bh P w K mg base (aj w K) k "Bare" .exc:=iU (by rfl) (T.glo 124) (T.c.pH 125)
theorem Yl:bh P w K mg base (aj w K) k "StillThere" .exc:=iU (by rfl) (T.glo 126) (T.c.pH 127)
theorem aeg:bh P w K mg base (aj w K) k "NoBeast" .exc:=iU (by rfl) (T.glo 128) (T.c.pH 129)
theorem alb:bh P w K mg base (aj w K) k "Dead" .exc:=iU (by rfl) (T.glo 130) (T.c.pH 131)
theorem abP:bh P w K mg base (aj w K) k "Unmarked" .exc:=iU (by rfl) (T.glo 132) (T.c.pH 133)
theorem acI:bh P w K mg base (aj w K) k "Deepest" .exc:=iU (by rfl) (T.glo 134) (T.c.pH 135)
theorem aer:bh P w K mg base (aj w K) k "NoPlace" .exc:=iU (by rfl) (T.glo 136) (T.c.pH 137)
theorem NZ:bh P w K mg base (aj w K) k "SameOwner" .exc:=iU (by rfl) (T.glo 138) (T.c.pH 139)
theorem ZD:bh P w K mg base (aj w K) k "SameGround" .exc:=iU (by rfl) (T.glo 140) (T.c.pH 141)
theorem Qt:bh P w K mg base (aj w K) k "Together" .exc:=iU (by rfl) (T.glo 142) (T.c.pH 143)
theorem aik:bh P w K mg base (aj w K) k "Alone" .exc:=iU (by rfl) (T.glo 144) (T.c.pH 145)
theorem adS:bh P w K mg base (aj w K) k "BadDeed" .exc:=iU (by rfl) (T.glo 146) (T.c.pH 147)
theorem W4:bh P w K mg base (aj w K) k "CommonError" .exc:=iU (by rfl) (T.glo 148) (T.c.pH 149)
theorem Top.agm:Kf K j6=true:=(He.ba (He.ba (He.ba (He.ba (He.ba (He.ba T.c.more).1).1).1).1).1).2
theorem Top.xf:(Wh.all fun p=>xsH.contains p.1&&Uw K p.1 p.2)=true:=(He.ba (He.ba (He.ba (He.ba T.c.more).1).1).1).2
theorem Top.hs{Ms:List (Str×List (Str×MV))}(h:Fg P w K mg base (aj w K) k Ms):U9 P w K mg base (aj w K) k ⟨Ms,j6,xmH,dfH,Wh⟩:=alR h T.agm (He.ba (He.ba (He.ba (He.ba (He.ba T.c.more).1).1).1).1).2 (by rfl) T.xf
theorem Top.cls{c:Str}{fs:List Str}(h:j6.lookup c=some fs:=by rfl):Cls K (He.ga K c):=(Y6 T.agm h).1
local macro_rules | `(tactic| nofun)=>`(tactic| first | (exact fun _ _ _ _ _ _ us hl=>match us,hl with | [_],_=>rfl) | (exact fun _ _ _ _ _ _ us hl=>match us,hl with | [_,_],_=>rfl) | (exact fun _ _ _ _ _ _ us hl=>match us,hl with | [_,_,_],_=>rfl) | (exact fun _ _ _ _ _ _ us hl=>match us,hl with | [_,_,_,_],_=>rfl) | (exact fun _ _ _ _ _ _ us hl=>match us,hl with | [_,_,_,_,_],_=>rfl) | (exact fun _ _ _ _ _ _ us hl=>match us,hl with | [_,_,_,_,_,_],_=>rfl) | (exact fun _ _ _ _ _ _ us hl=>match us,hl with | [_,_,_,_,_,_,_],_=>rfl) | (exact fun _ _ _ _ _ _ us hl=>match us,hl with | [_,_,_,_,_,_,_,_],_=>rfl))
theorem vQ(i j:Nat){x:Str}{k0:Nat}(hk:k0+1<=k){st:Stmt}{N ps ml B:List Str}{G:List (Str×GV)}{Ms:List (Str×List (Str×MV))}{body:SF}(h:rX N st G B Ms ml=some body)(g:CV P w K mg base (aj w K) k0 G)(b:CK mg B)(ms:Fg P w K mg base (aj w K) k0 Ms)(hi:fn[i]?=some (dF x st):=by rfl)(hj:fa[j]?=some (.glo x):=by rfl)(S:FnScope N ps (defScope st):=by exact⟨rfl,rfl,rfl,by decide +kernel,rfl,by decide +kernel,by decide +kernel⟩)(hb:∀(kV doc pm:Value) (an:Option Addr) (cdv ct:Value) (us:List Value),us.length=ps.length->bindArgs (PySem.W.fnOf x x (defArgs st) (defBody st) (defScope st) .none kV doc pm an cdv ct) ⟨us,[]⟩=pure (ps.zip us):=by nofun):bh P w K mg base (aj w K) k x (.fq ps.length (mQ N.length body)):=by
 obtain⟨fd,F⟩:=T.c.Wg i hi
 exact afx hk (T.glo j hj) F.kp (FunD.bindsN (ps:=ps) F hb) (Yb (DK F) S g b (T.hs ms) h)
theorem wQ(i j:Nat){c m q:Str}{k0:Nat}(hk:k0+1<=k){st:Stmt}{N ps ml B:List Str}{G:List (Str×GV)}{Ms:List (Str×List (Str×MV))}{body:SF}(h:rX N st G B Ms ml=some body)(g:CV P w K mg base (aj w K) k0 G)(b:CK mg B)(ms:Fg P w K mg base (aj w K) k0 Ms)(hi:fn[i]?=some (dM c m q st):=by rfl)(hj:fa[j]?=some (.meth c m):=by rfl)(hx:xsH.contains c=true:=by rfl){fs:List Str}(hc:j6.lookup c=some fs:=by rfl)(hf:((j6.lookup c).getD []).contains m=false:=by rfl)(S:FnScope N ps (defScope st):=by exact⟨rfl,rfl,rfl,by decide +kernel,rfl,by decide +kernel,by decide +kernel⟩)(hb:∀(kV doc pm:Value) (an:Option Addr) (cdv ct:Value) (us:List Value),us.length=ps.length->bindArgs (PySem.W.fnOf m q (defArgs st) (defBody st) (defScope st) .none kV doc pm an cdv ct) ⟨us,[]⟩=pure (ps.zip us):=by nofun):bY P w K mg base (aj w K) k c m (.q ps.length (mQ N.length body)):=by
 obtain⟨fd,F⟩:=T.c.Wg i hi
 exact anG hk hx (T.cls hc) (T.c.pH j hj) hf (FunD.bindsN (ps:=ps) F hb) (Yb (DK F) S g b (T.hs ms) h)
theorem vG(i j:Nat){x:Str}{k0:Nat}(hk:k0+1<=k){st:Stmt}{N ps ml B:List Str}{G:List (Str×GV)}{Ms:List (Str×List (Str×MV))}{body:SF}(h:rY N st G B Ms ml=some body)(g:CV P w K mg base (aj w K) k0 G)(b:CK mg B)(ms:Fg P w K mg base (aj w K) k0 Ms)(hi:fn[i]?=some (dF x st):=by rfl)(hj:fa[j]?=some (.glo x):=by rfl)(S:FnScope N ps (defScope st):=by exact⟨rfl,rfl,rfl,by decide +kernel,rfl,by decide +kernel,by decide +kernel⟩)(hb:∀(kV doc pm:Value) (an:Option Addr) (cdv ct:Value) (us:List Value),us.length=ps.length->bindArgs (PySem.W.fnOf x x (defArgs st) (defBody st) (defScope st) .none kV doc pm an cdv ct) ⟨us,[]⟩=pure (ps.zip us):=by nofun):bh P w K mg base (aj w K) k x (.fg ps.length (mG N.length body)):=by
 obtain⟨fd,F⟩:=T.c.Wg i hi
 exact anC hk (T.glo j hj) F.kp (FunD.bindsN (ps:=ps) F hb) (RG (DK F) S g b (T.hs ms) h)
theorem wG(i j:Nat){c m q:Str}{k0:Nat}(hk:k0+1<=k){st:Stmt}{N ps ml B:List Str}{G:List (Str×GV)}{Ms:List (Str×List (Str×MV))}{body:SF}(h:rY N st G B Ms ml=some body)(g:CV P w K mg base (aj w K) k0 G)(b:CK mg B)(ms:Fg P w K mg base (aj w K) k0 Ms)(hi:fn[i]?=some (dM c m q st):=by rfl)(hj:fa[j]?=some (.meth c m):=by rfl)(hx:xsH.contains c=true:=by rfl){fs:List Str}(hc:j6.lookup c=some fs:=by rfl)(hf:((j6.lookup c).getD []).contains m=false:=by rfl)(S:FnScope N ps (defScope st):=by exact⟨rfl,rfl,rfl,by decide +kernel,rfl,by decide +kernel,by decide +kernel⟩)(hb:∀(kV doc pm:Value) (an:Option Addr) (cdv ct:Value) (us:List Value),us.length=ps.length->bindArgs (PySem.W.fnOf m q (defArgs st) (defBody st) (defScope st) .none kV doc pm an cdv ct) ⟨us,[]⟩=pure (ps.zip us):=by nofun):bY P w K mg base (aj w K) k c m (.g ps.length (mG N.length body)):=by
 obtain⟨fd,F⟩:=T.c.Wg i hi
 exact am3 hk hx (T.cls hc) (T.c.pH j hj) hf (FunD.bindsN (ps:=ps) F hb) (RG (DK F) S g b (T.hs ms) h)
theorem vI(i j l:Nat){c q:Str}{n:Nat}{k0:Nat}{st:Stmt}{N ps ml B:List Str}{G:List (Str×GV)}{Ms:List (Str×List (Str×MV))}{body:SF}(h:rY N st G B Ms ml=some body)(g:CV P w K mg base (aj w K) k0 G)(b:CK mg B)(ms:Fg P w K mg base (aj w K) k0 Ms)(hk:k0+1+1<=k)(hi:fn[i]?=some (dM c "__init__" q st):=by rfl)(hj:fa[j]?=some (.mkr c):=by rfl)(hg:fa[l]?=some (.glo c):=by rfl)(hx:xsH.contains c=true:=by rfl){fs:List Str}(hc:j6.lookup c=some fs:=by rfl)(hp:ps.length=n+1:=by rfl)(S:FnScope N ps (defScope st):=by exact⟨rfl,rfl,rfl,by decide +kernel,rfl,by decide +kernel,by decide +kernel⟩)(hb:∀(kV doc pm:Value) (an:Option Addr) (cdv ct:Value) (us:List Value),us.length=ps.length->bindArgs (PySem.W.fnOf "__init__" q (defArgs st) (defBody st) (defScope st) .none kV doc pm an cdv ct) ⟨us,[]⟩=pure (ps.zip us):=by nofun):bh P w K mg base (aj w K) k c (.cls n (mG N.length body)):=by
 obtain⟨fd,F⟩:=T.c.Wg i hi
 exact ajB hk hx (T.glo l hg) (T.cls hc) (T.c.pH j hj) hp (FunD.bindsN (ps:=ps) F hb) (RG (DK F) S g b (T.hs ms) h)
theorem aaO(hk:2<=k):bh P w K mg base (aj w K) k "Clash" (.exi ["ones","others","ear"]):=by
 have ho:Uw K "Clash" ["ones","others","ear"]=true:=(He.ba (ars.mp T.xf _ (show(("Clash" : Str),(["ones","others","ear"]:List Str))∈Wh by simp[Wh]))).2
 obtain⟨o1,o2,o3,o4,o5⟩:=TJ ho
 obtain⟨fd,F⟩:=T.c.Wg 102
 have b:=FunD.bindsN (ps:=["self","ones","others","ear"]) F fun _ _ _ _ _ _ us hl=>match us,hl with|[_,_,_,_],_=>rfl
 exact ajJ hk (by rfl) (T.glo 121) ho rfl b (adC (DK F) Xb o1 (by rfl) (by decide) (o5 _ (by decide)) (o5 _ (by decide)) (o5 _ (by decide)))
theorem ael(hk:2<=k:=by omega):bh P w K mg base (aj w K) k "Grounds" (.cls 0 uU):=vI T 0 0 102 (ps:=["self"]) Ua trivial trivial trivial hk
theorem afQ(hk:2<=k:=by omega):bh P w K mg base (aj w K) k "Rights" (.cls 0 vW):=vI T 1 1 103 (ps:=["self"]) Xe trivial trivial trivial hk
theorem akR(hk:2<=k:=by omega):bh P w K mg base (aj w K) k "Herd" (.cls 0 zN):=vI T 2 2 104 (ps:=["self"]) aaw trivial trivial trivial hk
theorem aez(hk:4<=k:=by omega):bh P w K mg base (aj w K) k "Commons" (.cls 0 qF):=vI T 3 3 105 (ps:=["self"]) S8 ⟨akR T,afQ T,ael T,trivial⟩ trivial trivial hk
theorem FP(hk:1<=k:=by omega):bY P w K mg base (aj w K) k "Beast" "stand" (.q 1 vL):=wQ T 4 4 hk (ps:=["self"]) Xg trivial trivial trivial
theorem W6(hk:2<=k:=by omega):bY P w K mg base (aj w K) k "Beast" "told" (.q 1 yh):=wQ T 5 5 hk (ps:=["self"]) Yi trivial ⟨T.free 158,trivial⟩ ⟨⟨FP T,trivial⟩,trivial⟩
theorem NK(hk:1<=k:=by omega):bY P w K mg base (aj w K) k "Commons" "owners" (.q 1 qO):=wQ T 6 6 hk (ps:=["self"]) Qm trivial ⟨T.free 159,trivial⟩ trivial
theorem Ls(hk:1<=k:=by omega):bY P w K mg base (aj w K) k "Rights" "all_rows" (.q 1 pP):=wQ T 7 7 hk (ps:=["self"]) Nr trivial ⟨T.free 159,trivial⟩ trivial
theorem yj(hk:1<=k:=by omega):bY P w K mg base (aj w K) k "Grounds" "many" (.q 1 qj):=wQ T 8 8 hk (ps:=["self"]) Ue trivial ⟨T.free 160,trivial⟩ trivial
theorem T6(hk:2<=k:=by omega):bY P w K mg base (aj w K) k "Grounds" "has" (.q 2 vK):=wQ T 9 9 hk (ps:=["self","ground"]) Xl trivial trivial ⟨⟨yj T,trivial⟩,trivial⟩
theorem iH(hk:3<=k:=by omega):bY P w K mg base (aj w K) k "Grounds" "need" (.q 2 uL):=wQ T 10 10 hk (ps:=["self","ground"]) Tw ⟨acw T,trivial⟩ trivial ⟨⟨T6 T,trivial⟩,trivial⟩
theorem xH(hk:4<=k:=by omega):bY P w K mg base (aj w K) k "Grounds" "allowance" (.q 2 jV):=wQ T 11 11 hk (ps:=["self","ground"]) J8 trivial trivial ⟨⟨iH T,trivial⟩,trivial⟩
theorem nM(hk:4<=k:=by omega):bY P w K mg base (aj w K) k "Grounds" "together" (.q 2 kE):=wQ T 12 12 hk (ps:=["self","ground"]) Ly trivial ⟨T.free 159,trivial⟩ ⟨⟨iH T,trivial⟩,trivial⟩
theorem nY(hk:5<=k:=by omega):bY P w K mg base (aj w K) k "Commons" "together" (.q 2 kZ):=wQ T 13 13 hk (ps:=["self","ground"]) KZ trivial trivial ⟨⟨nM T,trivial⟩,trivial⟩
theorem R9(hk:6<=k:=by omega):bY P w K mg base (aj w K) k "Commons" "look" (.q 1 qm):=wQ T 14 14 hk (ps:=["self"]) Td trivial ⟨T.free 161,T.free 158,trivial⟩ ⟨⟨Ls T,trivial⟩,⟨NK T,trivial⟩,⟨W6 T,trivial⟩,⟨yj T,trivial⟩,⟨nY T,trivial⟩,⟨xH T,trivial⟩,trivial⟩
theorem ags(hk:1<=k:=by omega):bh P w K mg base (aj w K) k "_law_row" (.fq 3 Cd):=vQ T 15 15 hk (ps:=["_law_cell_here","_law_many","_law_base"]) al8 trivial ⟨T.free 161,T.free 162,trivial⟩ trivial
theorem X3(hk:1<=k:=by omega):bh P w K mg base (aj w K) k "_law_ear_by" (.fq 2 uE):=vQ T 16 16 hk (ps:=["_law_figures","_law_mode"]) afa trivial ⟨T.free 158,T.free 163,trivial⟩ trivial
theorem amc(hk:2<=k:=by omega):bh P w K mg base (aj w K) k "_law_ear" (.fq 1 R4):=vQ T 17 17 hk (ps:=["_law_cell_here"]) al7 ⟨X3 T,ags T,trivial⟩ trivial trivial
theorem aak(hk:1<=k:=by omega):bh P w K mg base (aj w K) k "_law_begun" (.fq 1 vJ):=vQ T 18 18 hk (ps:=["_law_head"]) aaC trivial trivial trivial
theorem adt(hk:1<=k:=by omega):bh P w K mg base (aj w K) k "_law_word_by" (.fq 1 Ab):=vQ T 19 19 hk (ps:=["_law_figure"]) ac3 trivial trivial trivial
theorem gH(hk:1<=k:=by omega):bY P w K mg base (aj w K) k "Commons" "need_owner" (.q 2 jA):=wQ T 20 20 hk (ps:=["self","owner"]) Il ⟨aeC T,trivial⟩ trivial trivial
theorem tG(hk:1<=k:=by omega):bY P w K mg base (aj w K) k "Rights" "marks" (.q 3 uN):=wQ T 21 21 hk (ps:=["self","owner","ground"]) UG trivial trivial trivial
theorem Ka(hk:2<=k:=by omega):bY P w K mg base (aj w K) k "Rights" "has_right" (.q 3 oW):=wQ T 22 22 hk (ps:=["self","owner","ground"]) Ld trivial ⟨T.free 160,trivial⟩ ⟨⟨tG T,trivial⟩,trivial⟩
theorem jr(hk:3<=k:=by omega):bY P w K mg base (aj w K) k "Commons" "need_right" (.q 3 mj):=wQ T 23 23 hk (ps:=["self","owner","ground"]) Iw ⟨Wm T,trivial⟩ trivial ⟨⟨Ka T,trivial⟩,trivial⟩
theorem xV(hk:1<=k:=by omega):bY P w K mg base (aj w K) k "Commons" "new_owner" (.g 1 iJ):=wG T 24 24 hk (ps:=["self"]) JX trivial trivial trivial
theorem yH(hk:1<=k:=by omega):bY P w K mg base (aj w K) k "Rights" "add_right" (.g 4 ji):=wG T 25 25 hk (ps:=["self","owner","ground","mark"]) LR ⟨Q7 T,trivial⟩ trivial trivial
theorem ak8(hk:1<=k:=by omega):bh P w K mg base (aj w K) k "torn" (.fq 2 LQ):=vQ T 26 26 hk (ps:=["ear","many"]) ajN ⟨wg T,trivial⟩ ⟨T.free 161,T.free 164,trivial⟩ trivial
theorem Nb(hk:1<=k:=by omega):bh P w K mg base (aj w K) k "lacks" (.fq 2 lu):=vQ T 27 27 hk (ps:=["one","other"]) ahZ trivial ⟨T.free 165,T.free 166,trivial⟩ trivial
theorem aau(hk:2<=k:=by omega):bh P w K mg base (aj w K) k "offspring" (.fq 2 vC):=vQ T 28 28 hk (ps:=["mark","extra"]) aaz ⟨Nb T,ak8 T,trivial⟩ trivial trivial
theorem ahs(hk:2<=k:=by omega):bh P w K mg base (aj w K) k "apart" (.fq 2 HD):=vQ T 29 29 hk (ps:=["one","other"]) ah1 ⟨Nb T,trivial⟩ ⟨T.free 163,trivial⟩ trivial
theorem Zo(hk:3<=k:=by omega):bh P w K mg base (aj w K) k "meet" (.fq 3 rG):=vQ T 30 30 hk (ps:=["one","other","room"]) ajz ⟨ahs T,trivial⟩ trivial trivial
theorem Za(hk:4<=k:=by omega):bh P w K mg base (aj w K) k "first_free" (.fq 4 pU):=vQ T 31 31 hk (ps:=["mark","extra","rows","room"]) ZV ⟨acC T,aau T,Zo T,trivial⟩ ⟨T.free 167,trivial⟩ trivial
theorem qD(hk:2<=k:=by omega):bY P w K mg base (aj w K) k "Commons" "first_mark" (.q 3 lQ):=wQ T 32 32 hk (ps:=["self","owner","ground"]) Ik trivial trivial ⟨⟨tG T,trivial⟩,trivial⟩
theorem Pn(hk:1<=k:=by omega):bh P w K mg base (aj w K) k "tidied" (.fq 1 qQ):=vQ T 33 33 hk (ps:=["rows"]) afp trivial ⟨T.free 168,T.free 169,trivial⟩ trivial
theorem uz(hk:1<=k:=by omega):bY P w K mg base (aj w K) k "Herd" "all_living" (.q 1 pK):=wQ T 34 34 hk (ps:=["self"]) Nq trivial ⟨T.free 170,trivial⟩ trivial
theorem yd(hk:2<=k:=by omega):bY P w K mg base (aj w K) k "Herd" "grazing" (.q 2 qu):=wQ T 35 35 hk (ps:=["self","grounds"]) Ur trivial trivial ⟨⟨uz T,trivial⟩,trivial⟩
theorem Jd(hk:1<=k:=by omega):bY P w K mg base (aj w K) k "Rights" "in_grounds" (.q 2 nR):=wQ T 36 36 hk (ps:=["self","grounds"]) Kc trivial trivial trivial
theorem u5(hk:6<=k:=by omega):bY P w K mg base (aj w K) k "Commons" "standing_but" (.q 3 iT):=wQ T 37 37 hk (ps:=["self","left_out","ground"]) Fo ⟨Pn T,trivial⟩ trivial ⟨⟨Jd T,trivial⟩,⟨yd T,trivial⟩,⟨nY T,trivial⟩,trivial⟩
theorem nJ(hk:7<=k:=by omega):bY P w K mg base (aj w K) k "Commons" "standing" (.q 2 kW):=wQ T 38 38 hk (ps:=["self","ground"]) KN trivial trivial ⟨⟨u5 T,trivial⟩,trivial⟩
theorem QK(hk:5<=k:=by omega):bY P w K mg base (aj w K) k "Grounds" "room" (.q 2 qd):=wQ T 39 39 hk (ps:=["self","ground"]) Ud trivial ⟨T.free 163,trivial⟩ ⟨⟨nM T,trivial⟩,⟨xH T,trivial⟩,trivial⟩
theorem oZ(hk:6<=k:=by omega):bY P w K mg base (aj w K) k "Commons" "room" (.q 2 pY):=wQ T 40 40 hk (ps:=["self","ground"]) T7 trivial trivial ⟨⟨QK T,trivial⟩,trivial⟩
theorem J9(hk:8<=k:=by omega):bY P w K mg base (aj w K) k "Commons" "new_heir" (.g 4 cW):=wG T 41 41 hk (ps:=["self","elder","ground","extra"]) Lw ⟨Za T,acf T,S7 T,Yc T,trivial⟩ trivial ⟨⟨yH T,trivial⟩,⟨xV T,trivial⟩,⟨oZ T,trivial⟩,⟨nJ T,trivial⟩,⟨qD T,trivial⟩,⟨jr T,trivial⟩,⟨iH T,trivial⟩,⟨gH T,trivial⟩,trivial⟩
theorem Gq(hk:2<=k:=by omega):bY P w K mg base (aj w K) k "Grounds" "add_ground" (.g 2 fJ):=wG T 42 42 hk (ps:=["self","allowance"]) Jg ⟨Tz T,IW T,trivial⟩ trivial ⟨⟨yj T,trivial⟩,trivial⟩
theorem Fy(hk:3<=k:=by omega):bY P w K mg base (aj w K) k "Commons" "new_ground" (.g 2 iw):=wG T 43 43 hk (ps:=["self","allowance"]) Ie trivial trivial ⟨⟨Gq T,trivial⟩,trivial⟩
theorem acS(hk:4<=k:=by omega):bh P w K mg base (aj w K) k "barring" (.fq 4 Am):=vQ T 44 44 hk (ps:=["owner","ear","rows","room"]) aeA ⟨Zo T,Pn T,trivial⟩ trivial trivial
theorem Nh(hk:1<=k:=by omega):bh P w K mg base (aj w K) k "joint" (.fq 2 qp):=vQ T 45 45 hk (ps:=["one","other"]) agQ trivial ⟨T.free 158,T.free 166,T.free 163,trivial⟩ trivial
theorem Rc(hk:5<=k:=by omega):bh P w K mg base (aj w K) k "ask_room" (.fq 4 oU):=vQ T 46 46 hk (ps:=["owner","ear","rows","room"]) ace ⟨aaO T (by decide),Nh T,acS T,trivial⟩ trivial trivial
theorem pQ(hk:8<=k:=by omega):bY P w K mg base (aj w K) k "Commons" "ask_ground" (.q 4 gW):=wQ T 47 47 hk (ps:=["self","owner","ear","ground"]) IK ⟨Rc T,trivial⟩ trivial ⟨⟨oZ T,trivial⟩,⟨nJ T,trivial⟩,trivial⟩
theorem ZG(hk:1<=k:=by omega):bh P w K mg base (aj w K) k "is_ear" (.fq 1 ux):=vQ T 48 48 hk (ps:=["parts"]) afr ⟨wg T,Qe T,trivial⟩ ⟨T.free 171,T.free 160,trivial⟩ trivial
theorem RQ(hk:2<=k:=by omega):bh P w K mg base (aj w K) k "need_ear" (.fq 1 qR):=vQ T 49 49 hk (ps:=["parts"]) abY ⟨afL T,ZG T,trivial⟩ trivial trivial
theorem O4(hk:9<=k:=by omega):bY P w K mg base (aj w K) k "Commons" "enrol" (.g 4 dR):=wG T 50 50 hk (ps:=["self","owner","ground","mark"]) Q5 ⟨Q7 T,ajF T,Q8 T,RQ T,trivial⟩ trivial ⟨⟨yH T,trivial⟩,⟨pQ T,trivial⟩,⟨tG T,trivial⟩,⟨iH T,trivial⟩,⟨gH T,trivial⟩,trivial⟩
theorem Ul(hk:2<=k:=by omega):bY P w K mg base (aj w K) k "Rights" "drop" (.g 3 oK):=wG T 51 51 hk (ps:=["self","owner","ground"]) Xf ⟨Wm T,trivial⟩ trivial ⟨⟨tG T,trivial⟩,trivial⟩
theorem Pq(hk:4<=k:=by omega):bY P w K mg base (aj w K) k "Commons" "leave" (.g 3 gj):=wG T 52 52 hk (ps:=["self","owner","ground"]) Qs ⟨Yl T,trivial⟩ ⟨T.free 167,trivial⟩ ⟨⟨Ul T,trivial⟩,⟨yd T,trivial⟩,⟨jr T,trivial⟩,⟨iH T,trivial⟩,⟨gH T,trivial⟩,trivial⟩
theorem Bw(hk:1<=k:=by omega):bY P w K mg base (aj w K) k "Beast" "stand_so" (.g 2 ni):=wG T 53 53 hk (ps:=["self","stand"]) Oq trivial trivial trivial
theorem agM(hk:1<=k:=by omega):bh P w K mg base (aj w K) k "begun" (.fq 1 Cp):=vQ T 54 54 hk (ps:=["first"]) agT ⟨Q8 T,trivial⟩ trivial trivial
theorem agI(hk:3<=k:=by omega):bh P w K mg base (aj w K) k "Beast" (.cls 1 uh):=vI T 55 55 106 (ps:=["self","first"]) aaf ⟨agM T,trivial⟩ trivial ⟨⟨Bw T,trivial⟩,trivial⟩ hk
theorem BJ(hk:4<=k:=by omega):bY P w K mg base (aj w K) k "Herd" "add_beast" (.g 2 qX):=wG T 56 56 hk (ps:=["self","first"]) O7 ⟨agI T,trivial⟩ ⟨T.free 160,trivial⟩ trivial
theorem Pk(hk:5<=k:=by omega):bY P w K mg base (aj w K) k "Commons" "bring" (.g 4 gD):=wG T 57 57 hk (ps:=["self","owner","ground","ear"]) Sh ⟨RQ T,trivial⟩ trivial ⟨⟨BJ T,trivial⟩,⟨jr T,trivial⟩,⟨iH T,trivial⟩,⟨gH T,trivial⟩,trivial⟩
theorem Bm(hk:1<=k:=by omega):bY P w K mg base (aj w K) k "Herd" "known" (.q 2 kh):=wQ T 58 58 hk (ps:=["self","number"]) ZF ⟨aeg T,trivial⟩ ⟨T.free 160,trivial⟩ trivial
theorem uJ(hk:2<=k:=by omega):bY P w K mg base (aj w K) k "Herd" "living" (.q 2 rJ):=wQ T 59 59 hk (ps:=["self","number"]) W8 ⟨alb T,trivial⟩ trivial ⟨⟨Bm T,trivial⟩,trivial⟩
theorem uW(hk:3<=k:=by omega):bY P w K mg base (aj w K) k "Herd" "marked" (.q 2 oA):=wQ T 60 60 hk (ps:=["self","number"]) WM ⟨abP T,trivial⟩ trivial ⟨⟨uJ T,trivial⟩,trivial⟩
theorem Q9(hk:5<=k:=by omega):bY P w K mg base (aj w K) k "Commons" "bear" (.g 2 jw):=wG T 61 61 hk (ps:=["self","mother"]) U3 trivial trivial ⟨⟨BJ T,trivial⟩,⟨uW T,trivial⟩,trivial⟩
theorem acs(hk:1<=k:=by omega):bh P w K mg base (aj w K) k "deepened" (.fq 2 xX):=vQ T 62 62 hk (ps:=["ear","place"]) acr trivial ⟨T.free 158,T.free 170,trivial⟩ trivial
theorem acQ(hk:2<=k:=by omega):bh P w K mg base (aj w K) k "gone_on" (.fq 2 Ar):=vQ T 63 63 hk (ps:=["stand","event"]) acZ ⟨acs T,trivial⟩ trivial trivial
theorem jE(hk:3<=k:=by omega):bY P w K mg base (aj w K) k "Beast" "befall" (.g 2 mV):=wG T 64 64 hk (ps:=["self","event"]) TX ⟨acQ T,trivial⟩ trivial ⟨⟨Bw T,trivial⟩,⟨FP T,trivial⟩,trivial⟩
theorem TF(hk:9<=k:=by omega):bY P w K mg base (aj w K) k "Commons" "cut" (.g 2 jO):=wG T 65 65 hk (ps:=["self","beast"]) Xa ⟨Nh T,trivial⟩ trivial ⟨⟨jE T,trivial⟩,⟨pQ T,trivial⟩,⟨qD T,trivial⟩,⟨uJ T,trivial⟩,trivial⟩
theorem Qp(hk:4<=k:=by omega):bY P w K mg base (aj w K) k "Commons" "tear" (.g 3 fP):=wG T 66 66 hk (ps:=["self","beast","place"]) Tj ⟨acI T,wg T,aer T,Qe T,trivial⟩ ⟨T.free 160,trivial⟩ ⟨⟨jE T,trivial⟩,⟨uJ T,trivial⟩,trivial⟩
theorem Tv(hk:2<=k:=by omega):bY P w K mg base (aj w K) k "Herd" "calves" (.q 2 rF):=wQ T 67 67 hk (ps:=["self","mother"]) WQ trivial trivial ⟨⟨uz T,trivial⟩,⟨Bm T,trivial⟩,trivial⟩
theorem yI(hk:4<=k:=by omega):bY P w K mg base (aj w K) k "Herd" "lead_calves" (.g 2 pB):=wG T 68 68 hk (ps:=["self","mother"]) Kl trivial trivial ⟨⟨Tv T,trivial⟩,⟨jE T,trivial⟩,⟨Bm T,trivial⟩,trivial⟩
theorem QZ(hk:7<=k:=by omega):bY P w K mg base (aj w K) k "Commons" "sell" (.g 3 dI):=wG T 69 69 hk (ps:=["self","beast","buyer"]) Vc ⟨Rc T,Nh T,NZ T,trivial⟩ trivial ⟨⟨yI T,trivial⟩,⟨jE T,trivial⟩,⟨oZ T,trivial⟩,⟨u5 T,trivial⟩,⟨qD T,trivial⟩,⟨jr T,trivial⟩,⟨gH T,trivial⟩,⟨uW T,trivial⟩,trivial⟩
theorem Rq(hk:9<=k:=by omega):bY P w K mg base (aj w K) k "Commons" "move" (.g 3 dJ):=wG T 70 70 hk (ps:=["self","beast","ground"]) Uy ⟨ZD T,trivial⟩ trivial ⟨⟨yI T,trivial⟩,⟨jE T,trivial⟩,⟨pQ T,trivial⟩,⟨jr T,trivial⟩,⟨iH T,trivial⟩,⟨uW T,trivial⟩,trivial⟩
theorem Um(hk:4<=k:=by omega):bY P w K mg base (aj w K) k "Commons" "die" (.g 2 lH):=wG T 71 71 hk (ps:=["self","beast"]) WW trivial trivial ⟨⟨jE T,trivial⟩,⟨uJ T,trivial⟩,trivial⟩
theorem abR(hk:4<=k:=by omega):bh P w K mg base (aj w K) k "clashing" (.fq 2 uQ):=vQ T 72 72 hk (ps:=["rows","room"]) ab3 ⟨Zo T,Pn T,trivial⟩ ⟨T.free 170,trivial⟩ trivial
theorem JZ(hk:8<=k:=by omega):bY P w K mg base (aj w K) k "Commons" "quarrels" (.q 3 kY):=wQ T 73 73 hk (ps:=["self","ground","other"]) LC ⟨abR T,trivial⟩ ⟨T.free 163,trivial⟩ ⟨⟨nJ T,trivial⟩,⟨oZ T,trivial⟩,trivial⟩
theorem Aj(hk:1<=k:=by omega):bY P w K mg base (aj w K) k "Grounds" "enclose" (.g 2 lJ):=wG T 74 74 hk (ps:=["self","grounds"]) Nu trivial ⟨T.free 158,trivial⟩ trivial
theorem O8(hk:5<=k:=by omega):bY P w K mg base (aj w K) k "Grounds" "unite" (.g 3 lg):=wG T 75 75 hk (ps:=["self","ground","other"]) QC ⟨Qt T,trivial⟩ ⟨T.free 168,trivial⟩ ⟨⟨Aj T,trivial⟩,⟨nM T,trivial⟩,trivial⟩
theorem Ph(hk:9<=k:=by omega):bY P w K mg base (aj w K) k "Commons" "unite" (.g 3 gA):=wG T 76 76 hk (ps:=["self","ground","other"]) Rm ⟨aaO T (by decide),Nh T,Qt T,trivial⟩ trivial ⟨⟨O8 T,trivial⟩,⟨JZ T,trivial⟩,⟨nY T,trivial⟩,⟨iH T,trivial⟩,trivial⟩
theorem Q6(hk:5<=k:=by omega):bY P w K mg base (aj w K) k "Grounds" "part" (.g 2 jo):=wG T 77 77 hk (ps:=["self","ground"]) Uo ⟨aik T,trivial⟩ trivial ⟨⟨Aj T,trivial⟩,⟨nM T,trivial⟩,trivial⟩
theorem Sy(hk:6<=k:=by omega):bY P w K mg base (aj w K) k "Commons" "part" (.g 2 jY):=wG T 78 78 hk (ps:=["self","ground"]) Ve trivial trivial ⟨⟨Q6 T,trivial⟩,trivial⟩
theorem JW(hk:1<=k:=by omega):bY P w K mg base (aj w K) k "Rights" "hand_over" (.g 3 oY):=wG T 79 79 hk (ps:=["self","elder","heir"]) Ky trivial trivial trivial
theorem Xk(hk:2<=k:=by omega):bY P w K mg base (aj w K) k "Herd" "owned" (.q 2 xq):=wQ T 80 80 hk (ps:=["self","owner"]) Yh trivial trivial ⟨⟨uz T,trivial⟩,trivial⟩
theorem KC(hk:4<=k:=by omega):bY P w K mg base (aj w K) k "Commons" "pass_on" (.g 3 fV):=wG T 81 81 hk (ps:=["self","elder","heir"]) Nt ⟨NZ T,trivial⟩ trivial ⟨⟨jE T,trivial⟩,⟨Xk T,trivial⟩,⟨JW T,trivial⟩,⟨gH T,trivial⟩,trivial⟩
theorem aaH(hk:2<=k:=by omega):bh P w K mg base (aj w K) k "part_fits" (.fq 2 iV):=vQ T 82 82 hk (ps:=["kind","part"]) aas ⟨Qe T,RX T,ZG T,trivial⟩ ⟨T.free 172,T.free 173,T.free 160,T.free 158,trivial⟩ trivial
theorem ajm(hk:3<=k:=by omega):bh P w K mg base (aj w K) k "fits" (.fq 1 Gg):=vQ T 83 83 hk (ps:=["deed"]) ai1 ⟨aaH T,aeT T,trivial⟩ ⟨T.free 171,T.free 166,T.free 160,trivial⟩ trivial
theorem W3(hk:10<=k:=by omega):bY P w K mg base (aj w K) k "Commons" "do" (.g 2 cQ):=wG T 84 84 hk (ps:=["self","deed"]) Yj ⟨adS T,ajm T,trivial⟩ trivial ⟨⟨J9 T,trivial⟩,⟨KC T,trivial⟩,⟨Sy T,trivial⟩,⟨Ph T,trivial⟩,⟨Um T,trivial⟩,⟨Rq T,trivial⟩,⟨QZ T,trivial⟩,⟨Qp T,trivial⟩,⟨TF T,trivial⟩,⟨Q9 T,trivial⟩,⟨Pk T,trivial⟩,⟨Pq T,trivial⟩,⟨O4 T,trivial⟩,⟨Fy T,trivial⟩,⟨xV T,trivial⟩,trivial⟩
theorem ajL(hk:11<=k:=by omega):bh P w K mg base (aj w K) k "_law_done" (.fg 3 rM):=vG T 85 85 hk (ps:=["_law_house","_law_deed_here","_law_counts"]) aiJ ⟨W4 T,trivial⟩ trivial ⟨⟨W3 T,trivial⟩,trivial⟩
theorem ala(hk:1<=k:=by omega):bh P w K mg base (aj w K) k "_law_near" (.fq 2 KJ):=vQ T 86 86 hk (ps:=["_law_ear_here","_law_figures"]) aj9 trivial ⟨T.free 158,T.free 166,T.free 163,T.free 164,trivial⟩ trivial
theorem acY(hk:2<=k:=by omega):bh P w K mg base (aj w K) k "_law_mark_by" (.fq 3 wL):=vQ T 87 87 hk (ps:=["_law_figures","_law_mode","_law_base"]) adL ⟨X3 T,ala T,trivial⟩ trivial trivial
theorem amk(hk:1<=k:=by omega):bh P w K mg base (aj w K) k "_law_ref" (.fq 3 jP):=vQ T 88 88 hk (ps:=["_law_figure","_law_many","_law_sure"]) al6 trivial ⟨T.free 163,trivial⟩ trivial
theorem aku(hk:3<=k:=by omega):bh P w K mg base (aj w K) k "_law_deed" (.fq 6 gU):=vQ T 89 89 hk (ps:=["_law_word","_law_one","_law_two","_law_parts","_law_counts","_law_base"]) akk ⟨amk T,acY T,trivial⟩ ⟨T.free 173,trivial⟩ trivial
theorem aiT(hk:12<=k:=by omega):bh P w K mg base (aj w K) k "_law_play" (.fg 3 GJ):=vG T 90 90 hk (ps:=["_law_house","_law_cells","_law_head"]) ajy ⟨ajL T,aku T,adt T,ags T,aak T,amc T,trivial⟩ ⟨T.free 161,T.free 170,T.free 160,trivial⟩ trivial
theorem afK(hk:1<=k:=by omega):bh P w K mg base (aj w K) k "deeper" (.fq 2 yS):=vQ T 91 91 hk (ps:=["shallow","deep"]) afe trivial ⟨T.free 171,T.free 166,trivial⟩ trivial
theorem aaq(hk:2<=k:=by omega):bh P w K mg base (aj w K) k "owners_of" (.fq 3 rR):=vQ T 92 92 hk (ps:=["ear","rows","room"]) aar ⟨Nb T,afK T,trivial⟩ ⟨T.free 158,T.free 168,trivial⟩ trivial
theorem Ny(hk:8<=k:=by omega):bY P w K mg base (aj w K) k "Commons" "gather" (.q 2 qK):=wQ T 93 93 hk (ps:=["self","ground"]) Py ⟨aaq T,trivial⟩ trivial ⟨⟨yd T,trivial⟩,⟨nY T,trivial⟩,⟨oZ T,trivial⟩,⟨nJ T,trivial⟩,trivial⟩
theorem aeo(hk:1<=k:=by omega):bh P w K mg base (aj w K) k "_law_room_of" (.fq 2 Ax):=vQ T 94 94 hk (ps:=["_law_stand","_law_ground"]) adh trivial ⟨T.free 163,trivial⟩ trivial
theorem aiv(hk:1<=k:=by omega):bh P w K mg base (aj w K) k "_law_cell" (.fq 2 GD):=vQ T 95 95 hk (ps:=["_law_script","_law_k"]) ai7 trivial ⟨T.free 160,trivial⟩ trivial
theorem agP(hk:1<=k:=by omega):bh P w K mg base (aj w K) k "_law_tears" (.fq 2 Cq):=vQ T 96 96 hk (ps:=["_law_one","_law_other"]) ah0 trivial ⟨T.free 165,T.free 166,T.free 163,trivial⟩ trivial
theorem ah6(hk:1<=k:=by omega):bh P w K mg base (aj w K) k "_law_whole" (.fq 1 Hr):=vQ T 97 97 hk (ps:=["_law_found_here"]) ahc trivial ⟨T.free 172,T.free 174,T.free 173,trivial⟩ trivial
theorem aiV(hk:12<=k:=by omega):bh P w K mg base (aj w K) k "_law_like" (.fq 2 (lM 10)):=by
 obtain⟨fd,F⟩:=T.c.Wg 98
 have b:=FunD.bindsN (ps:=["_law_found_here","_law_due"]) F fun _ _ _ _ _ _ us hl=>match us,hl with|[_,_],_=>rfl
 have key:∀j:Nat,FnOk P w K mg base (L2.CX P w) (2+j) (He.ga K "_law_like") fd ["_law_found_here","_law_due"] (Vs K (aj w K) 2 (lM j)):=by
  intro j
  induction j with
  |zero=>exact aiE
  |succ j ih'=>
   have ih:∀{k:Nat},2+j<=k->bh P w K mg base (aj w K) k "_law_like" (.fq 2 (lM j)):=fun hk=>afx hk (T.glo 98) F.kp (b) ih'
   refine Yb (k:=2+j) (DK F) ahL ?_ ?_ ?_ (ajd (lM j))
   ·exact⟨ih (aru _),ah6 T,trivial⟩
   ·exact⟨T.free 166,T.free 160,T.free 172,T.free 159,T.free 158,T.free 175,T.free 173,trivial⟩
   ·exact T.hs trivial
 exact afx hk (T.glo 98) F.kp (b) (key 10)
theorem SQ(hk:4<=k:=by omega):bY P w K mg base (aj w K) k "Commons" "worn" (.q 2 uH):=wQ T 99 99 hk (ps:=["self","beast"]) S9 ⟨Nb T,trivial⟩ trivial ⟨⟨uW T,trivial⟩,trivial⟩
theorem ag6(hk:1<=k:=by omega):bh P w K mg base (aj w K) k "_law_found" (.fq 2 Cm):=vQ T 100 100 hk (ps:=["_law_told","_law_beast"]) ahn trivial trivial trivial
theorem alw{fd:FuncData}(F:FunD K "law" "law" (defArgs Nf) (defBody Nf) (defScope Nf) [] [] (He.ga K "law") fd):FnOk P w K mg base (L2.CX P w) 13 (He.ga K "law") fd ["_law_script"] (JG K (aj w K) 1 Xq):=by
 refine RG (k:=12) (DK F) akN ?_ ?_ ?_ alx
 ·exact⟨aiV T,ag6 T,agP T,aeo T,aiT T,aiv T,aez T,trivial⟩
 ·exact⟨T.free 170,T.free 161,T.free 160,T.free 162,trivial⟩
 ·exact T.hs ⟨⟨SQ T,trivial⟩,⟨Ny T,trivial⟩,⟨R9 T,trivial⟩,trivial⟩
end
def digs(b:Int):Nat->Int->List Int
 |0,_=>[]
 |n+1,c=>c % b::digs b n (c / b)
def Od(b:Int):Nat->Int->Int->List Int
 |0,_,_=>[]
 |n+1,k,t=>((t * 48271+9973 * k+11) % 2147483647 / 1021 % b)::Od b n (k+1) ((t * 48271+9973 * k+11) % 2147483647)
def Br(c:Int):Int:=if c < 0 then -c else c
def rowOf(c:Int)(n:Nat)(b:Int):List Int:=if 10 ^ 18<=Br c then digs b n (Br c) else Od b n 0 ((Br c % 1000003+17) * 69621 % 2147483647)
theorem XR(b:Int):∀n c,(digs b n c).length=n
 |0,_=>rfl
 |n+1,c=>by simp[digs,XR b n]
theorem abE(b:Int):∀n k t,(Od b n k t).length=n
 |0,_,_=>rfl
 |n+1,k,t=>by simp[Od,abE b n]
theorem abo{b:Int}(hb:0 < b):∀n c,∀x∈digs b n c,0<=x/\x < b
 |0,_,x,h=>by simp[digs]at h
 |n+1,c,x,h=>by
  rcases arh.mp h with rfl|h
  ·exact⟨Int.emod_nonneg _ (by omega),Int.emod_lt_of_pos _ hb⟩
  ·exact abo hb n _ x h
theorem aey{b:Int}(hb:0 < b):∀n k t,∀x∈Od b n k t,0<=x/\x < b
 |0,_,_,x,h=>by simp[Od]at h
 |n+1,k,t,x,h=>by
  rcases arh.mp h with rfl|h
  ·exact⟨Int.emod_nonneg _ (by omega),Int.emod_lt_of_pos _ hb⟩
  ·exact aey hb n _ _ x h
@[simp]theorem aa3 (c:Int) (n:Nat) (b:Int):(rowOf c n b).length=n:=by
 unfold rowOf
 split
 ·exact XR ..
 ·exact abE ..
theorem aes{b:Int}(hb:0 < b)(c:Int)(n:Nat):∀x∈rowOf c n b,0<=x/\x < b:=by
 unfold rowOf
 split
 ·exact abo hb _ _
 ·exact aey hb _ _ _
@[simp]theorem ain (M:Mo) (ns:List Int) (k:Nat):GD M [lI ns,.int k]=.ok (.int (ns.getD k 0)):=by
 unfold GD Z5
 by_cases h:k < ns.length
 ·simp[h,atI,ixN]
 ·simp[h]
theorem Zu(M:Mo)(b:Int)(hb:0 < b)(hb2:b < 1073741824):∀(n k:Nat) (c:Int) (x1:Option Cell) (acc:List Dat) (x4 x5:Option Cell),acc.length+n < 100000->∃c' x4',gR (aF 4) Tn ((List.range' k n).map fun(i:Nat)=>PyData.int (i:Int)) M [some (.dat (.int c)),x1,some (.dat (.int b)),some (.mut acc),x4,x5]=.next [c',x1,some (.dat (.int b)),some (.mut (acc++(digs b n c).map .int)),x4',x5] M
 |0,k,c,x1,acc,x4,x5,_=>⟨some (.dat (.int c)),x4,by simp[gR,digs]⟩
 |n+1,k,c,x1,acc,x4,x5,hl=>by
  obtain⟨c',x4',ih⟩:=Zu M b hb hb2 n (k+1) (c / b) x1 (acc++[.int (c % b)]) (some (.dat (.int k))) x5 (by simp;omega)
  refine⟨c',x4',?_⟩
  have h1:decide (CDiv c b)=true:=decide_eq_true ⟨hb,hb2⟩
  have hl:acc.length < 100000:=by omega
  rw[List.range'_succ,aq3,iD (ρ1:=[some (.dat (.int c)),x1,some (.dat (.int b)),some (.mut acc),some (.dat (.int k)),x5]) (by simp) (ρ2:=[some (.dat (.int (c / b))),x1,some (.dat (.int b)),some (.mut (acc++[.int (c % b)])),some (.dat (.int k)),x5]) (M2:=M) (by simp[Tn,h1,hb,hl])]
  rw[ih]
  simp[digs]
theorem abd(M:Mo)(b:Int)(hb:0 < b):∀(n k:Nat) (t:Int) (x0 x1:Option Cell) (acc:List Dat) (x4:Option Cell),acc.length+n < 100000->∃x4' x5',gR (aF 4) Ux ((List.range' k n).map fun(i:Nat)=>PyData.int (i:Int)) M [x0,x1,some (.dat (.int b)),some (.mut acc),x4,some (.dat (.int t))]=.next [x0,x1,some (.dat (.int b)),some (.mut (acc++(Od b n k t).map .int)),x4',x5'] M
 |0,k,t,x0,x1,acc,x4,_=>⟨x4,some (.dat (.int t)),by simp[gR,Od]⟩
 |n+1,k,t,x0,x1,acc,x4,hl=>by
  obtain⟨x4',x5',ih⟩:=abd M b hb n (k+1) ((t * 48271+9973 * k+11) % 2147483647) x0 x1 (acc++[.int ((t * 48271+9973 * k+11) % 2147483647 / 1021 % b)]) (some (.dat (.int k))) (by simp;omega)
  refine⟨x4',x5',?_⟩
  have h1:decide (CMul t 48271)=true:=mul_r (by decide)
  have h2:decide (CMul 9973 (k:Int))=true:=agz (by decide)
  have h3:∀x,decide (CDiv x 1021)=true:=fun x=>decide_eq_true ⟨by decide,by decide⟩
  have hl:acc.length < 100000:=by omega
  rw[List.range'_succ,aq3,iD (ρ1:=[x0,x1,some (.dat (.int b)),some (.mut acc),some (.dat (.int k)),some (.dat (.int t))]) (by simp) (ρ2:=[x0,x1,some (.dat (.int b)),some (.mut (acc++[.int ((t * 48271+9973 * k+11) % 2147483647 / 1021 % b)])),some (.dat (.int k)),some (.dat (.int ((t * 48271+9973 * k+11) % 2147483647)))]) (M2:=M) (by simp[Ux,h1,h2,h3,hb,hl])]
  rw[ih]
  simp[Od]
theorem Qu(n:Nat):gQ 0 n=(List.range' 0 n).map fun(i:Nat)=>PyData.int (i:Int):=by
 unfold gQ
 rw[List.range_eq_range']
 simp
theorem adu(M:Mo)(c:Int)(n:Nat)(b:Int)(hb:0 < b)(hb2:b < 1073741824)(hn:n<=1000):Cd M [.int c,.int n,.int b]=.ok (lI (rowOf c n b)):=by
 unfold Cd acA
 have hp:decide (CPow 10 18)=true:=decide_eq_true ⟨by decide,by decide,by decide⟩
 have hn1:(n:Int)<=100000:=by omega
 have hn2 : -100000<=(n:Int):=by omega
 have hm:∀x,decide (CMul x 69621)=true:=fun x=>mul_r (by decide)
 have ea:(if c < 0 then -c else c)=Br c:=rfl
 by_cases h:10 ^ 18<=Br c
 ·obtain⟨c',x4',e⟩:=Zu M b hb hb2 n 0 (Br c) (some (.dat (.int n))) [] none none (by simp;omega)
  have e2:rowOf c n b=digs b n (Br c):=if_pos h
  have h':(1000000000000000000:Int)<=Br c:=by simpa using h
  simp[hp,ea,h',hn1,hn2,Qu,e,e2]
 ·obtain⟨x4',x5',e⟩:=abd M b hb n 0 ((Br c % 1000003+17) * 69621 % 2147483647) (some (.dat (.int (Br c)))) (some (.dat (.int n))) [] none (by simp;omega)
  have e2:rowOf c n b=Od b n 0 ((Br c % 1000003+17) * 69621 % 2147483647):=if_neg h
  have h':¬(1000000000000000000:Int)<=Br c:=by simpa using h
  have e':=e
  simp[hp,ea,h',hn1,hn2,hm,Qu]at e ⊢
  rw[e]
  simp[e2]
def Ox(i j:Int):Int:=if j > i then j else i
def zQ(l:List Int)(m:Int):List Int:=if m % 4=1 then l.map fun f=>Ox 0 (f - 7) else if m % 4=2 then l.map fun f=>f % 3 else l
theorem WK(M:Mo)(l:List Int)(m:Int)(hl:l.length<=1000):uE M [lI l,.int m]=.ok (aJ (zQ l m)):=by
 unfold uE Ow
 have hl':l.length<=50000:=by omega
 have c1:=dW (tg:=aF 2) (te:=aA sU (qC (.int 0)) (aA mF (ao 2) (qC (.int 7)))) (M:=M) (ρ:=[some (.dat (lI l)),some (.dat (.int m)),none]) PyData.int (fun f=>.int (Ox 0 (f - 7))) l fun x _=>⟨_,rfl,by simp[Ox]⟩
 have c2:=dW (tg:=aF 2) (te:=aA pC (ao 2) (qC (.int 3))) (M:=M) (ρ:=[some (.dat (lI l)),some (.dat (.int m)),none]) PyData.int (fun f=>.int (f % 3)) l fun x _=>⟨_,rfl,by simp⟩
 by_cases h1:m % 4=1
 ·simp[h1,hl',c1,zQ,arq]
 ·by_cases h2:m % 4=2
  ·simp[h2,hl',c2,zQ,arq]
  ·simp[h1,h2,zQ]
def Mq(c:Int):List Int:=zQ ((rowOf c 7 10).take 6) ((rowOf c 7 10).getD 6 0)
theorem aeX{α:Type}(l:List α)(n:Nat):Rf.cutD l none (some (n:Int))=l.take n:=by
 unfold Rf.cutD
 rw[HT.sIx_nat]
 simp[HT.sIx]
theorem Zj{α:Type}(l:List α)(n:Nat):Rf.cutD l (some (n:Int)) none=l.drop n:=by
 unfold Rf.cutD
 rw[HT.sIx_nat]
 simp[HT.sIx]
 by_cases h:n<=l.length
 ·rw[Nat.min_eq_left h]
  exact List.take_of_length_le (by simp)
 ·rw[Nat.min_eq_right (by omega),List.drop_eq_nil_of_le (by omega),List.drop_eq_nil_of_le (by omega)]
  simp
theorem Z7(l:List Int)(n:Nat)(h:n < l.length):atI (l.map PyData.int) (n:Int)=some (.int (l.getD n 0)):=atI_nat (by simp[h])
theorem ajb(M:Mo)(c:Int):R4 M [.int c]=.ok (aJ (Mq c)):=by
 unfold R4 acv
 have h1:Cd M [.int c,.int 7,.int 10]=.ok (.list ((rowOf c 7 10).map .int)):=adu M c 7 10 (by decide) (by decide) (by decide)
 have h2:Rf.cutD ((rowOf c 7 10).map PyData.int) none (some 6)=((rowOf c 7 10).take 6).map PyData.int:=by
  rw[show(6:Int)=((6:Nat):Int) from rfl,aeX,List.map_take]
 have h3:atI ((rowOf c 7 10).map PyData.int) 6=some (.int ((rowOf c 7 10).getD 6 0)):=Z7 _ 6 (by simp)
 have h4:uE M [.list (((rowOf c 7 10).take 6).map .int),.int ((rowOf c 7 10).getD 6 0)]=.ok (.tuple ((Mq c).map .int)):=WK M _ _ (by simp)
 generalize (rowOf c 7 10).getD 6 0=z at h3 h4
 generalize ((rowOf c 7 10).take 6).map PyData.int=y at h2 h4
 simp[h1,h2,h3,h4]
theorem acR(c:Int):(Mq c).length=6:=by
 unfold Mq zQ
 split
 ·simp
 ·split <;> simp
theorem af0{l:List Int}{m:Int}(h:∀x∈l,0<=x/\x < 10):∀x∈zQ l m,0<=x/\x < 10:=by
 unfold zQ Ox
 split
 ·intro x hx
  obtain⟨y,hy,rfl⟩:=arf.mp hx
  have:=h y hy
  split <;> omega
 ·split
  ·intro x hx
   obtain⟨y,hy,rfl⟩:=arf.mp hx
   have:=h y hy
   omega
  ·exact h
mutual
def lk:Nat->Dat->Bool
 |_,.none=>true
 |_,.bool _=>true
 |_,.int _=>true
 |_,.str _=>true
 |n+1,.list ds=>Wr n ds
 |n+1,.tuple ds=>Wr n ds
 |0,.list _=>false
 |0,.tuple _=>false
 |_,.dict _=>false
def Wr:Nat->List Dat->Bool
 |_,[]=>true
 |n,d::ds=>lk n d&&Wr n ds
end
theorem Mz{n:Nat}:∀{ds:List Dat},Wr n ds=true↔∀d∈ds,lk n d=true
 |[]=>by simp[Wr]
 |d::ds=>by simp[Wr,Mz (ds:=ds)]
@[simp]theorem amT (n:Nat) (l:List Int):Wr n (l.map PyData.int)=true:=Mz.mpr fun d h=>by
 obtain⟨i,_,rfl⟩:=arf.mp h
 simp[lk]
theorem VJ(M:Mo)(i:Int):Hr M [.int i]=.ok (.bool true):=by
 unfold Hr Uv
 simp[zq,Bs]
theorem zip_self(ds:List Dat):xU ds ds=ds.map fun d=>.tuple [d,d]:=by
 unfold xU
 rw[List.zipWith_self]
theorem Lq(M:Mo)(r:Mo->List Dat->Out Dat)(x0 x1:Option Cell):∀(ds:List Dat) (x2 x3:Option Cell),(∀d∈ds,r M [d,d]=.ok (.bool true))->∃x2' x3',gR (bx [2,3]) (Ot r) (ds.map fun d=>PyData.tuple [d,d]) M [x0,x1,x2,x3]=.next [x0,x1,x2',x3'] M
 |[],x2,x3,_=>⟨x2,x3,rfl⟩
 |d::ds,x2,x3,h=>by
  obtain⟨x2',x3',ih⟩:=Lq M r x0 x1 ds (some (.dat d)) (some (.dat d)) fun d hd=>h d (aq5 _ hd)
  refine⟨x2',x3',?_⟩
  have hd:=h d aq4
  rw[aq3,iD (ρ1:=[x0,x1,some (.dat d),some (.dat d)]) (by simp) (ρ2:=[x0,x1,some (.dat d),some (.dat d)]) (M2:=M) (by simp[Ot,hd])]
  exact ih
theorem aa6(M:Mo):∀(n:Nat) (d:Dat),lk n d=true->lM (n+1) M [d,d]=.ok (.bool true):=by
 intro n
 induction n with
 |zero=>
  intro d h
  show mQ 4 (Ht (lM 0)) M [d,d]=_
  unfold Ht
  cases d with
  |none=>simp[lF]
  |bool b=>cases b <;> simp[lF]
  |int i=>simp[lF,zq,Bs,VJ]
  |str x=>simp[lF,zq,Bs]
  |list ds=>simp[lk]at h
  |tuple ds=>simp[lk]at h
  |dict kv=>simp[lk]at h
 |succ n ih=>
  intro d h
  show mQ 4 (Ht (lM (n+1))) M [d,d]=_
  unfold Ht
  cases d with
  |none=>simp[lF]
  |bool b=>cases b <;> simp[lF]
  |int i=>simp[lF,zq,Bs,VJ]
  |str x=>simp[lF,zq,Bs]
  |list ds=>
   rw[lk,Mz]at h
   obtain⟨x2',x3',e⟩:=Lq M (lM (n+1)) (some (.dat (.list ds))) (some (.dat (.list ds))) ds none none fun d hd=>ih d (h d hd)
   simp[lF,zq,Bs,zip_self,e]
  |tuple ds=>
   rw[lk,Mz]at h
   obtain⟨x2',x3',e⟩:=Lq M (lM (n+1)) (some (.dat (.tuple ds))) (some (.dat (.tuple ds))) ds none none fun d hd=>ih d (h d hd)
   simp[lF,zq,Bs,zip_self,e]
  |dict kv=>simp[lk]at h
inductive En where
 |torn (p:Nat)|cut (e:List Int)|sold (o:Int) (e:List Int)|moved (g:Int)|followed (o g:Int)|passed (o:Int)|died
def En.dat:En->Dat
 |.torn p=>.tuple [.str "torn",.int p]
 |.cut e=>.tuple [.str "cut",aJ e]
 |.sold o e=>.tuple [.str "sold",.int o,aJ e]
 |.moved g=>.tuple [.str "moved",.int g]
 |.followed o g=>.tuple [.str "followed",.int o,.int g]
 |.passed o=>.tuple [.str "passed",.int o]
 |.died=>.tuple [.str "died"]
inductive Fi where
 |brought (o g:Int) (e:List Int)|born (m o g:Int)
def Fi.dat:Fi->Dat
 |.brought o g e=>.tuple [.str "brought",.int o,.int g,aJ e]
 |.born m o g=>.tuple [.str "born",.int m,.int o,.int g]
structure Sd where
 o:Int
 g:Int
 due:Option (List Int)
 ear:List Int
 al:Bool
def mZ:Option (List Int)->Dat
 |none=>.none
 |some e=>aJ e
def Sd.dat(s:Sd):Dat:=.tuple [.int s.o,.int s.g,mZ s.due,aJ s.ear,.bool s.al]
def ug(l:List Int)(p:Nat):List Int:=l.mapIdx fun i x=>if i=p then x+1 else x
def go(s:Sd):En->Sd
 |.torn p=>{ s with ear:=ug s.ear p }
 |.cut e=>{ s with due:=some e,ear:=e }
 |.sold o e=>{ s with o:=o,due:=some e,ear:=e }
 |.moved g=>{ s with g:=g }
 |.followed o g=>{ s with o:=o,g:=g }
 |.passed o=>{ s with o:=o }
 |.died=>{ s with al:=false }
def beg:Fi->Sd
 |.brought o g e=>⟨o,g,none,e,true⟩
 |.born _ o g=>⟨o,g,none,[0,0,0,0,0,0],true⟩
theorem afi(M:Mo)(f:Fi):Cp M [f.dat]=.ok (beg f).dat:=by
 cases f <;> simp[Cp,MF,Fi.dat,beg,Sd.dat,mZ,jB]
theorem aaF(M:Mo)(l:List Int)(p:Nat)(hl:l.length<=1000):xX M [aJ l,.int p]=.ok (aJ (ug l p)):=by
 unfold xX Ji
 have c:pN 0 (l.map PyData.int)=(l.mapIdx fun i x=>(i,x)).map fun(q:Nat×Int)=>PyData.tuple [.int q.1,.int q.2]:=by
  unfold pN
  rw[List.mapIdx_eq_mapIdx_iff.mpr (fun i h=>rfl)]
  apply arx
  intro i
  simp
  cases l[i]? <;> simp
 have c2:=dW (tg:=bx [2,3]) (te:=K6 (bA (aA cC (ao 2) (ao 1))) (aA fD (ao 3) (qC (.int 1))) (aq 3)) (M:=M) (ρ:=[some (.dat (aJ l)),some (.dat (.int p)),none,none]) (fun(q:Nat×Int)=>PyData.tuple [.int q.1,.int q.2]) (fun q=>.int (if q.1=p then q.2+1 else q.2)) (l.mapIdx fun i x=>(i,x)) fun x _=>⟨[some (.dat (aJ l)),some (.dat (.int p)),some (.dat (.int x.1)),some (.dat (.int x.2))],by simp,by
  by_cases h:x.1=p
  ·simp[h]
  ·have h':¬((x.1:Int)=p):=by omega
   simp[h,h']⟩
 have hl':l.length<=50000:=by omega
 simp[c,c2,hl',ug]
 apply arx
 intro i
 simp
 cases l[i]? <;> simp
theorem acH(l:List Int)(p:Nat):(ug l p).length=l.length:=by simp[ug]
theorem gone_ok(M:Mo)(s:Sd)(e:En)(hl:s.ear.length<=1000):Ar M [s.dat,e.dat]=.ok (go s e).dat:=by
 have h:=fun p=>aaF M s.ear p hl
 cases e <;> simp[Ar,Lf,En.dat,go,Sd.dat,mZ,h]
abbrev Row3:=Int×Int×List Int
def iY(r:Row3):Dat:=.tuple [.int r.1,.int r.2.1,aJ r.2.2]
structure cV where
 fi:Fi
 en:List En
 mo:Int
 sd:Sd
structure aK where
 count:Int
 own:List Int
 al:List Int
 ci:List (List Int)
 held:List Row3
 bs:List cV
structure Lay where
 c:Nat
 g:Nat
 r:Nat
 h:Nat
 bs:List Nat
 fr:List (Nat×Inst)
def aP(L:Lay)(c:aK):Inst:=⟨"Commons",[("owner_count",.dat (.int c.count)),("holders",.dic false (c.own.map fun o=>(.int o,.bool true))),("grounds",.dat (ob L.g)),("rights",.dat (ob L.r)),("herd",.dat (ob L.h))]⟩
def dB(n m:Nat)(c:aK):Inst:=⟨"Grounds",[("allowances",.lst n (c.al.map PyData.int)),("circles",.lst m (c.ci.map aJ))]⟩
def nZ(c:aK):Inst:=⟨"Rights",[("held",.dic true (c.held.map fun r=>(iY r,.bool true)))]⟩
def dG(n:Nat)(L:Lay):Inst:=⟨"Herd",[("beasts",.lst n (L.bs.map ob))]⟩
def iB(n:Nat)(b:cV):Inst:=⟨"Beast",[("story",.lst n (b.fi.dat::b.en.map En.dat)),("mother",.dat (.int b.mo)),("owner",.dat (.int b.sd.o)),("ground",.dat (.int b.sd.g)),("due",.dat (mZ b.sd.due)),("ear",.dat (aJ b.sd.ear)),("alive",.dat (.bool b.sd.al))]⟩
structure At(M:Mo)(L:Lay)(c:aK):Prop where
 hc:M[L.c]?=some (aP L c)
 hg:∃n m,M[L.g]?=some (dB n m c)
 hr:M[L.r]?=some (nZ c)
 hh:∃n,M[L.h]?=some (dG n L)
 len:L.bs.length=c.bs.length
 hb:∀(i h:Nat) (b:cV),L.bs[i]?=some h->c.bs[i]?=some b->∃n,M[h]?=some (iB n b)
 nd:(L.c::L.g::L.r::L.h::L.bs).Nodup
 fr:∀p∈L.fr,M[p.1]?=some p.2/\p.1∉L.c::L.g::L.r::L.h::L.bs
section
variable{M:Mo}{L:Lay}{c:aK}(a:At M L c)
include a
theorem aa0:qj M [ob L.g]=.ok (.int c.al.length):=by
 obtain⟨n,m,hg⟩:=a.hg
 simp[qj,uP,hg,dB]
theorem ajU(g:Int):vK M [ob L.g,.int g]=.ok (.bool (decide (1<=g/\g<=c.al.length))):=by
 obtain⟨n,m,hg⟩:=a.hg
 have:=aa0 a
 by_cases h:1<=g <;> simp[vK,Bj,hg,dB,this,eZ,h]
end
@[simp]theorem afZ {α:Type} (l:List α) (n:Nat):atI l (n:Int)=l[n]?:=by
 cases h:l[n]? with
 |some a=>exact atI_nat h
 |none=>
  have hl:=List.getElem?_eq_none_iff.mp h
  unfold atI ixN
  rw[if_pos (by omega),if_neg (by omega)]
  rfl
abbrev Vg(c:aK)(x:Int):Prop:=1<=x/\x<=c.al.length
theorem pZ{c:aK}{x:Int}(h:Vg c x):∃k:Nat,k < c.al.length/\x=(k:Int)+1:=⟨(x - 1).toNat,by omega,by omega⟩
structure cZ(c:aK):Prop where
 len:c.ci.length=c.al.length
 few:c.al.length<=200
 al:∀x∈c.al,0<=x/\x<=9
 mem:∀(k:Nat) (l:List Int),c.ci[k]?=some l->∀y∈l,Vg c y
 own:∀(k:Nat) (l:List Int),c.ci[k]?=some l->(k:Int)+1∈l
 up:∀(k:Nat) (l:List Int),c.ci[k]?=some l->l.Pairwise (· < ·)
 one:∀(k j:Nat) (l:List Int),c.ci[k]?=some l->(j:Int)+1∈l->c.ci[j]?=some l
def aH(c:aK)(x:Int):List Int:=(c.ci[(x - 1).toNat]?).getD []
def lE(c:aK)(x:Int):Int:=(c.al[(x - 1).toNat]?).getD 0
def acn:List Int->Int
 |[]=>0
 |n::ns=>Fq n ns
def roomOf(c:aK)(x:Int):Int:=acn ((aH c x).map (lE c))
theorem adk:∀{l:List Int} {lo hi:Int},l.Pairwise (· < ·)->(∀y∈l,lo<=y/\y<=hi)->(l.length:Int)<=max 0 (hi - lo+1)
 |[],_,_,_,_=>by simp;omega
 |x::l,lo,hi,h,hb=>by
  rw[List.pairwise_cons]at h
  have:=adk (lo:=x+1) (hi:=hi) h.2 fun y hy=>⟨by have:=h.1 y hy;omega,(hb y (aq5 _ hy)).2⟩
  have:=hb x aq4
  simp
  omega
theorem maxD_ints{l:List Int}(h:l≠[]):maxD (.list (l.map PyData.int))=.ok (.int (acn l)):=by
 cases l with
 |nil=>exact absurd rfl h
 |cons n ns=>
  show(match intsOf ((n::ns).map PyData.int) with
   |some (n::ns)=>Out.ok (PyData.int (Fq n ns))
   |_=>Out.bad)=_
  rw[mD]
  rfl
theorem cZ.clen{c:aK}(i:cZ c){k:Nat}{l:List Int}(h:c.ci[k]?=some l):l.length<=200:=by
 have:=adk (lo:=1) (hi:=c.al.length) (i.up k l h) fun y hy=>i.mem k l h y hy
 have:=i.few
 omega
section
variable{M:Mo}{L:Lay}{c:aK}(a:At M L c)
include a
theorem wH(x:Int):uL M [ob L.g,.int x]=if Vg c x then .ok .none else .exc ⟨"NoGround",[]⟩:=by
 obtain⟨n,m,hg⟩:=a.hg
 have:=ajU a x
 by_cases h:Vg c x <;> simp[uL,zj,hg,dB,this,zF,h]
theorem Mj(x:Int):jV M [ob L.g,.int x]=if Vg c x then .ok (.int (lE c x)) else .exc ⟨"NoGround",[]⟩:=by
 obtain⟨n,m,hg⟩:=a.hg
 have hn:=wH a x
 by_cases h:Vg c x
 ·obtain⟨k,hk,rfl⟩:=pZ h
  rw[if_pos h]at hn ⊢
  simp[jV,nO,hg,dB,hn,aG,lE,hk]
 ·rw[if_neg h]at hn ⊢
  simp[jV,nO,hg,dB,hn,aG]
theorem vH(i:cZ c)(x:Int):kE M [ob L.g,.int x]=if Vg c x then .ok (lI (aH c x)) else .exc ⟨"NoGround",[]⟩:=by
 obtain⟨n,m,hg⟩:=a.hg
 have hn:=wH a x
 by_cases h:Vg c x
 ·obtain⟨k,hk,rfl⟩:=pZ h
  have hk':k < c.ci.length:=by rw[i.len];exact hk
  rw[if_pos h]at hn ⊢
  simp[kE,o7,hg,dB,hn,aG,aH,hk']
 ·rw[if_neg h]at hn ⊢
  simp[kE,o7,hg,dB,hn,aG]
theorem agY(i:cZ c)(x:Int):qd M [ob L.g,.int x]=if Vg c x then .ok (.int (roomOf c x)) else .exc ⟨"NoGround",[]⟩:=by
 obtain⟨n,m,hg⟩:=a.hg
 have hn:=vH a i x
 by_cases h:Vg c x
 ·rw[if_pos h]at hn ⊢
  obtain⟨k,hk,rfl⟩:=pZ h
  have hk':k < c.ci.length:=by rw[i.len];exact hk
  have hc:c.ci[k]?=some (aH c ((k:Int)+1)):=by simp[aH,hk']
  unfold roomOf
  generalize aH c ((k:Int)+1)=l at hc hn ⊢
  have hl:l.length<=50000:=by have:=i.clen hc;omega
  have hne:l.map (lE c)≠[]:=fun z=>by
   have:=i.own k l hc
   rw[List.map_eq_nil_iff.mp z]at this
   cases this
  have key:=dW (tg:=aF 2) (te:=aO dN (ao 0) (ak (aq 2) au)) (M:=M) (ρ:=[some (.dat (ob L.g)),some (.dat (.int ((k:Int)+1))),none]) PyData.int (fun y=>.int (lE c y)) l fun y hy=>⟨[some (.dat (ob L.g)),some (.dat (.int ((k:Int)+1))),some (.dat (.int y))],by simp,by
   have:=Mj a y
   rw[if_pos (i.mem k l hc y hy)]at this
   simp[hg,dB,dN,this]⟩
  simp[qd,uO,hg,dB,hn,bD,key,hl]
  have:=maxD_ints hne
  rw[arA]at this
  simp[arq]at this ⊢
  simp[this]
 ·rw[if_neg h]at hn ⊢
  simp[qd,uO,hg,dB,hn,bD]
end
theorem bH{M:Mo}{h k:Nat}{i j:Inst}(hm:M[h]?=some j):(M.set h i)[k]?=if h=k then some i else M[k]?:=by
 have hl:h < M.length:=(aq1.mp hm).1
 rw[ar4]
 by_cases e:h=k
 ·subst e
  rw[if_pos rfl,if_pos hl,if_pos rfl]
 ·rw[if_neg e,if_neg e]
theorem At.neq{M:Mo}{L:Lay}{c:aK}(a:At M L c):L.c≠L.g/\L.c≠L.r/\L.c≠L.h/\L.g≠L.r/\L.g≠L.h/\L.r≠L.h/\(∀x∈L.bs,L.c≠x/\L.g≠x/\L.r≠x/\L.h≠x)/\L.bs.Nodup:=by
 have nd:=a.nd
 simp only[ar0,arh,not_or]at nd
 obtain⟨⟨n1,n2,n3,n4⟩,⟨n5,n6,n7⟩,⟨n8,n9⟩,n10,n11⟩:=nd
 exact⟨n1,n2,n3,n5,n6,n8,fun x hx=>⟨fun z=>n4 (z ▸ hx),fun z=>n7 (z ▸ hx),fun z=>n9 (z ▸ hx),fun z=>n10 (z ▸ hx)⟩,n11⟩
theorem At.frS{M:Mo}{L:Lay}{c:aK}(a:At M L c){h:Nat}{i j:Inst}(hm:M[h]?=some j)(hh:h∈L.c::L.g::L.r::L.h::L.bs):∀p∈L.fr,(M.set h i)[p.1]?=some p.2/\p.1∉L.c::L.g::L.r::L.h::L.bs:=fun p hp=>by
 obtain⟨h1,h2⟩:=a.fr p hp
 refine⟨?_,h2⟩
 rw[bH hm,if_neg (fun(z:h=p.1)=>h2 (z ▸ hh))]
 exact h1
theorem At.setG{M:Mo}{L:Lay}{c:aK}(a:At M L c){al:List Int}{ci:List (List Int)}{n m:Nat}:At (M.set L.g (dB n m { c with al:=al,ci:=ci })) L { c with al:=al,ci:=ci }:=by
 obtain⟨n',m',hg⟩:=a.hg
 obtain⟨e1,e2,e3,e4,e5,e6,e7,e8⟩:=a.neq
 have e1':=Ne.symm e1
 refine⟨?_,⟨n,m,?_⟩,?_,?_,a.len,fun i h b h1 h2=>?_,a.nd,a.frS hg (by simp)⟩
 ·rw[bH hg,if_neg e1']
  exact a.hc
 ·rw[bH hg,if_pos rfl]
 ·rw[bH hg,if_neg e4]
  exact a.hr
 ·rw[bH hg,if_neg e5]
  exact a.hh
 ·rw[bH hg,if_neg (e7 h (aq6 h1)).2.1]
  exact a.hb i h b h1 h2
theorem At.ae8{M:Mo}{L:Lay}{c:aK}(a:At M L c){held:List Row3}:At (M.set L.r (nZ { c with held:=held })) L { c with held:=held }:=by
 obtain⟨e1,e2,e3,e4,e5,e6,e7,e8⟩:=a.neq
 have e2':=Ne.symm e2
 have e4':=Ne.symm e4
 have hr:=a.hr
 refine⟨?_,?_,?_,?_,a.len,fun i h b h1 h2=>?_,a.nd,a.frS hr (by simp)⟩
 ·rw[bH hr,if_neg e2']
  exact a.hc
 ·rw[bH hr,if_neg e4']
  exact a.hg
 ·rw[bH hr,if_pos rfl]
 ·rw[bH hr,if_neg e6]
  exact a.hh
 ·rw[bH hr,if_neg (e7 h (aq6 h1)).2.2.1]
  exact a.hb i h b h1 h2
theorem At.setC{M:Mo}{L:Lay}{c:aK}(a:At M L c){n:Int}{own:List Int}:At (M.set L.c (aP L { c with count:=n,own:=own })) L { c with count:=n,own:=own }:=by
 obtain⟨e1,e2,e3,e4,e5,e6,e7,e8⟩:=a.neq
 have hc:=a.hc
 refine⟨?_,?_,?_,?_,a.len,fun i h b h1 h2=>?_,a.nd,a.frS hc (by simp)⟩
 ·rw[bH hc,if_pos rfl]
 ·rw[bH hc,if_neg e1]
  exact a.hg
 ·rw[bH hc,if_neg e2]
  exact a.hr
 ·rw[bH hc,if_neg e3]
  exact a.hh
 ·rw[bH hc,if_neg (e7 h (aq6 h1)).1]
  exact a.hb i h b h1 h2
theorem At.setB{M:Mo}{L:Lay}{c:aK}(a:At M L c){k h n:Nat}{b':cV}(hk:L.bs[k]?=some h):At (M.set h (iB n b')) L { c with bs:=c.bs.set k b' }:=by
 obtain⟨e1,e2,e3,e4,e5,e6,e7,e8⟩:=a.neq
 have hl:k < c.bs.length:=by rw[←a.len];exact(aq1.mp hk).1
 obtain⟨n0,hb⟩:=a.hb k h _ hk (aq2 hl)
 obtain⟨q1,q2,q3,q4⟩:=e7 h (aq6 hk)
 refine⟨?_,?_,?_,?_,by simp[a.len],fun i h2 b h3 h4=>?_,a.nd,a.frS hb (by simp[aq6 hk])⟩
 ·rw[bH hb,if_neg (Ne.symm q1)]
  exact a.hc
 ·rw[bH hb,if_neg (Ne.symm q2)]
  exact a.hg
 ·rw[bH hb,if_neg (Ne.symm q3)]
  exact a.hr
 ·rw[bH hb,if_neg (Ne.symm q4)]
  exact a.hh
 ·by_cases e:i=k
  ·subst e
   rw[hk]at h3
   cases h3
   have h4:(c.bs.set i b')[i]?=some b:=h4
   rw[arl hl]at h4
   cases h4
   exact⟨n,by rw[bH hb,if_pos rfl]⟩
  ·have h4:(c.bs.set k b')[i]?=some b:=h4
   rw[aq8 (Ne.symm e)]at h4
   have ne:h≠h2:=fun z=>by
    subst z
    exact e ((List.getElem?_inj (aq1.mp h3).1 e8).mp (h3.trans hk.symm))
   rw[bH hb,if_neg ne]
   exact a.hb i h2 b h3 h4
theorem At.amG{M:Mo}{L:Lay}{c:aK}(a:At M L c){M2:Mo}{h n n2:Nat}{b:cV}(hh:M.length<=h)(hM:∀k,k < M.length->M2[k]?=M[k]?)(hb:M2[h]?=some (iB n b)):At (M2.set L.h (dG n2 { L with bs:=L.bs++[h] })) { L with bs:=L.bs++[h] } { c with bs:=c.bs++[b] }:=by
 obtain⟨e1,e2,e3,e4,e5,e6,e7,e8⟩:=a.neq
 have lt:∀{k:Nat} {i:Inst},M[k]?=some i->k < M.length:=fun z=>(aq1.mp z).1
 obtain⟨n0,m0,hg⟩:=a.hg
 obtain⟨n1,hh1⟩:=a.hh
 have l1:=lt a.hc
 have l2:=lt hg
 have l3:=lt a.hr
 have l4:=lt hh1
 have lb:∀x∈L.bs,x < M.length:=fun x hx=>by
  obtain⟨i,hi,e⟩:=List.mem_iff_getElem.mp hx
  obtain⟨n',z⟩:=a.hb i x _ (by rw[aq2 hi,e]) (aq2 (by rw[←a.len];exact hi))
  exact lt z
 have g4:M2[L.h]?=some (dG n1 L):=by rw[hM _ l4];exact hh1
 refine⟨?_,⟨n0,m0,?_⟩,?_,⟨n2,?_⟩,by simp[a.len],fun i h2 b2 h3 h4=>?_,?_,fun p hp=>?_⟩
 ·show(M2.set L.h _)[L.c]?=_
  rw[bH g4,if_neg (Ne.symm e3),hM _ l1]
  exact a.hc
 ·show(M2.set L.h _)[L.g]?=_
  rw[bH g4,if_neg (Ne.symm e5),hM _ l2]
  exact hg
 ·show(M2.set L.h _)[L.r]?=_
  rw[bH g4,if_neg (Ne.symm e6),hM _ l3]
  exact a.hr
 ·show(M2.set L.h _)[L.h]?=_
  rw[bH g4,if_pos rfl]
 ·have h3:(L.bs++[h])[i]?=some h2:=h3
  have h4:(c.bs++[b])[i]?=some b2:=h4
  by_cases hi:i < L.bs.length
  ·rw[ara hi]at h3
   rw[ara (by rw[←a.len];exact hi)]at h4
   have m:=aq6 h3
   rw[bH g4,if_neg (e7 h2 m).2.2.2,hM _ (lb h2 m)]
   exact a.hb i h2 b2 h3 h4
  ·rw[aro (by omega)]at h3
   rw[aro (by rw[←a.len];omega),←a.len]at h4
   have e0:i - L.bs.length=0:=by
    have:=(aq1.mp h3).1
    simp at this
    omega
   rw[e0]at h3 h4
   cases h3
   cases h4
   exact⟨n,by rw[bH g4,if_neg (by omega)];exact hb⟩
 ·have nd:=a.nd
  show(L.c::L.g::L.r::L.h::(L.bs++[h])).Nodup
  have:(L.c::L.g::L.r::L.h::(L.bs++[h]))=(L.c::L.g::L.r::L.h::L.bs)++[h]:=by simp
  rw[this,arV]
  refine⟨nd,by simp,fun x hx y hy=>?_⟩
  rw[aq7.mp hy]
  rcases arh.mp hx with rfl|hx
  ·omega
  rcases arh.mp hx with rfl|hx
  ·omega
  rcases arh.mp hx with rfl|hx
  ·omega
  rcases arh.mp hx with rfl|hx
  ·omega
  have:=lb x hx
  omega
 ·obtain⟨h1,h2⟩:=a.fr p hp
  have hl:=lt h1
  refine⟨?_,?_⟩
  ·show(M2.set L.h _)[p.1]?=_
   rw[bH g4,if_neg (fun(z:L.h=p.1)=>h2 (by simp[←z])),hM _ hl]
   exact h1
  ·show p.1∉L.c::L.g::L.r::L.h::(L.bs++[h])
   intro z
   have:p.1∈(L.c::L.g::L.r::L.h::L.bs)++[h]:=by simpa using z
   rcases arb.mp this with z|z
   ·exact h2 z
   ·rw[aq7]at z
    omega
section
variable{M:Mo}{L:Lay}{c:aK}(a:At M L c)
include a
theorem W7(i:cZ c)(hf:c.al.length < 200)(x:Int):if 0<=x/\x<=9 then ∃M',fJ M [ob L.g,.int x]=.ok (.int (c.al.length+1)) M'/\At M' L { c with al:=c.al++[x],ci:=c.ci++[[(c.al.length:Int)+1]] } else fJ M [ob L.g,.int x]=.exc ⟨"BadAllowance",[]⟩ M:=by
 obtain⟨n,m,hg⟩:=a.hg
 have hl:∀i,(M.set L.g i)[L.g]?=some i:=fun i=>by rw[bH hg,if_pos rfl]
 by_cases h:0<=x/\x<=9
 ·rw[if_pos h]
  refine⟨_,?_,a.setG (n:=n) (m:=m)⟩
  have h2:c.ci.length < 100000:=by rw[i.len];omega
  have h3:c.al.length < 100000:=by omega
  simp[fJ,jy,qj,uP,eZ,hg,dB,hl,h,ig,h2,h3]
  rfl
 ·rw[if_neg h]
  have:decide (0<=x)=true->decide (x<=9)=false:=by simp;omega
  by_cases h0:0<=x
  ·have h9:¬x<=9:=by omega
   simp[fJ,jy,ig,h0,h9]
  ·simp[fJ,jy,ig,h0]
end
def encl(ci:List (List Int))(l:List Int):List (List Int):=l.foldl (fun s y=>s.set (y - 1).toNat l) ci
theorem wA(l:List Int):∀(k:List Int) (ci:List (List Int)),(k.foldl (fun s y=>s.set (y - 1).toNat l) ci).length=ci.length
 |[],_=>rfl
 |y::k,ci=>by rw[asl,wA l k];simp
@[simp]theorem am1 (n k:Nat):ixN n (k:Int)=if k < n then some k else none:=by
 unfold ixN
 rw[if_pos (by omega)]
 by_cases h:k < n
 ·rw[if_pos (by omega),if_pos h]
  simp
 ·rw[if_neg (by omega),if_neg h]
section
variable{M:Mo}{L:Lay}{c:aK}{n m:Nat}(hg:M[L.g]?=some (dB n m c))
include hg
theorem V4(l:List Int):∀(k:List Int) (s:List (List Int)) (o:Option Cell),(∀y∈k,1<=y/\y<=s.length)->
  ∃o',gR (aF 3) rZ (k.map PyData.int) (M.set L.g (dB n m { c with ci:=s })) [some (.dat (ob L.g)),some (.dat (lI l)),some (.dat (aJ l)),o]=.next [some (.dat (ob L.g)),some (.dat (lI l)),some (.dat (aJ l)),o'] (M.set L.g (dB n m { c with ci:=k.foldl (fun s y=>s.set (y - 1).toNat l) s }))
 |[],s,o,_=>⟨o,rfl⟩
 |y::k,s,o,h=>by
  have hl:∀i,(M.set L.g i)[L.g]?=some i:=fun i=>by rw[bH hg,if_pos rfl]
  obtain⟨j,hj,rfl⟩:∃j:Nat,j < s.length/\y=(j:Int)+1:=⟨(y - 1).toNat,by have:=h y aq4;omega,by have:=h y aq4;omega⟩
  obtain⟨o',ih⟩:=V4 l k (s.set j l) (some (.dat (.int ((j:Int)+1)))) fun z hz=>by
   have:=h z (aq5 _ hz)
   simpa using this
  refine⟨o',?_⟩
  rw[aq3,iD (ρ1:=[some (.dat (ob L.g)),some (.dat (lI l)),some (.dat (aJ l)),some (.dat (.int ((j:Int)+1)))]) (M2:=M.set L.g (dB n m { c with ci:=s.set j l })) (ρ2:=[some (.dat (ob L.g)),some (.dat (lI l)),some (.dat (aJ l)),some (.dat (.int ((j:Int)+1)))]) (by simp) (by simp[rZ,hl,dB,hj,List.map_set]),ih]
  simp
end
theorem Yq{M:Mo}{h:Nat}{i:Inst}(e:M[h]?=some i):M.set h i=M:=by
 apply arx
 intro k
 rw[bH e]
 split
 ·next z=>rw[←z,e]
 ·rfl
section
variable{M:Mo}{L:Lay}{c:aK}(a:At M L c)
include a
theorem Ih(l:List Int)(h:∀y∈l,1<=y/\y<=c.ci.length):∃M',lJ M [ob L.g,lI l]=.ok (lI l) M'/\At M' L { c with ci:=encl c.ci l }:=by
 obtain⟨n,m,hg⟩:=a.hg
 obtain⟨o',key⟩:=V4 hg l l c.ci none h
 have e:(dB n m { c with ci:=c.ci })=dB n m c:=rfl
 rw[e,Yq hg]at key
 refine⟨_,?_,a.setG (n:=n) (m:=m) (al:=c.al)⟩
 simp[lJ,vo,key,encl]
end
theorem any_ints(y:Int)(l:List Int):((l.map PyData.int).any fun d=>PyData.eqv d (.int y))=decide (y∈l):=by
 induction l with
 |nil=>simp
 |cons x l ih=>
  rw[aq3,ar5,ih,YW]
  by_cases h:x=y
  ·simp[h]
  ·have:¬y=x:=fun z=>h z.symm
   simp[h,this]
theorem Hq(neg:Bool)(y:Int)(l:List Int):inD neg (.int y) (lI l)=.ok (.bool (neg ^^ decide (y∈l))):=by
 show(Out.when (okd 12 (.int y)&&mW 12 (l.map PyData.int)) (.ok ((l.map PyData.int).any fun z=>PyData.eqv z (.int y)))).bind _=_
 rw[any_ints,ahl,Vp]
 rfl
section
variable{M:Mo}{L:Lay}{c:aK}(a:At M L c)
include a
theorem abV(i:cZ c)(x y:Int)(hx:Vg c x)(hy:Vg c y):if y∈aH c x then lg M [ob L.g,.int x,.int y]=.exc ⟨"Together",[]⟩ M else
  ∃M',lg M [ob L.g,.int x,.int y]=.ok (lI (sortI (aH c x++aH c y))) M'/\At M' L { c with ci:=encl c.ci (sortI (aH c x++aH c y)) }:=by
 have t1:=vH a i x
 have t2:=vH a i y
 rw[if_pos hx]at t1
 rw[if_pos hy]at t2
 obtain⟨n,m,hg⟩:=a.hg
 have hcx:c.ci[(x - 1).toNat]?=some (aH c x):=by
  obtain⟨k,hk,rfl⟩:=pZ hx
  have hk':k < c.ci.length:=by rw[i.len];exact hk
  simp[aH,hk']
 have hcy:c.ci[(y - 1).toNat]?=some (aH c y):=by
  obtain⟨k,hk,rfl⟩:=pZ hy
  have hk':k < c.ci.length:=by rw[i.len];exact hk
  simp[aH,hk']
 by_cases h:y∈aH c x
 ·rw[if_pos h]
  simp[lg,sY,hg,dB,bD,t1,t2,Hq,h]
 ·rw[if_neg h]
  have hm:∀z∈sortI (aH c x++aH c y),1<=z/\z<=c.ci.length:=fun z hz=>by
   unfold sortI at hz
   rw[List.mem_mergeSort,arb]at hz
   rw[i.len]
   rcases hz with hz|hz
   ·exact i.mem _ _ hcx z hz
   ·exact i.mem _ _ hcy z hz
  obtain⟨M',h1,h2⟩:=Ih a _ hm
  refine⟨M',?_,h2⟩
  have l1:=i.clen hcx
  have l2:=i.clen hcy
  have hs:Jb (lI (aH c x++aH c y))=.ok (lI (sortI (aH c x++aH c y))):=by
   show(match intsOf ((aH c x++aH c y).map PyData.int) with
    |some l=>Out.ok (PyData.list ((sortI l).map PyData.int))
    |none=>_)=_
   rw[mD]
  have hz:(aH c x).length+(aH c y).length<=100000:=by omega
  have hs:Jb (.list ((aH c x).map PyData.int++(aH c y).map PyData.int))=.ok (lI (sortI (aH c x++aH c y))):=by rw[←arG];exact hs
  simp[lg,sY,hg,dB,bD,gM,t1,t2,Hq,h,hz,hs,h1]
theorem adb(i:cZ c)(x:Int):if Vg c x then(if (aH c x).filter (fun y=>!(y==x))=[] then jo M [ob L.g,.int x]=.exc ⟨"Alone",[]⟩ M else
  ∃M',jo M [ob L.g,.int x]=.ok (lI ((aH c x).filter (fun y=>!(y==x)))) M'/\At M' L { c with ci:=encl (encl c.ci [x]) ((aH c x).filter (fun y=>!(y==x))) }) else jo M [ob L.g,.int x]=.exc ⟨"NoGround",[]⟩ M:=by
 have t1:=vH a i x
 obtain⟨n,m,hg⟩:=a.hg
 by_cases hx:Vg c x
 ·rw[if_pos hx]at t1 ⊢
  have hcx:c.ci[(x - 1).toNat]?=some (aH c x):=by
   obtain⟨k,hk,rfl⟩:=pZ hx
   have hk':k < c.ci.length:=by rw[i.len];exact hk
   simp[aH,hk']
  have hl:(aH c x).length<=50000:=by have:=i.clen hcx;omega
  have key:=fW (tg:=aF 3) (tt:=bA (aA Ai (ao 3) (ao 1))) (te:=aq 3) (M:=M) (ρ:=[some (.dat (ob L.g)),some (.dat (.int x)),none,none]) PyData.int (fun y=>!(y==x)) PyData.int (aH c x) fun y _=>⟨[some (.dat (ob L.g)),some (.dat (.int x)),none,some (.dat (.int y))],by simp,by simp,fun _=>by simp⟩
  by_cases he:(aH c x).filter (fun y=>!(y==x))=[]
  ·rw[if_pos he]
   rw[he]at key
   simp only[asf]at key
   simp[jo,qb,hg,dB,bD,t1,key,hl]
  ·rw[if_neg he]
   generalize hL:(aH c x).filter (fun y=>!(y==x))=left at he key
   have hm:∀z∈left,1<=z/\z<=(encl c.ci [x]).length:=fun z hz=>by
    rw[←hL,arp]at hz
    unfold encl
    rw[wA,i.len]
    exact i.mem _ _ hcx z hz.1
   obtain⟨M1,h1,a1⟩:=Ih a [x] (fun z hz=>by rw[aq7.mp hz,i.len];exact hx)
   obtain⟨M2,h2,a2⟩:=Ih a1 left hm
   refine⟨M2,?_,a2⟩
   obtain⟨n1,m1,hg1⟩:=a1.hg
   have h1:lJ M [ob L.g,.list [.int x]]=.ok (.list [.int x]) M1:=h1
   have he':left.isEmpty=false:=by cases left with
    |nil=>exact absurd rfl he
    |cons _ _=>rfl
   simp[jo,qb,hg,hg1,dB,bD,gM,t1,key,hl,h1,h2,he']
 ·rw[if_neg hx]at t1 ⊢
  simp[jo,qb,hg,dB,bD,t1]
end
theorem ahf(o g:Int)(m:List Int)(o' g':Int)(m':List Int):PyData.eqv (iY (o,g,m)) (iY (o',g',m'))=decide ((o,g,m)=(o',g',m')):=by
 simp only[iY,Yt,abl,YW,zM,ahA,Bool.and_true]
 by_cases h1:o=o' <;> by_cases h2:g=g' <;> by_cases h3:m=m' <;> simp[h1,h2,h3]
theorem acM(r s:Row3):PyData.eqv (iY r) (iY s)=decide (r=s):=ahf _ _ _ _ _ _
theorem V2:∀l:List Int,yt (l.map PyData.int)=some (l.map NestedKey.num)
 |[]=>rfl
 |i::l=>by rw[aq3,yt,V2 l];rfl
theorem akx(r:Row3):uG (iY r)=some (.tup [.num r.1,.num r.2.1,.tup (r.2.2.map .num)]):=by
 simp[iY,uG,yt,V2]
theorem depth_ints:∀l:List Int,NestedKey.depthAll (l.map NestedKey.num)<=1
 |[]=>by simp[NestedKey.depthAll]
 |i::l=>by
  have:=depth_ints l
  simp[NestedKey.depthAll,NestedKey.depth]
  omega
theorem Ub(kvs:List (Dat×Dat))(r:Row3):dhas true kvs (iY r)=.ok (kvs.any fun p=>PyData.eqv p.1 (iY r)):=by
 have hk:=akx r
 have hd:NestedKey.depth (.tup [.num r.1,.num r.2.1,.tup (r.2.2.map .num)])<=8:=by
  have:=depth_ints r.2.2
  simp[NestedKey.depth,NestedKey.depthAll]
  omega
 show(match uG (iY r) with
  |some k=>match decide (k.depth<=8) with
   |true=>Out.ok (kvs.any fun p=>PyData.eqv p.1 (iY r))
   |false=>.bad
  |none=>.bad)=_
 rw[hk]
 show(match decide (NestedKey.depth (.tup [.num r.1,.num r.2.1,.tup (r.2.2.map .num)])<=8) with
   |true=>Out.ok (kvs.any fun p=>PyData.eqv p.1 (iY r))
   |false=>.bad)=_
 rw[decide_eq_true hd]
theorem aai(held:List Row3)(r:Row3):((held.map fun r=>(iY r,PyData.bool true)).any fun p=>PyData.eqv p.1 (iY r))=decide (r∈held):=by
 induction held with
 |nil=>simp
 |cons s held ih=>
  rw[aq3,ar5,ih,acM]
  by_cases h:s=r
  ·simp[h]
  ·have:¬r=s:=fun z=>h z.symm
   simp[h,this]
def bU(c:aK)(o g:Int):List (List Int):=(c.held.filter fun r=>(r.1==o)&&(r.2.1==g)).map fun r=>r.2.2
section
variable{M:Mo}{L:Lay}{c:aK}(a:At M L c)(few:c.held.length<=50000)
include a few
theorem Ig(o g:Int):uN M [ob L.r,.int o,.int g]=.ok (.list ((bU c o g).map aJ)):=by
 have hr:=a.hr
 have key:=fW (tg:=bx [3,4,5]) (tt:=jR (bA (aA cC (ao 3) (ao 1))) (bA (aA cC (ao 4) (ao 2)))) (te:=aq 5) (M:=M) (ρ:=[some (.dat (ob L.r)),some (.dat (.int o)),some (.dat (.int g)),none,none,none]) iY (fun r=>(r.1==o)&&(r.2.1==g)) (fun r=>aJ r.2.2) c.held fun r _=>⟨[some (.dat (ob L.r)),some (.dat (.int o)),some (.dat (.int g)),some (.dat (.int r.1)),some (.dat (.int r.2.1)),some (.dat (aJ r.2.2))],by simp[iY],by
  by_cases h:r.1=o <;> simp[h],fun _=>by simp⟩
 have e:(c.held.map fun r=>(iY r,PyData.bool true)).map (·.1)=c.held.map iY:=by simp
 simp[uN,yP,hr,nZ,bU]
 simp[arq,key,few]
theorem Zh(o g:Int):oW M [ob L.r,.int o,.int g]=.ok (.bool (decide (bU c o g≠[]))):=by
 have hr:=a.hr
 have h:=Ig a few o g
 simp[oW,uf,hr,nZ,cI,h,List.length_pos_iff]
theorem WT(near:List Int):nR M [ob L.r,lI near]=.ok (.list ((c.held.filter fun r=>decide (r.2.1∈near)).map fun r=>Ear.rD (r.1,r.2.2))):=by
 have hr:=a.hr
 have key:=fW (tg:=bx [2,3,4]) (tt:=bA (aA (inD false) (ao 3) (ao 1))) (te:=bJ (ak (aq 2) (ak (aq 4) au))) (M:=M) (ρ:=[some (.dat (ob L.r)),some (.dat (lI near)),none,none,none]) iY (fun r=>decide (r.2.1∈near)) (fun r=>Ear.rD (r.1,r.2.2)) c.held fun r _=>⟨[some (.dat (ob L.r)),some (.dat (lI near)),some (.dat (.int r.1)),some (.dat (.int r.2.1)),some (.dat (aJ r.2.2))],by simp[iY],by simp[Hq],fun _=>by simp[Ear.rD,Ear.dT]⟩
 simp[nR,sJ,hr,nZ]
 simp[arq,key,few]
theorem aaI:pP M [ob L.r]=.ok (.list (c.held.map iY)):=by
 have hr:=a.hr
 simp[pP,vm,hr,nZ,arq]
theorem KR(o g:Int)(m:List Int):if (o,g,m)∈c.held then ji M [ob L.r,.int o,.int g,aJ m]=.exc ⟨"HasRight",[]⟩ M else
  ∃M',ji M [ob L.r,.int o,.int g,aJ m]=.ok .none M'/\At M' L { c with held:=c.held++[(o,g,m)] }:=by
 have hr:=a.hr
 have h1:=Ub (c.held.map fun r=>(iY r,PyData.bool true)) (o,g,m)
 rw[aai]at h1
 simp only[iY]at h1
 have f2:c.held.length < 100000:=by omega
 by_cases h:(o,g,m)∈c.held
 ·rw[if_pos h]
  simp[h]at h1
  simp[ji,oO,hr,nZ,iY,h1]
 ·rw[if_neg h]
  refine⟨_,?_,a.ae8⟩
  simp[h]at h1
  simp[ji,oO,hr,nZ,iY,h1,f2]
end
theorem ac2(held:List Row3)(r:Row3):((held.map fun r=>(iY r,PyData.bool true)).filter fun p=>!PyData.eqv p.1 (iY r))=(held.filter fun s=>decide (s≠r)).map fun r=>(iY r,PyData.bool true):=by
 induction held with
 |nil=>rfl
 |cons s held ih=>
  simp only[aq3,arE,acM,ih]
  by_cases h:s=r <;> simp[h]
def Xu(o g:Int)(k:List (List Int))(s:List Row3):List Row3:=k.foldl (fun s mk=>s.filter fun r=>decide (r≠(o,g,mk))) s
section
variable{M:Mo}{L:Lay}{c:aK}(hr:M[L.r]?=some (nZ c))
include hr
theorem V9(o g:Int)(all:List (List Int)):∀(k:List (List Int)) (s:List Row3) (x:Option Cell),k.Nodup->(∀mk∈k,(o,g,mk)∈s)->s.length<=50000->
  ∃x',gR (aF 4) yq (k.map aJ) (M.set L.r (nZ { c with held:=s })) [some (.dat (ob L.r)),some (.dat (.int o)),some (.dat (.int g)),some (.dat (.list (all.map aJ))),x]=.next [some (.dat (ob L.r)),some (.dat (.int o)),some (.dat (.int g)),some (.dat (.list (all.map aJ))),x'] (M.set L.r (nZ { c with held:=Xu o g k s }))
 |[],s,x,_,_,_=>⟨x,rfl⟩
 |mk::k,s,x,nd,h,hf=>by
  have hl:∀i,(M.set L.r i)[L.r]?=some i:=fun i=>by rw[bH hr,if_pos rfl]
  rw[ar0]at nd
  have h1:=Ub (s.map fun r=>(iY r,PyData.bool true)) (o,g,mk)
  rw[aai,decide_eq_true (h mk aq4)]at h1
  have h2:=ac2 s (o,g,mk)
  have f2:s.length<=100000:=by omega
  obtain⟨x',ih⟩:=V9 o g all k (s.filter fun r=>decide (r≠(o,g,mk))) (some (.dat (aJ mk))) nd.2 (fun z hz=>by
   rw[arp]
   refine⟨h z (aq5 _ hz),decide_eq_true fun e=>?_⟩
   have:z=mk:=by simpa using e
   exact nd.1 (this ▸ hz)) (arv (arj _ _) hf)
  refine⟨x',?_⟩
  rw[aq3,iD (ρ1:=[some (.dat (ob L.r)),some (.dat (.int o)),some (.dat (.int g)),some (.dat (.list (all.map aJ))),some (.dat (aJ mk))]) (M2:=M.set L.r (nZ { c with held:=s.filter fun r=>decide (r≠(o,g,mk)) })) (ρ2:=[some (.dat (ob L.r)),some (.dat (.int o)),some (.dat (.int g)),some (.dat (.list (all.map aJ))),some (.dat (aJ mk))]) (by simp) ?_,ih]
  ·rfl
  ·have h1':dhas true (s.map fun r=>(iY r,PyData.bool true)) (.tuple [.int o,.int g,aJ mk])=.ok true:=h1
   have h2':((s.map fun r=>(iY r,PyData.bool true)).filter fun p=>!PyData.eqv p.1 (.tuple [.int o,.int g,aJ mk]))=(s.filter fun s=>decide (s≠(o,g,mk))).map fun r=>(iY r,PyData.bool true):=h2
   simp[yq,hl,nZ,h1',f2]
   rw[h2']
   simp
end
theorem ZS(o g:Int):∀(k:List (List Int)) (s:List Row3),Xu o g k s=s.filter fun r=>decide (∀mk∈k,r≠(o,g,mk))
 |[],s=>(asj.mpr (by simp)).symm
 |mk::k,s=>by
  show Xu o g k (s.filter _)=_
  rw[ZS o g k,arZ]
  congr 1
  funext r
  by_cases h1:r=(o,g,mk) <;> simp[h1]
def dropped(c:aK)(o g:Int):List Row3:=c.held.filter fun r=>!((r.1==o)&&(r.2.1==g))
theorem abX(c:aK)(o g:Int):Xu o g (bU c o g) c.held=dropped c o g:=by
 rw[ZS]
 unfold dropped
 refine List.filter_congr fun r hr=>?_
 obtain⟨x,y,z⟩:=r
 by_cases h:x=o/\y=g
 ·obtain⟨rfl,rfl⟩:=h
  have:z∈bU c x y:=by
   unfold bU
   rw[arf]
   exact⟨(x,y,z),by rw[arp];exact⟨hr,by simp⟩,rfl⟩
  simp
  exact this
 ·have e:(!((x==o)&&(y==g)))=true:=by
   by_cases h1:x=o <;> by_cases h2:y=g <;> simp_all
  have e2:∀mk∈bU c o g,(x,y,z)≠(o,g,mk):=fun mk _ z=>by
   simp at z
   exact h ⟨z.1,z.2.1⟩
  rw[e,decide_eq_true e2]
theorem aaK{c:aK}(h:c.held.Nodup)(o g:Int):(bU c o g).Nodup:=by
 unfold bU
 have h1:(c.held.filter fun r=>(r.1==o)&&(r.2.1==g)).Nodup:=h.filter _
 unfold List.Nodup at h1 ⊢
 rw[List.pairwise_map]
 refine List.Pairwise.imp_of_mem (fun {r s} hr hs ne e=>ne ?_) h1
 rw[arp]at hr hs
 obtain⟨r1,r2,r3⟩:=r
 obtain⟨s1,s2,s3⟩:=s
 have:=hr.2
 have:=hs.2
 simp at *
 obtain⟨rfl,rfl⟩:=hr.2
 obtain⟨rfl,rfl⟩:=hs.2
 exact⟨rfl,rfl,e⟩
section
variable{M:Mo}{L:Lay}{c:aK}(a:At M L c)(few:c.held.length<=50000)(nd:c.held.Nodup)
include a few nd
theorem ahX(o g:Int):if bU c o g=[] then oK M [ob L.r,.int o,.int g]=.exc ⟨"NoRight",[]⟩ M else
  ∃M',oK M [ob L.r,.int o,.int g]=.ok (.list ((bU c o g).map aJ)) M'/\At M' L { c with held:=dropped c o g }:=by
 have hr:=a.hr
 have h1:=Ig a few o g
 by_cases h:bU c o g=[]
 ·rw[if_pos h]
  rw[h]at h1
  simp[oK,vO,hr,nZ,cI,h1]
 ·rw[if_neg h]
  obtain⟨x',key⟩:=V9 hr o g (bU c o g) (bU c o g) c.held none (aaK nd o g) (fun mk hm=>by
   unfold bU at hm
   rw[arf]at hm
   obtain⟨⟨r1,r2,r3⟩,h3,rfl⟩:=hm
   rw[arp]at h3
   have:=h3.2
   simp at this
   obtain⟨rfl,rfl⟩:=this
   exact h3.1) few
  have e:(nZ { c with held:=c.held })=nZ c:=rfl
  rw[e,Yq hr,abX]at key
  refine⟨_,?_,a.ae8⟩
  have he:(bU c o g).isEmpty=false:=by
   cases hm:bU c o g with
   |nil=>exact absurd hm h
   |cons _ _=>rfl
  simp[oK,vO,hr,nZ,cI,h1,he]
  simp[key]
  rfl
end
def Fp(acc:List Row3)(r:Row3):List Row3:=if r∈acc then acc else acc++[r]
def zX(e h:Int)(r:Row3):Row3:=(if r.1=e then h else r.1,r.2.1,r.2.2)
def handed(c:aK)(e h:Int):List Row3:=(c.held.map (zX e h)).foldl Fp []
theorem aaP{tg:fK}{tk:QF}{M:Mo}{ρ:Rf.Env}(f:Row3->Row3):∀(xs acc:List Row3),(∀x∈xs,∃ρ1,tg (iY x) ρ=some ρ1/\tk M ρ1=.ok (iY (f x)))->Ek tg tk M ρ (xs.map iY) (acc.map fun r=>(iY r,PyData.bool true))=.ok (((xs.map f).foldl Fp acc).map fun r=>(iY r,PyData.bool true))
 |[],acc,_=>rfl
 |x::xs,acc,h=>by
  obtain⟨ρ1,h1,h2⟩:=h x aq4
  rw[aq3,Ek,h1]
  show((wZ (tk M ρ1)).bind fun kd=>(dhas true _ kd).bind fun r=>_)=_
  rw[h2,X7,Out.zH,Ub,aai,Out.zH,aq3,asl]
  have ih:=aaP f xs (Fp acc (f x)) fun y hy=>h y (aq5 _ hy)
  unfold Fp at ih ⊢
  by_cases hm:f x∈acc
  ·rw[if_pos hm]at ih ⊢
   rw[decide_eq_true hm]
   exact ih
  ·rw[if_neg hm]at ih ⊢
   rw[decide_eq_false hm]
   rw[arG]at ih
   exact ih
section
variable{M:Mo}{L:Lay}{c:aK}(a:At M L c)(few:c.held.length<=50000)
include a few
theorem ZQ(e h:Int):∃M',oY M [ob L.r,.int e,.int h]=.ok .none M'/\At M' L { c with held:=handed c e h }:=by
 have hr:=a.hr
 have hl:L.r < M.length:=(aq1.mp hr).1
 have hr2:(M++[(⟨"",[]⟩:Inst)])[L.r]?=some (nZ c):=by rw[ara hl];exact hr
 have key:=aaP (tg:=bx [3,4,5]) (tk:=bJ (ak (K6 (bA (aA cC (ao 3) (ao 1))) (aq 2) (aq 3)) (ak (aq 4) (ak (aq 5) au)))) (M:=M) (ρ:=[some (.dat (ob L.r)),some (.dat (.int e)),some (.dat (.int h)),none,none,none]) (zX e h) c.held [] fun r _=>⟨[some (.dat (ob L.r)),some (.dat (.int e)),some (.dat (.int h)),some (.dat (.int r.1)),some (.dat (.int r.2.1)),some (.dat (aJ r.2.2))],by simp[iY],by
  by_cases z:r.1=e <;> simp[z,zX,iY]⟩
 have ex:At (M++[⟨"",[]⟩]) L c:=by
  have lt:∀{k:Nat} {i:Inst},M[k]?=some i->(M++[(⟨"",[]⟩:Inst)])[k]?=some i:=fun z=>by rw[ara (aq1.mp z).1];exact z
  obtain⟨n,m,hg⟩:=a.hg
  obtain⟨n1,hh⟩:=a.hh
  exact⟨lt a.hc,⟨n,m,lt hg⟩,lt a.hr,⟨n1,lt hh⟩,a.len,fun i h b h1 h2=>by
   obtain⟨n2,z⟩:=a.hb i h b h1 h2
   exact⟨n2,lt z⟩,a.nd,fun p hp=>⟨lt (a.fr p hp).1,(a.fr p hp).2⟩⟩
 refine⟨_,?_,ex.ae8⟩
 simp only[asf]at key
 simp[oY,tO,hr,hr2,nZ,j6]
 simp[arq,key,few,handed]
end
@[simp]theorem aoL (n:Nat) (b:cV):(iB n b).cls="Beast":=rfl
theorem aaD{M:Mo}{h n:Nat}{b:cV}(hb:M[h]?=some (iB n b))(s:Sd):ni M [ob h,s.dat]=.ok .none (M.set h (iB n { b with sd:=s })):=by
 have hl:∀i,(M.set h i)[h]?=some i:=fun i=>by rw[bH hb,if_pos rfl]
 simp[ni,qZ,Sd.dat,hb,iB,hl,j6]
theorem YH{M:Mo}{h n:Nat}{b:cV}(hb:M[h]?=some (iB n b)):vL M [ob h]=.ok b.sd.dat:=by
 simp[vL,Bp,Sd.dat,hb,iB]
theorem tR{M:Mo}{h n:Nat}{b:cV}(hb:M[h]?=some (iB n b))(e:En)(he:b.sd.ear.length<=1000)(hf:b.en.length<=50000):mV M [ob h,e.dat]=.ok .none (M.set h (iB n { b with en:=b.en++[e],sd:=go b.sd e })):=by
 have hl:∀i,(M.set h i)[h]?=some i:=fun i=>by rw[bH hb,if_pos rfl]
 have h1:(M.set h (iB n { b with en:=b.en++[e] }))[h]?=some (iB n { b with en:=b.en++[e] }):=hl _
 have h2:=YH h1
 have h3:=gone_ok (M.set h (iB n { b with en:=b.en++[e] })) b.sd e he
 have h4:=aaD h1 (go b.sd e)
 have h5:b.en.length+1 < 100000:=by omega
 have e1:M.set h ⟨"Beast",[("story",.lst n (b.fi.dat::(b.en.map En.dat++[e.dat]))),("mother",.dat (.int b.mo)),("owner",.dat (.int b.sd.o)),("ground",.dat (.int b.sd.g)),("due",.dat (mZ b.sd.due)),("ear",.dat (aJ b.sd.ear)),("alive",.dat (.bool b.sd.al))]⟩=M.set h (iB n { b with en:=b.en++[e] }):=by simp[iB]
 simp[mV,yU,hb,iB,h5]
 rw[e1]
 simp[h1,mO,jM,h2,h3,h4]
 simp[iB]
def akP:Fi->Int
 |.born m _ _=>m
 |_=>0
def yO(f:Fi):cV:=⟨f,[],akP f,beg f⟩
theorem ag4(M:Mo)(f:Fi):uh (M++[⟨"Beast",[]⟩]) [ob M.length,f.dat]=.ok .none (M++[iB (M.length+1) (yO f),⟨"",[]⟩]):=by
 have hbeg:=fun M=>afi M f
 have hg:∀i (r:List Inst),(M++i::r)[M.length]?=some i:=fun i r=>by simp
 have hs:∀i j (r:List Inst),(M++i::r).set M.length j=M++j::r:=fun i j r=>by simp
 cases f <;> simp[uh,Dk,Fi.dat,hg,hs,j6,ni,qZ,jM,Cp,MF,jB,iB,yO,akP,beg,mZ,Fi.dat]
def bV(L:Lay)(c:aK):List (Nat×Nat×cV):=(L.bs.zip c.bs).mapIdx fun i p=>(i,p.1,p.2)
def nb(x:Nat×Nat×cV):Dat:=.tuple [.int ((x.1:Int)+1),ob x.2.1]
theorem Ba{L:Lay}{c:aK}{x:Nat×Nat×cV}(h:x∈bV L c):L.bs[x.1]?=some x.2.1/\c.bs[x.1]?=some x.2.2:=by
 unfold bV at h
 obtain⟨i,hi,e⟩:=List.mem_mapIdx.mp h
 have hz:=aq2 hi
 rw[arN]at hz
 subst e
 exact hz
theorem At.hb'{M:Mo}{L:Lay}{c:aK}(a:At M L c){x:Nat×Nat×cV}(h:x∈bV L c):∃n,M[x.2.1]?=some (iB n x.2.2):=by
 obtain⟨h1,h2⟩:=Ba h
 exact a.hb _ _ _ h1 h2
theorem At.len'{M:Mo}{L:Lay}{c:aK}(a:At M L c):(bV L c).length=c.bs.length:=by
 unfold bV
 simp[a.len]
theorem At.enum{M:Mo}{L:Lay}{c:aK}(a:At M L c):pN 1 (L.bs.map ob)=(bV L c).map nb:=by
 unfold pN bV
 apply arx
 intro i
 simp only[arM,ard]
 by_cases hi:i < L.bs.length
 ·have hi2:i < c.bs.length:=by rw[←a.len];exact hi
  have hz:(L.bs.zip c.bs)[i]?=some (L.bs[i],c.bs[i]):=by
   rw[arN]
   exact⟨aq2 hi,aq2 hi2⟩
  rw[hz]
  simp[hi,nb,Int.add_comm]
 ·have hi2:¬i < c.bs.length:=by rw[←a.len];exact hi
  have:(L.bs.zip c.bs)[i]?=none:=by
   rw[List.getElem?_eq_none_iff,List.length_zip]
   omega
  simp[arC (by omega:L.bs.length<=i),this]
section
variable{M:Mo}{L:Lay}{c:aK}(a:At M L c)(few:c.bs.length<=50000)
include a few
theorem Bc:pK M [ob L.h]=.ok (.list (((bV L c).filter fun x=>x.2.2.sd.al).map nb)):=by
 obtain⟨n,hh⟩:=a.hh
 have hl:=a.len'
 have he:=a.enum
 have key:=fW (tg:=bx [1,2]) (tt:=gY (bF "alive" (ao 2))) (te:=bJ (ak (aq 1) (ak (aq 2) au))) (M:=M) (ρ:=[some (.dat (ob L.h)),none,none]) nb (fun x=>x.2.2.sd.al) nb (bV L c) fun x hx=>⟨[some (.dat (ob L.h)),some (.dat (.int ((x.1:Int)+1))),some (.dat (ob x.2.1))],by simp[nb],by
  obtain⟨n,hb⟩:=a.hb' hx
  simp[hb,iB],fun _=>by simp[nb]⟩
 simp[pK,vf,hh,dG]
 rw[he]
 simp[key,hl,few]
theorem HS(near:List Int):qu M [ob L.h,lI near]=.ok (.list (((bV L c).filter fun x=>decide (x.2.2.sd.g∈near)&&x.2.2.sd.al).map nb)):=by
 obtain⟨n,hh⟩:=a.hh
 have h1:=Bc a few
 have hl:((bV L c).filter fun x=>x.2.2.sd.al).length<=50000:=arv (arj _ _) (by rw[a.len'];exact few)
 have key:=fW (tg:=bx [2,3]) (tt:=bA (aA (inD false) (bF "ground" (ao 3)) (ao 1))) (te:=bJ (ak (aq 2) (ak (aq 3) au))) (M:=M) (ρ:=[some (.dat (ob L.h)),some (.dat (lI near)),none,none]) nb (fun x=>decide (x.2.2.sd.g∈near)) nb ((bV L c).filter fun x=>x.2.2.sd.al) fun x hx=>⟨[some (.dat (ob L.h)),some (.dat (lI near)),some (.dat (.int ((x.1:Int)+1))),some (.dat (ob x.2.1))],by simp[nb],by
  obtain⟨n,hb⟩:=a.hb' (arp.mp hx).1
  simp[hb,iB,Hq],fun _=>by simp[nb]⟩
 rw[arZ]at key
 simp[qu,zu,hh,dG,dO,h1,key,hl]
theorem ae9(o:Int):xq M [ob L.h,.int o]=.ok (.list (((bV L c).filter fun x=>(x.2.2.sd.o==o)&&x.2.2.sd.al).map nb)):=by
 obtain⟨n,hh⟩:=a.hh
 have h1:=Bc a few
 have hl:((bV L c).filter fun x=>x.2.2.sd.al).length<=50000:=arv (arj _ _) (by rw[a.len'];exact few)
 have key:=fW (tg:=bx [2,3]) (tt:=bA (aA cC (bF "owner" (ao 3)) (ao 1))) (te:=bJ (ak (aq 2) (ak (aq 3) au))) (M:=M) (ρ:=[some (.dat (ob L.h)),some (.dat (.int o)),none,none]) nb (fun x=>x.2.2.sd.o==o) nb ((bV L c).filter fun x=>x.2.2.sd.al) fun x hx=>⟨[some (.dat (ob L.h)),some (.dat (.int o)),some (.dat (.int ((x.1:Int)+1))),some (.dat (ob x.2.1))],by simp[nb],by
  obtain⟨n,hb⟩:=a.hb' (arp.mp hx).1
  simp[hb,iB],fun _=>by simp[nb]⟩
 rw[arZ]at key
 simp[xq,CZ,hh,dG,dO,h1,key,hl]
theorem YF(k:Int):kh M [ob L.h,.int k]=if 1<=k/\k<=c.bs.length then .ok (ob ((L.bs[(k - 1).toNat]?).getD 0)) else .exc ⟨"NoBeast",[]⟩:=by
 obtain⟨n,hh⟩:=a.hh
 have hlen:(L.bs.length:Int)=c.bs.length:=by rw[a.len]
 by_cases h:1<=k/\k<=c.bs.length
 ·rw[if_pos h]
  obtain⟨j,rfl⟩:∃j:Nat,k=(j:Int)+1:=⟨(k - 1).toNat,by omega⟩
  have hj:j < L.bs.length:=by have:=a.len;omega
  have h1:(1:Int)<=j+1:=by omega
  have h2:(j:Int)+1<=L.bs.length:=by omega
  simp[kh,tX,hh,dG,h1,h2,hj]
 ·rw[if_neg h]
  by_cases h1:1<=k
  ·have h2:¬k<=L.bs.length:=by omega
   simp[kh,tX,hh,dG,h1,h2]
  ·simp[kh,tX,hh,dG,h1]
end
def bk(c:aK)(k:Int):Option cV:=if 1<=k/\k<=c.bs.length then c.bs[(k - 1).toNat]? else none
def hk(L:Lay)(k:Int):Nat:=(L.bs[(k - 1).toNat]?).getD 0
def mJ(b:cV)(e:En):cV:={ b with en:=b.en++[e],sd:=go b.sd e }
def fH(c:aK)(i:Nat)(e:En):aK:={ c with bs:=c.bs.modify i fun b=>mJ b e }
theorem pW{M:Mo}{L:Lay}{c:aK}(a:At M L c){k:Int}{b:cV}(h:bk c k=some b):1<=k/\k<=c.bs.length/\L.bs[(k - 1).toNat]?=some (hk L k)/\c.bs[(k - 1).toNat]?=some b/\∃n,M[hk L k]?=some (iB n b):=by
 unfold bk at h
 split at h
 ·next hh=>
  have hl:(k - 1).toNat < L.bs.length:=by have:=a.len;omega
  have e:L.bs[(k - 1).toNat]?=some (hk L k):=by
   unfold hk
   rw[aq2 hl]
   rfl
  exact⟨hh.1,hh.2,e,h,a.hb _ _ _ e h⟩
 ·cases h
theorem agR{c:aK}{k:Int}(h:bk c k=none):¬(1<=k/\k<=c.bs.length):=fun z=>by
 unfold bk at h
 rw[if_pos z,List.getElem?_eq_none_iff]at h
 omega
section
variable{M:Mo}{L:Lay}{c:aK}(a:At M L c)(few:c.bs.length<=50000)
include a few
theorem Ju{k:Int}{b:cV}(h:bk c k=some b):kh M [ob L.h,.int k]=.ok (ob (hk L k)):=by
 obtain⟨h1,h2,_⟩:=pW a h
 rw[YF a few,if_pos ⟨h1,h2⟩]
 rfl
theorem Rk{k:Int}(h:bk c k=none):kh M [ob L.h,.int k]=.exc ⟨"NoBeast",[]⟩:=by
 rw[YF a few,if_neg (agR h)]
theorem DW(k:Int):rJ M [ob L.h,.int k]=match bk c k with
  |none=>.exc ⟨"NoBeast",[]⟩
  |some b=>if b.sd.al then .ok (ob (hk L k)) else .exc ⟨"Dead",[]⟩:=by
 obtain⟨n,hh⟩:=a.hh
 cases h:bk c k with
 |none=>
  have h1:=Rk a few h
  simp[rJ,vP,hh,dG,fM,h1]
 |some b=>
  have h1:=Ju a few h
  obtain⟨_,_,_,_,n',hb⟩:=pW a h
  cases h2:b.sd.al <;> simp[rJ,vP,hh,dG,fM,h1,hb,iB,h2]
theorem Ef(k:Int):oA M [ob L.h,.int k]=match bk c k with
  |none=>.exc ⟨"NoBeast",[]⟩
  |some b=>if b.sd.al then(if b.sd.due=none then .exc ⟨"Unmarked",[]⟩ else .ok (ob (hk L k))) else .exc ⟨"Dead",[]⟩:=by
 obtain⟨n,hh⟩:=a.hh
 have h0:=DW a few k
 cases h:bk c k with
 |none=>
  rw[h]at h0
  simp[oA,rE,hh,dG,bG,h0]
 |some b=>
  rw[h]at h0
  obtain⟨_,_,_,_,n',hb⟩:=pW a h
  cases h2:b.sd.al with
  |false=>
   simp[h2]at h0
   simp[oA,rE,hh,dG,bG,h0,h2]
  |true=>
   simp[h2]at h0
   cases h3:b.sd.due <;> simp[oA,rE,hh,dG,bG,h0,hb,iB,h2,h3,mZ,lF]
def uR(k:Int)(b:cV):Bool:=(b.mo==k)&&b.sd.due.isNone
theorem aeD(k:Int):rF M [ob L.h,.int k]=match bk c k with
  |none=>.exc ⟨"NoBeast",[]⟩
  |some _=>.ok (.list (((bV L c).filter fun x=>uR k x.2.2&&x.2.2.sd.al).map nb)):=by
 obtain⟨n,hh⟩:=a.hh
 have h1:=Bc a few
 have hl:((bV L c).filter fun x=>x.2.2.sd.al).length<=50000:=arv (arj _ _) (by rw[a.len'];exact few)
 have key:=fW (tg:=bx [2,3]) (tt:=jR (bA (aA cC (bF "mother" (ao 3)) (ao 1))) (bA (wU false .none (bF "due" (ao 3))))) (te:=bJ (ak (aq 2) (ak (aq 3) au))) (M:=M) (ρ:=[some (.dat (ob L.h)),some (.dat (.int k)),none,none]) nb (fun x=>uR k x.2.2) nb ((bV L c).filter fun x=>x.2.2.sd.al) fun x hx=>⟨[some (.dat (ob L.h)),some (.dat (.int k)),some (.dat (.int ((x.1:Int)+1))),some (.dat (ob x.2.1))],by simp[nb],by
  obtain⟨n,hb⟩:=a.hb' (arp.mp hx).1
  by_cases h2:x.2.2.mo=k <;> cases h3:x.2.2.sd.due <;> simp[hb,iB,uR,h2,h3,mZ,lF],fun _=>by simp[nb]⟩
 rw[arZ]at key
 cases h:bk c k with
 |none=>
  have h2:=Rk a few h
  simp[rF,vN,hh,dG,fM,h2]
 |some b=>
  have h2:=Ju a few h
  simp[rF,vN,hh,dG,fM,dO,h1,h2,key,hl]
theorem Kh(f:Fi)(hf:c.bs.length < 50000):∃M' h,qX M [ob L.h,f.dat]=.ok (.int (c.bs.length+1)) M'/\At M' { L with bs:=L.bs++[h] } { c with bs:=c.bs++[yO f] }:=by
 obtain⟨n,hh⟩:=a.hh
 have hl:L.h < M.length:=(aq1.mp hh).1
 have hi:=ag4 M f
 have hh2:(M++[iB (M.length+1) (yO f),⟨"",[]⟩])[L.h]?=some (dG n L):=by rw[ara hl];exact hh
 have hs:∀i,((M++[iB (M.length+1) (yO f),(⟨"",[]⟩:Inst)]).set L.h i)[L.h]?=some i:=fun i=>by rw[bH hh2,if_pos rfl]
 have hz:c.bs.length < 100000:=by omega
 refine⟨_,M.length,?_,a.amG (M2:=M++[iB (M.length+1) (yO f),⟨"",[]⟩]) (n:=M.length+1) (n2:=n) (aru _) (fun k hk=>by rw[ara hk]) (by simp)⟩
 simp[qX,wF,hh,dG,hi,hh2,hs,hz,a.len]
end
theorem yZ{M:Mo}{L:Lay}{c:aK}(a:At M L c){i h n:Nat}{b:cV}{e:En}(h1:L.bs[i]?=some h)(h2:c.bs[i]?=some b):At (M.set h (iB n (mJ b e))) L (fH c i e):=by
 have:=a.setB (n:=n) (b':=mJ b e) h1
 have hm:c.bs.modify i (fun b=>mJ b e)=c.bs.set i (mJ b e):=by
  apply arx
  intro j
  rw[List.getElem?_modify,ar4]
  by_cases hj:i=j
  ·subst hj
   have hl:=(aq1.mp h2).1
   simp[hl,h2]
   have:=(aq1.mp h2).2
   rw[this]
  ·simp[hj]
 unfold fH
 rw[hm]
 exact this
theorem v8(c:aK)(i j:Nat)(e:En):(fH c i e).bs[j]?=if i=j then(c.bs[j]?).map fun b=>mJ b e else c.bs[j]?:=by
 unfold fH
 simp only[List.getElem?_modify]
 by_cases h:i=j <;> simp[h]
def vq(xs:List (Nat×Nat×cV))(e:En)(c:aK):aK:=xs.foldl (fun c x=>fH c x.1 e) c
theorem Ql{tg:fK}{body:SF}(Q:Rf.Env->Prop)(P:Nat->aK->Prop)(e:En)(L:Lay)(T:Nat):∀(xs:List (Nat×Nat×cV)) (M:Mo) (c:aK) (ρ:Rf.Env) (i:Nat),i+xs.length<=T->At M L c->P i c->Q ρ->
  (∀M c ρ x i,i < T->At M L c->P i c->Q ρ->x∈xs->∃ρ1 ρ2 M2,tg (nb x) ρ=some ρ1/\body M ρ1=.next ρ2 M2/\Q ρ2/\At M2 L (fH c x.1 e)/\P (i+1) (fH c x.1 e))->
  ∃ρ' M',gR tg body (xs.map nb) M ρ=.next ρ' M'/\Q ρ'/\At M' L (vq xs e c)
 |[],M,c,ρ,i,_,a,p,q,_=>⟨ρ,M,rfl,q,a⟩
 |x::xs,M,c,ρ,i,hT,a,p,q,h=>by
  rw[ari]at hT
  obtain⟨ρ1,ρ2,M2,h1,h2,h3,h4,h5⟩:=h M c ρ x i (by omega) a p q aq4
  obtain⟨ρ',M',g1,g2,g3⟩:=Ql Q P e L T xs M2 _ ρ2 (i+1) (by omega) h4 h5 h3 fun M c ρ y i hi a p q hy=>h M c ρ y i hi a p q (aq5 _ hy)
  exact⟨ρ',M',by rw[aq3,iD h1 h2];exact g1,g2,g3⟩
structure KQ(n:Nat)(c:aK):Prop where
 ear:∀b∈c.bs,b.sd.ear.length=6
 en:∀b∈c.bs,b.en.length<=n
theorem akS(s:Sd)(e:En)(he:s.ear.length=6)(h2:match e with|.cut l=>l.length=6|.sold _ l=>l.length=6|_=>True):(go s e).ear.length=6:=by
 cases e <;> simp_all [go,ug]
theorem Ss(e:En):∀(xs:List (Nat×Nat×cV)) (c:aK) (j:Nat),(xs.map (·.1)).Nodup->(vq xs e c).bs[j]?=if j∈xs.map (·.1) then(c.bs[j]?).map fun b=>mJ b e else c.bs[j]?
 |[],c,j,_=>by simp[vq]
 |x::xs,c,j,nd=>by
  rw[aq3,ar0]at nd
  show(vq xs e (fH c x.1 e)).bs[j]?=_
  rw[Ss e xs _ j nd.2,v8]
  by_cases h1:x.1=j
  ·subst h1
   rw[if_neg nd.1,if_pos rfl,if_pos (by simp)]
  ·rw[if_neg h1]
   by_cases h2:j∈xs.map (·.1)
   ·rw[if_pos h2,if_pos (by rw[aq3];exact aq5 _ h2)]
   ·rw[if_neg h2,if_neg (by
     rw[aq3,arh]
     rintro(z|z)
     ·exact h1 z.symm
     ·exact h2 z)]
theorem N5(e:En):∀(xs:List (Nat×Nat×cV)) (c:aK),(vq xs e c)={ c with bs:=(vq xs e c).bs }
 |[],_=>rfl
 |x::xs,c=>by
  show vq xs e (fH c x.1 e)={ c with bs:=(vq xs e (fH c x.1 e)).bs }
  rw[N5 e xs]
  rfl
theorem adX{L:Lay}{c:aK}(p:Nat×Nat×cV->Bool):(((bV L c).filter p).map (·.1)).Nodup:=by
 have h:((bV L c).map (·.1)).Nodup:=by
  have e:(bV L c).map (·.1)=List.range (L.bs.zip c.bs).length:=by
   unfold bV
   apply arx
   intro i
   simp only[ard,arM]
   by_cases hi:i < (L.bs.zip c.bs).length
   ·rw[aq2 hi,List.getElem?_range hi]
    rfl
   ·rw[arC (by omega:(L.bs.zip c.bs).length<=i),arC (by rw[List.length_range];omega:(List.range (L.bs.zip c.bs).length).length<=i)]
    rfl
  rw[e]
  exact List.nodup_range
 exact h.sublist (List.Sublist.map _ List.filter_sublist)
def nH(p:cV->Bool)(e:En)(c:aK):aK:={ c with bs:=c.bs.map fun b=>if p b then mJ b e else b }
theorem VH{M:Mo}{L:Lay}{c:aK}(a:At M L c)(p:cV->Bool)(e:En):vq ((bV L c).filter fun x=>p x.2.2) e c=nH p e c:=by
 rw[N5]
 unfold nH
 congr 1
 apply arx
 intro j
 rw[Ss _ _ _ _ (adX _),ard]
 by_cases hj:j < c.bs.length
 ·have hb:=aq2 hj
  rw[hb]
  have hl:j < L.bs.length:=by rw[a.len];exact hj
  have mem:(j,L.bs[j],c.bs[j])∈bV L c:=by
   unfold bV
   rw[List.mem_mapIdx]
   refine⟨j,by simp;omega,by simp⟩
  by_cases hp:p c.bs[j]=true
  ·have:j∈((bV L c).filter fun x=>p x.2.2).map (·.1):=arf.mpr ⟨_,arp.mpr ⟨mem,hp⟩,rfl⟩
   rw[if_pos this]
   simp[hp]
  ·have:j∉((bV L c).filter fun x=>p x.2.2).map (·.1):=fun z=>by
    obtain⟨x,h1,h2⟩:=arf.mp z
    obtain⟨h3,h4⟩:=arp.mp h1
    obtain⟨_,h5⟩:=Ba h3
    rw[h2,hb]at h5
    rw[←arn h5]at h4
    exact hp h4
   rw[if_neg this]
   simp[hp]
 ·rw[arC (by omega:c.bs.length<=j)]
  simp
theorem KQ.step{n:Nat}{c:aK}(bi:KQ n c)(i:Nat)(e:En)(h2:match e with|.cut l=>l.length=6|.sold _ l=>l.length=6|_=>True):KQ (n+1) (fH c i e):=by
 have key:∀b∈(fH c i e).bs,b∈c.bs∨∃b0∈c.bs,b=mJ b0 e:=fun b hb=>by
  obtain⟨j,hj⟩:=List.mem_iff_getElem?.mp hb
  rw[v8]at hj
  split at hj
  ·obtain⟨b0,h3,h4⟩:=arI.mp hj
   exact .inr ⟨b0,aq6 h3,h4.symm⟩
  ·exact .inl (aq6 hj)
 refine⟨fun b hb=>?_,fun b hb=>?_⟩
 ·rcases key b hb with h|⟨b0,h,rfl⟩
  ·exact bi.ear b h
  ·exact akS _ _ (bi.ear b0 h) h2
 ·rcases key b hb with h|⟨b0,h,rfl⟩
  ·have:=bi.en b h
   omega
  ·have:=bi.en b0 h
   simp[mJ]
   omega
section
variable{M:Mo}{L:Lay}{c:aK}(a:At M L c)(few:c.bs.length<=1000){n:Nat}(bi:KQ n c)(hn:n<=40000)
include a few bi hn
theorem Gp(k:Int){b:cV}(hk':bk c k=some b):∃M',pB M [ob L.h,.int k]=.ok .none M'/\At M' L (nH (fun x=>uR k x&&x.sd.al) (.followed b.sd.o b.sd.g) c):=by
 obtain⟨m,hh⟩:=a.hh
 have few2:c.bs.length<=50000:=by omega
 have h1:=Ju a few2 hk'
 have h2:=aeD a few2 k
 rw[hk']at h2
 obtain⟨k1,k2,k3,k4,k5⟩:=pW a hk'
 have hlen:((bV L c).filter fun x=>uR k x.2.2&&x.2.2.sd.al).length<=1000:=arv (arj _ _) (by rw[a.len'];exact few)
 obtain⟨ρ',M',g1,g2,g3⟩:=Ql (tg:=bx [3,4]) (body:=qP) (fun ρ=>∃x y,ρ=[some (.dat (ob L.h)),some (.dat (.int k)),some (.dat (ob (hk L k))),x,y])
  (fun i c1=>(∃b1,c1.bs[(k - 1).toNat]?=some b1/\b1.sd.o=b.sd.o/\b1.sd.g=b.sd.g)/\KQ (n+i) c1/\c1.bs.length=c.bs.length) (.followed b.sd.o b.sd.g) L 1000 ((bV L c).filter fun x=>uR k x.2.2&&x.2.2.sd.al) M c [some (.dat (ob L.h)),some (.dat (.int k)),some (.dat (ob (hk L k))),none,none] 0 (by omega) a ⟨⟨b,k4,rfl,rfl⟩,bi,rfl⟩ ⟨none,none,rfl⟩ (fun M1 c1 ρ x i hi a1 p1 q1 hx=>by
   obtain⟨⟨bm,m1,m2,m3⟩,bi1,l1⟩:=p1
   obtain⟨x0,y0,rfl⟩:=q1
   obtain⟨nm,hm⟩:=a1.hb _ _ _ k3 m1
   obtain⟨e1,e2⟩:=Ba (arp.mp hx).1
   have hl:x.1 < c1.bs.length:=by rw[l1];exact(aq1.mp e2).1
   have e3:=aq2 hl
   obtain⟨nx,hx1⟩:=a1.hb _ _ _ e1 e3
   have mem:=arU hl
   have hb:=tR hx1 (.followed b.sd.o b.sd.g) (by rw[bi1.ear _ mem];decide) (by have:=bi1.en _ mem;omega)
   refine⟨[some (.dat (ob L.h)),some (.dat (.int k)),some (.dat (ob (hk L k))),some (.dat (.int ((x.1:Int)+1))),some (.dat (ob x.2.1))],[some (.dat (ob L.h)),some (.dat (.int k)),some (.dat (ob (hk L k))),some (.dat (.int ((x.1:Int)+1))),some (.dat (ob x.2.1))],_,by simp[nb],?_,⟨_,_,rfl⟩,yZ (n:=nx) a1 e1 e3,?_,bi1.step _ _ trivial,by simp[fH,l1]⟩
   ·have hb:mV M1 [ob x.2.1,.tuple [.str "followed",.int b.sd.o,.int b.sd.g]]=_:=hb
    simp[qP,hx1,hm,bO]
    simp[iB]at hb ⊢
    simp[m2,m3,hb,mJ]
   ·rw[v8,m1]
    by_cases z:x.1=(k - 1).toNat
    ·exact⟨mJ bm (.followed b.sd.o b.sd.g),by rw[if_pos z];rfl,rfl,rfl⟩
    ·exact⟨bm,by rw[if_neg z],m2,m3⟩)
 rw[VH a (fun x=>uR k x&&x.sd.al)]at g3
 refine⟨M',?_,g3⟩
 simp[pB,tL,hh,dG,fM,yN,h1,h2,g1]
end
def pD(p:Int×Int):Dat:=.tuple [.int p.1,.int p.2]
theorem zE:∀(x y:List Int),xU (x.map PyData.int) (y.map PyData.int)=(x.zip y).map pD
 |[],_=>by simp[xU]
 |_::_,[]=>by simp[xU]
 |a::x,b::y=>by
  have:=zE x y
  unfold xU at this ⊢
  rw[aq3,aq3,List.zipWith_cons_cons,this,arP,aq3]
  rfl
def eV(x y:List Int):Int:=(((x.zip y).filter fun p=>decide (p.1 < p.2)).map fun p=>p.2 - p.1).sum
def gq(x y:List Int):Int:=if eV y x > eV x y then eV y x else eV x y
def jX(x y:List Int):List Int:=(x.zip y).map fun p=>if p.2 > p.1 then p.2 else p.1
theorem aib(x y:List Int)(h:x.length<=1000):(x.zip y).length<=50000:=by
 rw[List.length_zip]
 omega
theorem WD(l:List Int):TQ (.list (l.map PyData.int))=.ok (.int l.sum):=by
 show(match intsOf (l.map PyData.int) with
  |some ns=>Out.ok (PyData.int ns.sum)
  |none=>.bad)=_
 rw[mD]
theorem Dg(M:Mo)(x y:List Int)(h:x.length<=1000):lu M [aJ x,aJ y]=.ok (.int (eV x y)):=by
 have key:=fW (tg:=bx [2,3]) (tt:=bA (aA Z6 (ao 3) (ao 2))) (te:=aA mF (ao 3) (ao 2)) (M:=M) (ρ:=[some (.dat (aJ x)),some (.dat (aJ y)),none,none]) pD (fun p=>decide (p.1 < p.2)) (fun p=>.int (p.2 - p.1)) (x.zip y) fun p _=>⟨[some (.dat (aJ x)),some (.dat (aJ y)),some (.dat (.int p.1)),some (.dat (.int p.2))],by simp[pD],by simp,fun _=>by simp⟩
 have hz:=aib x y h
 have hs:=WD (((x.zip y).filter fun p=>decide (p.1 < p.2)).map fun p=>p.2 - p.1)
 rw[arA]at hs
 have hz2:min x.length y.length<=50000:=by omega
 simp[lu,Tq,zE,key,hz2]
 simp[arq]at hs
 simp[hs,eV]
theorem afC(M:Mo)(x y:List Int)(h:x.length<=1000)(h2:y.length<=1000):HD M [aJ x,aJ y]=.ok (.int (gq x y)):=by
 simp[HD,U8,Dg M x y h,Dg M y x h2,gq]
theorem QM(x y:List Int):gq x y=gq y x:=by
 unfold gq
 split <;> split <;> omega
theorem Tf(M:Mo)(x y:List Int)(r:Int)(h:x.length<=1000)(h2:y.length<=1000):rG M [aJ x,aJ y,.int r]=.ok (.bool (decide (gq x y<=r))):=by
 simp[rG,XH,afC M x y h h2]
theorem Je(M:Mo)(x y:List Int)(h:x.length<=1000):qp M [aJ x,aJ y]=.ok (aJ (jX x y)):=by
 have key:=dW (tg:=bx [2,3]) (te:=aA sU (ao 2) (ao 3)) (M:=M) (ρ:=[some (.dat (aJ x)),some (.dat (aJ y)),none,none]) pD (fun p=>.int (if p.2 > p.1 then p.2 else p.1)) (x.zip y) fun p _=>⟨[some (.dat (aJ x)),some (.dat (aJ y)),some (.dat (.int p.1)),some (.dat (.int p.2))],by simp[pD],by simp⟩
 have hz2:min x.length y.length<=50000:=by omega
 simp[qp,TV,zE,key,hz2,jX]
abbrev Rw:=Ear.Rw
theorem Vi:∀R:List Rw,Et (R.map Ear.rD)=some R
 |[]=>rfl
 |r::R=>by
  rw[aq3,Et,Vi R]
  have:acF (Ear.rD r)=some r:=by
   unfold Ear.rD Ear.dT
   show(intsOf (r.2.map PyData.int)).map _=_
   rw[mD]
   rfl
  rw[this]
  rfl
theorem Le(M:Mo)(R:List Rw)(h:R.eraseDups.length<=76):qQ M [.list (R.map Ear.rD)]=.ok (.list ((bK R).map Ear.rD)):=by
 have:RK (.list (R.map Ear.rD))=.ok (.list ((bK R).map Ear.rD)):=by
  show(match Et (R.map Ear.rD) with
   |some R=>match decide (R.eraseDups.length<=76) with
    |true=>Out.ok (PyData.list ((bK R).map Ear.rD))
    |false=>.bad
   |none=>.bad)=_
  rw[Vi]
  show(match decide (R.eraseDups.length<=76) with
    |true=>Out.ok (PyData.list ((bK R).map Ear.rD))
    |false=>.bad)=_
  rw[decide_eq_true h]
 simp[qQ,PB,this]
theorem qI(R:List Rw):(bK R).length=R.eraseDups.length:=by
 unfold bK Ri
 rw[List.length_mergeSort]
def wz(o:Int)(e:List Int)(R:List Rw)(room:Int):List Rw:=(bK R).filter fun r=>!(r.1==o)&&decide (gq e r.2<=room)
def sV(R:List Rw):Prop:=∀r∈R,r.2.length=6
theorem acu(M:Mo)(o:Int)(e:List Int)(R:List Rw)(room:Int)(he:e.length=6)(hR:sV R)(h:R.eraseDups.length<=76):Am M [.int o,aJ e,.list (R.map Ear.rD),.int room]=.ok (.list ((wz o e R room).map Ear.rD)):=by
 have ht:=Le M R h
 have hl:(bK R).length<=50000:=by rw[qI];omega
 have key:=fW (tg:=bx [4,5]) (tt:=jR (bA (aA Ai (ao 4) (ao 0))) (gY (aZ rG (ak (aq 1) (ak (aq 5) (ak (aq 3) au)))))) (te:=bJ (ak (aq 4) (ak (aq 5) au))) (M:=M) (ρ:=[some (.dat (.int o)),some (.dat (aJ e)),some (.dat (.list (R.map Ear.rD))),some (.dat (.int room)),none,none]) Ear.rD (fun r=>!(r.1==o)&&decide (gq e r.2<=room)) Ear.rD (bK R) fun r hr=>⟨[some (.dat (.int o)),some (.dat (aJ e)),some (.dat (.list (R.map Ear.rD))),some (.dat (.int room)),some (.dat (.int r.1)),some (.dat (aJ r.2))],by simp[Ear.rD,Ear.dT],by
  have:=Tf M e r.2 room (by omega) (by rw[hR r (dZ.mp hr)];decide)
  by_cases hz:r.1=o <;> simp[this,hz],fun _=>by simp[Ear.rD,Ear.dT]⟩
 simp[Am,Kw,ht,key,hl,wz]
theorem N8(M:Mo)(o:Int)(e:List Int)(R:List Rw)(room:Int)(he:e.length=6)(hR:sV R)(h:R.eraseDups.length<=76):oU M [.int o,aJ e,.list (R.map Ear.rD),.int room]=match wz o e R room with
  |[]=>.ok .none
  |r::_=>.exc ⟨"Clash",[("ear",aJ (jX e r.2)),("others",Ear.rD r),("ones",Ear.rD (o,e))]⟩:=by
 have hb:=acu M o e R room he hR h
 cases hx:wz o e R room with
 |nil=>
  rw[hx]at hb
  simp[oU,BZ,hb]
 |cons r rs=>
  rw[hx]at hb
  have hj:=Je M e r.2 (by omega)
  simp[oU,BZ,hb]
  simp[Ear.rD,Ear.dT,hj]
theorem Jr{α β:Type}{tg tg1:fK}{tt tt1:QT}{it1:IF}{vs1:List Nat}{te:QF}{M:Mo}{ρ:Rf.Env}(ds:α->Dat)(ys:α->List β)(ds1:β->Dat)(p:α->β->Bool)(f:α->β->Dat):∀(xs:List α),(∀x∈xs,∃ρ1,tg (ds x) ρ=some ρ1/\tt M ρ1=.ok true/\zL ρ1=true/\it1 M ρ1=.ok ((ys x).map ds1)/\∀y∈ys x,∃ρ2,tg1 (ds1 y) (bT ρ1 vs1)=some ρ2/\tt1 M ρ2=.ok (p x y)/\(p x y=true->te M ρ2=.ok (f x y)))->
  iz tg tt it1 tg1 vs1 tt1 te M ρ (xs.map ds)=.ok (xs.flatMap fun x=>((ys x).filter (p x)).map (f x))
 |[],_=>rfl
 |x::xs,h=>by
  obtain⟨ρ1,h1,h2,h3,h4,h5⟩:=h x aq4
  have ih:=Jr ds ys ds1 p f xs fun y hy=>h y (aq5 _ hy)
  have hc:=fW (tg:=tg1) (tt:=tt1) (te:=te) (M:=M) (ρ:=bT ρ1 vs1) ds1 (p x) (f x) (ys x) h5
  rw[aq3,iz,h1]
  show((wZ (tt M ρ1)).bind fun b=>if b=true then Out.when (zL ρ1) ((wZ (it1 M ρ1)).bind fun es=>(cO tg1 tt1 te M (bT ρ1 vs1) es).bind fun r1=>(iz tg tt it1 tg1 vs1 tt1 te M ρ (xs.map ds)).bind fun r=>Out.ok (r1++r)) else iz tg tt it1 tg1 vs1 tt1 te M ρ (xs.map ds))=_
  rw[h2,X7,Out.zH,if_pos rfl,h3,Out.Vr,h4,X7,Out.zH,hc,Out.zH,ih,Out.zH,List.flatMap_cons]
def dw(x:List Int):Bool:=decide (x.length=6)&&x.all fun d=>decide (0<=d)&&decide (d<=9)
theorem Ac(l:List Bool):qU (l.map PyData.bool)=some l:=by
 induction l with
 |nil=>rfl
 |cons b l ih=>rw[aq3,qU,ih];rfl
theorem Vt(M:Mo)(x:List Int)(h:x.length<=1000):ux M [aJ x]=.ok (.bool (dw x)):=by
 have key:=dW (tg:=aF 1) (te:=Wu (pq rN rN (qC (.int 0)) (ao 1) (qC cR))) (M:=M) (ρ:=[some (.dat (aJ x)),none]) PyData.int (fun d=>.bool (decide (0<=d)&&decide (d<=9))) x fun d _=>⟨[some (.dat (aJ x)),some (.dat (.int d))],by simp,by
  by_cases h0:0<=d <;> simp[h0,cR]⟩
 have ha:Jp (.list (x.map fun d=>PyData.bool (decide (0<=d)&&decide (d<=9))))=.ok (.bool (x.all fun d=>decide (0<=d)&&decide (d<=9))):=by
  have e:(x.map fun d=>PyData.bool (decide (0<=d)&&decide (d<=9)))=(x.map fun d=>decide (0<=d)&&decide (d<=9)).map PyData.bool:=by rw[arA];rfl
  rw[e]
  show(match qU _ with
   |some bs=>Out.ok (PyData.bool (bs.all id))
   |none=>.bad)=_
  rw[Ac]
  simp[List.all_map,arq]
 have hl:x.length<=50000:=by omega
 by_cases h6:x.length=6
 ·have h6':((x.length:Int)==6)=true:=by simp[h6]
  simp[ux,Jw,jc,key,hl,ha,dw,h6]
 ·have h6':¬(x.length:Int)=6:=by omega
  simp[ux,Jw,jc,dw,h6,h6']
theorem Oa(M:Mo)(x:List Int)(h:x.length<=1000):qR M [aJ x]=if dw x then .ok .none else .exc ⟨"BadEar",[]⟩:=by
 have:=Vt M x h
 cases hb:dw x <;> simp[qR,Io,this,hb]
def pairD(p:Rw×Rw):Dat:=.tuple [Ear.rD p.1,Ear.rD p.2]
def jL(T:List Rw)(room:Int):List (Rw×Rw):=(T.mapIdx fun i r=>(i,r)).flatMap fun x=>((T.drop (x.1+1)).filter fun s=>!(x.2.1==s.1)&&decide (gq x.2.2 s.2<=room)).map fun s=>(x.2,s)
theorem aat(T:List Rw)(room:Int):(jL T room).length<=T.length * T.length:=by
 unfold jL
 rw[List.length_flatMap]
 have key:∀(l:List (Nat×Rw)),(l.map fun x=>(((T.drop (x.1+1)).filter fun s=>!(x.2.1==s.1)&&decide (gq x.2.2 s.2<=room)).map fun s=>(x.2,s)).length).sum<=l.length * T.length:=by
  intro l
  induction l with
  |nil=>simp
  |cons x l ih=>
   rw[aq3,List.sum_cons,ari,Nat.add_mul,Nat.one_mul]
   have:(((T.drop (x.1+1)).filter fun s=>!(x.2.1==s.1)&&decide (gq x.2.2 s.2<=room)).map fun s=>(x.2,s)).length<=T.length:=by
    rw[aq9]
    refine arv (arj _ _) ?_
    rw[asu]
    omega
   omega
 have:=key (T.mapIdx fun i r=>(i,r))
 rw[List.length_mapIdx]at this
 exact this
theorem aav(M:Mo)(R:List Rw)(room:Int)(hR:sV R)(h:R.eraseDups.length<=76):uQ M [.list (R.map Ear.rD),.int room]=.ok (.list ((jL (bK R) room).map pairD)):=by
 have ht:=Le M R h
 have hl:(bK R).length<=76:=by rw[qI];exact h
 have hE:∀r∈bK R,r.2.length=6:=fun r hr=>hR r (dZ.mp hr)
 generalize bK R=T at ht hl hE
 have he:pN 0 (T.map Ear.rD)=(T.mapIdx fun i r=>(i,r)).map fun(x:Nat×Rw)=>PyData.tuple [.int x.1,Ear.rD x.2]:=by
  unfold pN
  apply arx
  intro i
  simp
  cases T[i]? <;> simp
 have key:=Jr (tg:=bx [3,4]) (tg1:=aF 5) (tt:=gJ) (it1:=cU (Qn (ao 2) (tK (aA fD (ao 3) (qC (.int 1)))) Dd)) (vs1:=[5]) (tt1:=jR (bA (aA Ai (aA aW (ao 4) (qC (.int 0))) (aA aW (ao 5) (qC (.int 0))))) (gY (aZ rG (ak (aA aW (ao 4) (qC (.int 1))) (ak (aA aW (ao 5) (qC (.int 1))) (ak (aq 1) au)))))) (te:=bJ (ak (aq 4) (ak (aq 5) au))) (M:=M) (ρ:=[some (.dat (.list (R.map Ear.rD))),some (.dat (.int room)),some (.dat (.list (T.map Ear.rD))),none,none,none])
  (fun(x:Nat×Rw)=>PyData.tuple [.int x.1,Ear.rD x.2]) (fun x=>T.drop (x.1+1)) Ear.rD (fun x s=>!(x.2.1==s.1)&&decide (gq x.2.2 s.2<=room)) (fun x s=>pairD (x.2,s)) (T.mapIdx fun i r=>(i,r)) fun x hx=>⟨[some (.dat (.list (R.map Ear.rD))),some (.dat (.int room)),some (.dat (.list (T.map Ear.rD))),some (.dat (.int x.1)),some (.dat (Ear.rD x.2)),none],by simp,rfl,rfl,by
   have:=Zj (T.map Ear.rD) (x.1+1)
   simp at this ⊢
   rw[this],fun s hs=>⟨[some (.dat (.list (R.map Ear.rD))),some (.dat (.int room)),some (.dat (.list (T.map Ear.rD))),some (.dat (.int x.1)),some (.dat (Ear.rD x.2)),some (.dat (Ear.rD s))],by simp,by
   obtain⟨i,hi,rfl⟩:=List.mem_mapIdx.mp hx
   have h1:=hE _ (arU hi)
   have h2:=hE s (List.mem_of_mem_drop hs)
   have:=Tf M (T[i]).2 s.2 room (by omega) (by omega)
   by_cases hz:(T[i]).1=s.1 <;> simp[Ear.rD,Ear.dT,this,hz],fun _=>by simp[pairD]⟩⟩
 have e2:((T.mapIdx fun i r=>(i,r)).flatMap fun x=>((T.drop (x.1+1)).filter fun s=>!(x.2.1==s.1)&&decide (gq x.2.2 s.2<=room)).map fun s=>pairD (x.2,s))=(jL T room).map pairD:=by
  unfold jL
  rw[List.map_flatMap]
  congr 1
  funext x
  rw[arA]
  rfl
 rw[e2]at key
 have hc:(jL T room).length<=50000:=by
  have:=aat T room
  have:T.length * T.length<=76 * 76:=Nat.mul_le_mul hl hl
  omega
 simp[uQ,Jl,ht]
 rw[he]
 simp[key,hc]
def hdD(x:List Int×Int):Dat:=.tuple [aJ x.1,.int x.2]
def Lj(d l:Int):Int:=(if 9 < d+l then 9 else d+l)+1
def BR(d l:Int):List Int:=(List.range (Lj d l - d).toNat).map fun(i:Nat)=>d+(i:Int)
def stepT(d:Int)(H:List (List Int×Int)):List (List Int×Int):=H.flatMap fun x=>(BR d x.2).map fun cut=>(x.1++[cut],x.2 - (cut - d))
structure PL(k:Nat)(H:List (List Int×Int)):Prop where
 len:H.length<=4 ^ k
 left:∀x∈H,0<=x.2/\x.2<=3
 hd:∀x∈H,x.1.length=k/\∀y∈x.1,0<=y/\y<=9
theorem adM{d l:Int}(hl:0<=l/\l<=3):(BR d l).length<=4:=by
 unfold BR Lj
 simp
 split <;> omega
theorem Vn{d l y:Int}(h:y∈BR d l):d<=y/\y<=d+l/\y<=9:=by
 unfold BR Lj at h
 obtain⟨i,hi,rfl⟩:=arf.mp h
 rw[List.mem_range]at hi
 split at hi <;> omega
theorem Vv{k:Nat}{H:List (List Int×Int)}{d:Int}(i:PL k H)(hd:0<=d/\d<=9):PL (k+1) (stepT d H):=by
 refine⟨?_,fun x hx=>?_,fun x hx=>?_⟩
 ·have key:∀l:List (List Int×Int),(∀x∈l,0<=x.2/\x.2<=3)->(stepT d l).length<=l.length * 4:=by
   intro l
   induction l with
   |nil=>intro _;simp[stepT]
   |cons x l ih=>
    intro h
    have h1:=ih fun y hy=>h y (aq5 _ hy)
    have h2:=adM (d:=d) (h x aq4)
    unfold stepT at h1 ⊢
    rw[List.flatMap_cons,arT,aq9,ari]
    omega
  have:=key H i.left
  have:=i.len
  rw[Nat.pow_succ]
  omega
 ·unfold stepT at hx
  obtain⟨y,hy,hx⟩:=List.mem_flatMap.mp hx
  obtain⟨c,hc,rfl⟩:=arf.mp hx
  have:=Vn hc
  have:=i.left y hy
  show 0<=y.2 - (c - d)/\y.2 - (c - d)<=3
  omega
 ·unfold stepT at hx
  obtain⟨y,hy,hx⟩:=List.mem_flatMap.mp hx
  obtain⟨c,hc,rfl⟩:=arf.mp hx
  have:=Vn hc
  obtain⟨h1,h2⟩:=i.hd y hy
  refine⟨by simp[h1],fun z hz=>?_⟩
  rcases arb.mp hz with hz|hz
  ·exact h2 z hz
  ·rw[aq7.mp hz]
   omega
theorem adH(M:Mo)(e m:Option Cell)(he:zL [e,m]=true){k:Nat}{H:List (List Int×Int)}{d:Int}(i:PL k H)(hk:k<=5)(hd:0<=d/\d<=9):CT M [e,m,some (.dat (.list (H.map hdD))),some (.dat (.int d)),none,none,none]=.next [e,m,some (.dat (.list ((stepT d H).map hdD))),some (.dat (.int d)),none,none,none] M:=by
 have key:=Jr (tg:=bx [4,5]) (tg1:=aF 6) (tt:=gJ) (it1:=Cu (ao 3) (aA fD (aA Jt (aA fD (ao 3) (ao 5)) (qC cR)) (qC (.int 1)))) (vs1:=[6]) (tt1:=gJ) (te:=bJ (ak (aA fD (ao 4) (bJ (ak (aq 6) au))) (ak (aA mF (ao 5) (aA mF (ao 6) (ao 3))) au))) (M:=M) (ρ:=[e,m,some (.dat (.list (H.map hdD))),some (.dat (.int d)),none,none,none])
  hdD (fun x=>BR d x.2) PyData.int (fun _ _=>true) (fun x c=>hdD (x.1++[c],x.2 - (c - d))) H fun x hx=>⟨[e,m,some (.dat (.list (H.map hdD))),some (.dat (.int d)),some (.dat (aJ x.1)),some (.dat (.int x.2)),none],by simp[hdD],rfl,by
   simp[zL]at he ⊢
   exact he,by
   have hl:=i.left x hx
   have hz:Lj d x.2<=100000/\-100000<=Lj d x.2/\d<=100000/\-100000<=d:=by unfold Lj;split <;> omega
   have e1:gQ d (Lj d x.2 - d).toNat=(BR d x.2).map PyData.int:=by
    unfold gQ BR
    rw[arA]
    rfl
   have e2:(if 9 < d+x.2 then(9:Int) else d+x.2)+1=Lj d x.2:=rfl
   simp[cR,e2,e1,hz],fun c hc=>⟨[e,m,some (.dat (.list (H.map hdD))),some (.dat (.int d)),some (.dat (aJ x.1)),some (.dat (.int x.2)),some (.dat (.int c))],by simp,rfl,fun _=>by
   have h1:=(i.hd x hx).1
   have h2:x.1.length+1<=100000:=by omega
   simp[hdD,h2]⟩⟩
 have e2:(H.flatMap fun x=>((BR d x.2).filter fun _=>true).map fun c=>hdD (x.1++[c],x.2 - (c - d)))=(stepT d H).map hdD:=by
  unfold stepT
  rw[List.map_flatMap]
  congr 1
  funext x
  rw[asj.mpr (fun _ _=>rfl),arA]
  rfl
 rw[e2]at key
 have hl:(stepT d H).length<=50000:=by
  have:=(Vv i hd).len
  have:4 ^ (k+1)<=4 ^ 6:=Nat.pow_le_pow_right (by decide) (by omega)
  omega
 simp[CT,key,hl]
theorem Kv(M:Mo)(e m:Option Cell)(he:zL [e,m]=true):∀(ear:List Int) (k:Nat) (H:List (List Int×Int)) (o:Option Cell),PL k H->k+ear.length<=6->(∀d∈ear,0<=d/\d<=9)->
  (∃o',gR (aF 3) CT (ear.map PyData.int) M [e,m,some (.dat (.list (H.map hdD))),o,none,none,none]=.next [e,m,some (.dat (.list ((ear.foldl (fun H d=>stepT d H) H).map hdD))),o',none,none,none] M)/\PL (k+ear.length) (ear.foldl (fun H d=>stepT d H) H)
 |[],k,H,o,i,_,_=>⟨⟨o,rfl⟩,i⟩
 |d::ear,k,H,o,i,hk,hd=>by
  rw[ari]at hk
  have h1:=hd d aq4
  obtain⟨⟨o',ih⟩,i2⟩:=Kv M e m he ear (k+1) (stepT d H) (some (.dat (.int d))) (Vv i h1) (by omega) fun y hy=>hd y (aq5 _ hy)
  refine⟨⟨o',?_⟩,?_⟩
  ·rw[aq3,iD (ρ1:=[e,m,some (.dat (.list (H.map hdD))),some (.dat (.int d)),none,none,none]) (by simp) (adH M e m he i (by omega) h1),ih]
   rfl
  ·rw[ari,show k+(ear.length+1)=k+1+ear.length by omega]
   exact i2
def Ey(ear:List Int)(many:Int):List (List Int):=(ear.foldl (fun H d=>stepT d H) [([],many)]).map (·.1)
theorem aei{many:Int}(hm:0<=many/\many<=3):PL 0 [([],many)]:=⟨by simp,fun x hx=>by rw[aq7.mp hx];exact hm,fun x hx=>by rw[aq7.mp hx];simp⟩
theorem OJ{ear:List Int}{many:Int}(he:dw ear=true)(hm:0<=many/\many<=3):PL 6 (ear.foldl (fun H d=>stepT d H) [([],many)]):=by
 unfold dw at he
 rw[aq0,decide_eq_true_eq,ars]at he
 have:=(Kv [] none none rfl ear 0 [([],many)] none (aei hm) (by omega) fun d hd=>by simpa using he.2 d hd).2
 rw[he.1]at this
 exact this
theorem ahg(M:Mo)(ear:List Int)(many:Int)(he:dw ear=true)(hm:0<=many/\many<=3):LQ M [aJ ear,.int many]=.ok (.list ((Ey ear many).map aJ)):=by
 have he':=he
 unfold dw at he'
 rw[aq0,decide_eq_true_eq,ars]at he'
 obtain⟨⟨o',h1⟩,_⟩:=Kv M (some (.dat (aJ ear))) (some (.dat (.int many))) rfl ear 0 [([],many)] none (aei hm) (by omega) fun d hd=>by simpa using he'.2 d hd
 have hi:=OJ he hm
 generalize hH:ear.foldl (fun H d=>stepT d H) [([],many)]=H at h1 hi
 have key:=dW (tg:=bx [4,5]) (te:=aq 4) (M:=M) (ρ:=[some (.dat (aJ ear)),some (.dat (.int many)),some (.dat (.list (H.map hdD))),o',none,none,none]) hdD (fun x=>aJ x.1) H fun x _=>⟨[some (.dat (aJ ear)),some (.dat (.int many)),some (.dat (.list (H.map hdD))),o',some (.dat (aJ x.1)),some (.dat (.int x.2)),none],by simp[hdD],by simp⟩
 have hl:H.length<=50000:=by
  have:=hi.len
  have:(4:Nat) ^ 6=4096:=by decide
  omega
 have h1':gR (aF 3) CT (ear.map PyData.int) M [some (.dat (aJ ear)),some (.dat (.int many)),some (.dat (.list [.tuple [.tuple [],.int many]])),none,none,none,none]=_:=h1
 have key2:∀o2:Option Cell,cO (bx [4,5]) gJ (aq 4) M [some (.dat (aJ ear)),some (.dat (.int many)),some (.dat (.list (H.map hdD))),o2,none,none,none] (H.map hdD)=.ok (H.map fun x=>aJ x.1):=fun o2=>dW (tg:=bx [4,5]) (te:=aq 4) (M:=M) (ρ:=[some (.dat (aJ ear)),some (.dat (.int many)),some (.dat (.list (H.map hdD))),o2,none,none,none]) hdD (fun x=>aJ x.1) H fun x _=>⟨[some (.dat (aJ ear)),some (.dat (.int many)),some (.dat (.list (H.map hdD))),o2,some (.dat (aJ x.1)),some (.dat (.int x.2)),none],by simp[hdD],by simp⟩
 simp[LQ,Ym,h1',key2,hl,Ey,hH]
def Qi(mark:List Int)(extra:Int):List (List Int):=(Ey mark extra).filter fun e=>eV mark e==extra
theorem VD{ear:List Int}{many:Int}(he:dw ear=true)(hm:0<=many/\many<=3){x:List Int}(h:x∈Ey ear many):dw x=true:=by
 obtain⟨y,hy,rfl⟩:=arf.mp h
 obtain⟨h1,h2⟩:=(OJ he hm).hd y hy
 unfold dw
 rw[aq0,decide_eq_true_eq,ars]
 exact⟨h1,fun d hd=>by simpa using h2 d hd⟩
theorem aeB{ear:List Int}{many:Int}(he:dw ear=true)(hm:0<=many/\many<=3):(Ey ear many).length<=4096:=by
 unfold Ey
 rw[aq9]
 exact(OJ he hm).len
theorem Ye(M:Mo)(mark:List Int)(extra:Int)(he:dw mark=true)(hm:0<=extra/\extra<=3):vC M [aJ mark,.int extra]=.ok (.list ((Qi mark extra).map aJ)):=by
 have h1:=ahg M mark extra he hm
 have hl:=aeB he hm
 have h6:mark.length<=1000:=by
  unfold dw at he
  rw[aq0,decide_eq_true_eq]at he
  omega
 have key:=fW (tg:=aF 2) (tt:=bA (aA cC (aZ lu (ak (aq 0) (ak (aq 2) au))) (ao 1))) (te:=aq 2) (M:=M) (ρ:=[some (.dat (aJ mark)),some (.dat (.int extra)),none]) aJ (fun e=>eV mark e==extra) aJ (Ey mark extra) fun x _=>⟨[some (.dat (aJ mark)),some (.dat (.int extra)),some (.dat (aJ x))],by simp,by
  have:=Dg M mark x h6
  simp[this],fun _=>by simp⟩
 have hl2:(Ey mark extra).length<=50000:=by omega
 simp[vC,EY,h1,key,hl2,Qi]
def zV(R:List Rw)(room:Int)(e:List Int):Bool:=!(R.any fun r=>decide (gq e r.2<=room))
theorem Yd(l:List Bool):Qg (.list (l.map PyData.bool))=.ok (.bool (l.any id)):=by
 show(match qU (l.map PyData.bool) with
  |some bs=>Out.ok (PyData.bool (bs.any id))
  |none=>.bad)=_
 rw[Ac]
theorem aco(M:Mo)(R:List Rw)(room:Int)(hR:sV R)(hl:R.length<=50000)(mk:List Int)(x:Int)(e:List Int)(he:e.length=6) :
  jZ M [some (.dat (aJ mk)),some (.dat (.int x)),some (.dat (.list (R.map Ear.rD))),some (.dat (.int room)),some (.dat (aJ e)),none,none]=if zV R room e then .ret (aJ e) M else .next [some (.dat (aJ mk)),some (.dat (.int x)),some (.dat (.list (R.map Ear.rD))),some (.dat (.int room)),some (.dat (aJ e)),none,none] M:=by
 have key:=dW (tg:=bx [5,6]) (te:=aZ rG (ak (aq 4) (ak (aq 6) (ak (aq 3) au)))) (M:=M) (ρ:=[some (.dat (aJ mk)),some (.dat (.int x)),some (.dat (.list (R.map Ear.rD))),some (.dat (.int room)),some (.dat (aJ e)),none,none]) Ear.rD (fun r=>.bool (decide (gq e r.2<=room))) R fun r hr=>⟨[some (.dat (aJ mk)),some (.dat (.int x)),some (.dat (.list (R.map Ear.rD))),some (.dat (.int room)),some (.dat (aJ e)),some (.dat (.int r.1)),some (.dat (aJ r.2))],by simp[Ear.rD,Ear.dT],by
  have:=Tf M e r.2 room (by omega) (by rw[hR r hr];decide)
  simp[this]⟩
 have ha:=Yd (R.map fun r=>decide (gq e r.2<=room))
 rw[arA]at ha
 simp only[arq,asr]at ha
 cases hf:zV R room e <;> simp[jZ,key,hl,ha] <;> simp[zV]at hf <;> simpa using hf
theorem Qo(M:Mo)(R:List Rw)(room:Int)(hR:sV R)(hl:R.length<=50000)(mk:List Int)(x:Int):∀(es:List (List Int)) (o:Option Cell),(∀e∈es,e.length=6)->
  match es.find? (zV R room) with
   |some e=>gR (aF 4) jZ (es.map aJ) M [some (.dat (aJ mk)),some (.dat (.int x)),some (.dat (.list (R.map Ear.rD))),some (.dat (.int room)),o,none,none]=.ret (aJ e) M
   |none=>∃ρ',gR (aF 4) jZ (es.map aJ) M [some (.dat (aJ mk)),some (.dat (.int x)),some (.dat (.list (R.map Ear.rD))),some (.dat (.int room)),o,none,none]=.next ρ' M
 |[],o,_=>⟨_,rfl⟩
 |e::es,o,he=>by
  have h1:=aco M R room hR hl mk x e (he e aq4)
  have ih:=Qo M R room hR hl mk x es (some (.dat (aJ e))) fun y hy=>he y (aq5 _ hy)
  rw[List.find?_cons]
  cases hf:zV R room e with
  |true=>
   rw[hf,if_pos rfl]at h1
   show gR _ _ _ _ _=_
   rw[aq3,gR]
   simp[h1]
  |false=>
   rw[hf,if_neg (by decide)]at h1
   have e1:gR (aF 4) jZ ((e::es).map aJ) M [some (.dat (aJ mk)),some (.dat (.int x)),some (.dat (.list (R.map Ear.rD))),some (.dat (.int room)),o,none,none]=gR (aF 4) jZ (es.map aJ) M [some (.dat (aJ mk)),some (.dat (.int x)),some (.dat (.list (R.map Ear.rD))),some (.dat (.int room)),some (.dat (aJ e)),none,none]:=by
    rw[aq3,iD (by simp) h1]
   rw[e1]
   exact ih
theorem WR(M:Mo)(mark:List Int)(extra:Int)(R:List Rw)(room:Int)(he:dw mark=true)(hm:0<=extra/\extra<=3)(hR:sV R)(hl:R.length<=50000):pU M [aJ mark,.int extra,.list (R.map Ear.rD),.int room]=match (Qi mark extra).find? (zV R room) with
  |some e=>.ok (aJ e)
  |none=>.exc ⟨"NoneFree",[]⟩:=by
 have h1:=Ye M mark extra he hm
 have h2:=Qo M R room hR hl mark extra (Qi mark extra) none fun e h=>by
  have:=VD he hm (arp.mp h).1
  unfold dw at this
  rw[aq0,decide_eq_true_eq]at this
  exact this.1
 cases hf:(Qi mark extra).find? (zV R room) with
 |some e=>
  rw[hf]at h2
  simp[pU,yr,h1,h2]
 |none=>
  rw[hf]at h2
  obtain⟨ρ',h2⟩:=h2
  simp[pU,yr,h1,h2]
@[simp]theorem am0 (L:Lay) (c:aK):(aP L c).cls="Commons":=rfl
theorem any_keys(y:Int)(l:List Int):((l.map fun o=>(PyData.int o,PyData.bool true)).any fun p=>PyData.eqv p.1 (.int y))=decide (y∈l):=by
 have:=any_ints y l
 rw[asr]at this ⊢
 exact this
section
variable{M:Mo}{L:Lay}{c:aK}(a:At M L c)
include a
theorem lG(o:Int):jA M [ob L.c,.int o]=if o∈c.own then .ok .none else .exc ⟨"NoOwner",[]⟩:=by
 have hc:=a.hc
 have hk:=any_keys o c.own
 simp only[asr,arq]at hk
 by_cases h:o∈c.own
 ·rw[decide_eq_true h]at hk
  rw[if_pos h]
  simp[jA,lX,hc,aP,arq,hk]
  rw[if_neg (fun z=>z o h rfl)]
 ·rw[decide_eq_false h]at hk
  rw[if_neg h]
  simp[jA,lX,hc,aP,arq,hk]
  have hz:∀x:Int,x∈c.own->¬x=o:=fun x hx e=>h (e ▸ hx)
  rw[if_pos hz]
theorem wJ(i:cZ c)(x:Int):pY M [ob L.c,.int x]=if Vg c x then .ok (.int (roomOf c x)) else .exc ⟨"NoGround",[]⟩:=by
 have hc:=a.hc
 obtain⟨n,m,hg⟩:=a.hg
 have h1:=agY a i x
 by_cases h:Vg c x
 ·rw[if_pos h]at h1 ⊢
  simp[pY,uY,hc,aP,hg,dB,sW,h1]
 ·rw[if_neg h]at h1 ⊢
  simp[pY,uY,hc,aP,hg,dB,sW,h1]
theorem vU(i:cZ c)(x:Int):kZ M [ob L.c,.int x]=if Vg c x then .ok (lI (aH c x)) else .exc ⟨"NoGround",[]⟩:=by
 have hc:=a.hc
 obtain⟨n,m,hg⟩:=a.hg
 have h1:=vH a i x
 by_cases h:Vg c x
 ·rw[if_pos h]at h1 ⊢
  simp[kZ,oV,hc,aP,hg,dB,bD,h1]
 ·rw[if_neg h]at h1 ⊢
  simp[kZ,oV,hc,aP,hg,dB,bD,h1]
theorem aef:qO M [ob L.c]=.ok (lI c.own):=by
 have hc:=a.hc
 simp[qO,wD,hc,aP,arq]
theorem rH(few:c.held.length<=50000)(o g:Int):mj M [ob L.c,.int o,.int g]=if bU c o g=[] then .exc ⟨"NoRight",[]⟩ else .ok .none:=by
 have hc:=a.hc
 have hr:=a.hr
 have h1:=Zh a few o g
 by_cases h:bU c o g=[] <;> simp[mj,qT,hc,aP,hr,nZ,rW,h1,h]
theorem Bf(few:c.held.length<=50000)(o g:Int){mk:List Int}{r:List (List Int)}(h:bU c o g=mk::r):lQ M [ob L.c,.int o,.int g]=.ok (aJ mk):=by
 have hc:=a.hc
 have hr:=a.hr
 have h1:=Ig a few o g
 rw[h]at h1
 simp[lQ,rC,hc,aP,hr,nZ,cI,h1]
end
def inR(c:aK)(near:List Int):List Rw:=(c.held.filter fun r=>decide (r.2.1∈near)).map fun r=>(r.1,r.2.2)
def Yk(lo:Int)(x:Nat×Nat×cV):Bool:=x.2.2.sd.due.isSome&&!(((x.1:Int)+1)==lo)
def Px(L:Lay)(c:aK)(lo:Int)(near:List Int):List Rw:=(((bV L c).filter fun x=>decide (x.2.2.sd.g∈near)&&x.2.2.sd.al).filter (Yk lo)).map fun x=>(x.2.2.sd.o,x.2.2.sd.due.getD [])
def fL(L:Lay)(c:aK)(lo x:Int):List Rw:=inR c (aH c x)++Px L c lo (aH c x)
section
variable{M:Mo}{L:Lay}{c:aK}(a:At M L c)
include a
theorem DY(i:cZ c)(few:c.held.length<=20000)(fewb:c.bs.length<=20000)(lo x:Int)(h76:(fL L c lo x).eraseDups.length<=76):iT M [ob L.c,.int lo,.int x]=if Vg c x then .ok (.list ((bK (fL L c lo x)).map Ear.rD)) else .exc ⟨"NoGround",[]⟩:=by
 have hc:=a.hc
 have hr:=a.hr
 obtain⟨n,hh⟩:=a.hh
 have h1:=vU a i x
 by_cases h:Vg c x
 ·rw[if_pos h]at h1 ⊢
  have h2:=HS a (by omega:c.bs.length<=50000) (aH c x)
  have h3:=WT a (by omega:c.held.length<=50000) (aH c x)
  have h4:=Le M (fL L c lo x) h76
  have hl:((bV L c).filter fun y=>decide (y.2.2.sd.g∈aH c x)&&y.2.2.sd.al).length<=20000:=arv (arj _ _) (by rw[a.len'];exact fewb)
  have hl2:((bV L c).filter fun y=>decide (y.2.2.sd.g∈aH c x)&&y.2.2.sd.al).length<=50000:=by omega
  have key:=fW (tg:=bx [5,6]) (tt:=jR (bA (wU true .none (bF "due" (ao 6)))) (bA (aA Ai (ao 5) (ao 1)))) (te:=bJ (ak (fu "owner" (ao 6)) (ak (fu "due" (ao 6)) au))) (M:=M) (ρ:=[some (.dat (ob L.c)),some (.dat (.int lo)),some (.dat (.int x)),some (.dat (lI (aH c x))),none,none,none]) nb (Yk lo) (fun y=>Ear.rD (y.2.2.sd.o,y.2.2.sd.due.getD [])) ((bV L c).filter fun y=>decide (y.2.2.sd.g∈aH c x)&&y.2.2.sd.al) fun y hy=>⟨[some (.dat (ob L.c)),some (.dat (.int lo)),some (.dat (.int x)),some (.dat (lI (aH c x))),none,some (.dat (.int ((y.1:Int)+1))),some (.dat (ob y.2.1))],by simp[nb],by
   obtain⟨n',hb⟩:=a.hb' (arp.mp hy).1
   cases hd:y.2.2.sd.due <;> simp[hb,iB,hd,mZ,Yk,lF],fun hp=>by
   obtain⟨n',hb⟩:=a.hb' (arp.mp hy).1
   cases hd:y.2.2.sd.due with
   |none=>simp[Yk,hd]at hp
   |some e=>simp[hb,iB,hd,mZ,Ear.rD,Ear.dT]⟩
  have e1:(c.held.filter fun r=>decide (r.2.1∈aH c x)).map (fun r=>Ear.rD (r.1,r.2.2))=(inR c (aH c x)).map Ear.rD:=by
   unfold inR
   rw[arA]
   rfl
  have e2:(((bV L c).filter fun y=>decide (y.2.2.sd.g∈aH c x)&&y.2.2.sd.al).filter (Yk lo)).map (fun y=>Ear.rD (y.2.2.sd.o,y.2.2.sd.due.getD []))=(Px L c lo (aH c x)).map Ear.rD:=by
   unfold Px
   rw[arA]
   rfl
  rw[e1]at h3
  rw[e2]at key
  have z1:(inR c (aH c x)).length<=20000:=by
   unfold inR
   rw[aq9]
   exact arv (arj _ _) few
  have z2:(Px L c lo (aH c x)).length<=20000:=by
   unfold Px
   rw[aq9]
   exact arv (arj _ _) hl
  have z3:(inR c (aH c x)).length+(Px L c lo (aH c x)).length<=100000:=by omega
  unfold fL at h4 ⊢
  rw[arG]at h4
  simp[iT,j8,hc,aP,bM,h1,hh,dG,eY,h2,hr,nZ,qN,h3]
  simp[key,hl2,z3,h4,hc,aP,hr,nZ,h3]
 ·rw[if_neg h]at h1 ⊢
  simp[iT,j8,hc,aP,bM,h1]
end
def fG(b:cV):Dat:=.tuple [.int b.sd.o,.int b.sd.g,mZ b.sd.due,aJ b.sd.ear,.bool b.sd.al,.int b.mo,.tuple (b.fi.dat::b.en.map En.dat)]
theorem agX{M:Mo}{h n:Nat}{b:cV}(hb:M[h]?=some (iB n b)):yh M [ob h]=.ok (fG b):=by
 have h1:=YH hb
 simp[yh,Df,hb,mO,h1]
 simp[iB,Sd.dat,fG]
def grD(c:aK)(k:Nat):Dat:=.tuple [.int (lE c ((k:Int)+1)),aJ (aH c ((k:Int)+1))]
def nu(c:aK):Dat:=.tuple [lI c.own,.list ((List.range c.al.length).map (grD c)),.list (c.held.map iY),.list (c.bs.map fG)]
section
variable{M:Mo}{L:Lay}{c:aK}(a:At M L c)
include a
theorem ahj(i:cZ c)(few:c.held.length<=20000)(fewb:c.bs.length<=20000):qm M [ob L.c]=.ok (nu c):=by
 have hc:=a.hc
 have hr:=a.hr
 obtain⟨n,m,hg⟩:=a.hg
 obtain⟨n1,hh⟩:=a.hh
 have h1:=aa0 a
 have h2:=aef a
 have h3:=aaI a (by omega:c.held.length<=50000)
 have hf:=i.few
 have k1:=dW (tg:=aF 3) (te:=bJ (ak (aO dN (bF "grounds" (ao 0)) (ak (aq 3) au)) (ak (fj lN (aO bM (ao 0) (ak (aq 3) au))) au))) (M:=M) (ρ:=[some (.dat (ob L.c)),none,none,none,none]) (fun(k:Nat)=>PyData.int (1+(k:Int))) (grD c) (List.range c.al.length) fun k hk=>⟨[some (.dat (ob L.c)),none,none,some (.dat (.int ((k:Int)+1))),none],by simp[Int.add_comm],by
  rw[List.mem_range]at hk
  have hv:Vg c ((k:Int)+1):=by constructor <;> omega
  have g1:=Mj a ((k:Int)+1)
  have g2:=vU a i ((k:Int)+1)
  rw[if_pos hv]at g1 g2
  simp[hc,aP,hg,dB,dN,bM,g1,g2,grD]⟩
 have hl:=a.len'
 have k2:=fun(o1:Option Cell)=>dW (tg:=aF 4) (te:=aO vR (ao 4) au) (M:=M) (ρ:=[some (.dat (ob L.c)),o1,none,none,none]) (fun(x:Nat×Nat×cV)=>ob x.2.1) (fun x=>fG x.2.2) (bV L c) fun x hx=>⟨[some (.dat (ob L.c)),o1,none,none,some (.dat (ob x.2.1))],by simp,by
  obtain⟨n',hb⟩:=a.hb' hx
  have:=agX hb
  simp[hb,vR,this]⟩
 have e1:(bV L c).map (fun x=>ob x.2.1)=L.bs.map ob:=by
  unfold bV
  apply arx
  intro j
  simp only[ard,arM]
  by_cases hj:j < L.bs.length
  ·have hz:(L.bs.zip c.bs)[j]?=some (L.bs[j],c.bs[j]'(by rw[←a.len];exact hj)):=by
    rw[arN]
    exact⟨aq2 hj,aq2 _⟩
   rw[hz,aq2 hj]
   rfl
  ·rw[arC (by omega:L.bs.length<=j),arC (by rw[List.length_zip];omega)]
   rfl
 have e2:(bV L c).map (fun x=>fG x.2.2)=c.bs.map fG:=by
  unfold bV
  apply arx
  intro j
  simp only[ard,arM]
  by_cases hj:j < c.bs.length
  ·have hz:(L.bs.zip c.bs)[j]?=some (L.bs[j]'(by rw[a.len];exact hj),c.bs[j]):=by
    rw[arN]
    exact⟨aq2 _,aq2 hj⟩
   rw[hz,aq2 hj]
   rfl
  ·rw[arC (by omega:c.bs.length<=j),arC (by rw[List.length_zip];omega)]
   rfl
 simp only[e1,e2]at k2
 have r1:gQ 1 c.al.length=(List.range c.al.length).map fun(k:Nat)=>PyData.int (1+(k:Int)):=rfl
 have z1:(c.al.length:Int)+1<=100000:=by omega
 have z2 : -100000<=(c.al.length:Int)+1:=by omega
 have z3:c.al.length<=50000:=by omega
 have z4:L.bs.length<=50000:=by rw[a.len];omega
 simp[qm,zA,hc,aP,hg,dB,eZ,h1,z1,z2,r1,k1,z3]
 simp[hc,aP,hh,dG,hr,nZ,k2,z4,u9,uw,h2,h3,nu]
end
section
variable{M:Mo}{L:Lay}{c:aK}(a:At M L c)
include a
theorem vD(i:cZ c)(few:c.held.length<=20000)(fewb:c.bs.length<=20000)(x:Int)(h76:(fL L c 0 x).eraseDups.length<=76):kW M [ob L.c,.int x]=if Vg c x then .ok (.list ((bK (fL L c 0 x)).map Ear.rD)) else .exc ⟨"NoGround",[]⟩:=by
 have hc:=a.hc
 have h1:=DY a i few fewb 0 x h76
 by_cases h:Vg c x
 ·rw[if_pos h]at h1 ⊢
  simp[kW,oR,hc,dh,h1]
 ·rw[if_neg h]at h1 ⊢
  simp[kW,oR,hc,dh,h1]
def ai8(o:Int)(e:List Int)(R:List Rw)(room:Int):Out Dat:=match wz o e R room with
 |[]=>.ok .none
 |r::_=>.exc ⟨"Clash",[("ear",aJ (jX e r.2)),("others",Ear.rD r),("ones",Ear.rD (o,e))]⟩
omit a in
theorem afo{T:List Rw}(h:Ear.Wj T):T.Nodup:=by
 unfold Ear.Wj at h
 unfold List.Nodup
 exact h.imp fun {x y} z e=>by
  subst e
  exact List.lt_irrefl _ z
theorem LK(ho:∀o∈c.own,o<=c.count)(few:c.own.length<=20000):∃M',iJ M [ob L.c]=.ok (.int (c.count+1)) M'/\At M' L { c with count:=c.count+1,own:=c.own++[c.count+1] }:=by
 have hc:=a.hc
 have hl:∀i,(M.set L.c i)[L.c]?=some i:=fun i=>by rw[bH hc,if_pos rfl]
 have hk:=any_keys (c.count+1) c.own
 have hn:¬(c.count+1)∈c.own:=fun z=>by have:=ho _ z;omega
 rw[decide_eq_false hn]at hk
 have hz:∀x∈c.own,¬x=c.count+1:=fun x hx e=>hn (e ▸ hx)
 have f2:c.own.length < 100000:=by omega
 refine⟨_,?_,a.setC⟩
 simp only[asr,arq]at hk
 have hd:(c.own.any fun x=>x==c.count+1)=false:=by
  rw[List.any_eq_false]
  intro x hx
  simpa using hz x hx
 simp[iJ,sH,hc,aP,hl,j6,f2,arq,hd]
end
theorem Zx{α:Type}[BEq α][LawfulBEq α](l:List α):l.eraseDups.length<=l.length:=by
 induction hn:l.length using Nat.strongRecOn generalizing l with
 |_ n ih=>
  cases l with
  |nil=>simp
  |cons a r=>
   rw[asi]
   simp only[ari]at hn ⊢
   have hl:(r.filter fun b=>!b==a).length<=r.length:=arj _ _
   have:=ih _ (by omega) (r.filter fun b=>!b==a) rfl
   omega
theorem YQ{S:List Rw}(h:S.eraseDups.length<=76):(bK S).eraseDups.length<=76:=arv (Zx _) (by rw[qI];exact h)
theorem wW{S:List Rw}(h:sV S):sV (bK S):=fun r hr=>h r (dZ.mp hr)
section
variable{M:Mo}{L:Lay}{c:aK}(a:At M L c)
include a
theorem Xi(i:cZ c)(few:c.held.length<=20000)(fewb:c.bs.length<=20000)(o x:Int)(e:List Int)(he:e.length=6)(hv:Vg c x)(h76:(fL L c 0 x).eraseDups.length<=76)(hE:sV (fL L c 0 x)):gW M [ob L.c,.int o,aJ e,.int x]=ai8 o e (bK (fL L c 0 x)) (roomOf c x):=by
 have hc:=a.hc
 have h1:=vD a i few fewb x h76
 have h2:=wJ a i x
 rw[if_pos hv]at h1 h2
 have h3:=N8 M o e (bK (fL L c 0 x)) (roomOf c x) he (wW hE) (YQ h76)
 unfold ai8
 cases hb:wz o e (bK (fL L c 0 x)) (roomOf c x) with
 |nil=>
  rw[hb]at h3
  simp[gW,lO,hc,bQ,bR,h1,h2,h3]
 |cons r rs=>
  rw[hb]at h3
  simp[gW,lO,hc,bQ,bR,h1,h2,h3]
end
section
variable{M:Mo}{L:Lay}{c:aK}(a:At M L c)
include a
def Jx(L:Lay)(c:aK)(x y:Int):List Rw:=bK (fL L c 0 x)++bK (fL L c 0 y)
def rB(c:aK)(x y:Int):Int:=if roomOf c y > roomOf c x then roomOf c y else roomOf c x
theorem aaJ(i:cZ c)(few:c.held.length<=20000)(fewb:c.bs.length<=20000)(x y:Int)(hx:Vg c x)(hy:Vg c y)(h1:(fL L c 0 x).eraseDups.length<=76)(h2:(fL L c 0 y).eraseDups.length<=76)(h3:(Jx L c x y).eraseDups.length<=76)(e1:sV (fL L c 0 x))(e2:sV (fL L c 0 y)):kY M [ob L.c,.int x,.int y]=.ok (.list ((jL (bK (Jx L c x y)) (rB c x y)).map pairD)):=by
 have hc:=a.hc
 have s1:=vD a i few fewb x h1
 have s2:=vD a i few fewb y h2
 have r1:=wJ a i x
 have r2:=wJ a i y
 rw[if_pos hx]at s1 r1
 rw[if_pos hy]at s2 r2
 have hE:sV (Jx L c x y):=fun r hr=>by
  rcases arb.mp hr with hr|hr
  ·exact wW e1 r hr
  ·exact wW e2 r hr
 have k:=aav M (Jx L c x y) (rB c x y) hE h3
 have l1:(bK (fL L c 0 x)).length<=76:=by rw[qI];exact h1
 have l2:(bK (fL L c 0 y)).length<=76:=by rw[qI];exact h2
 have l3:(bK (fL L c 0 x)).length+(bK (fL L c 0 y)).length<=100000:=by omega
 have k':uQ M [.list ((bK (fL L c 0 x)).map Ear.rD++(bK (fL L c 0 y)).map Ear.rD),.int (if roomOf c y > roomOf c x then roomOf c y else roomOf c x)]=.ok (.list ((jL (bK (Jx L c x y)) (rB c x y)).map pairD)):=by
  rw[←arG]
  exact k
 simp[kY,uD,hc,bQ,bR,s1,s2,r1,r2,l3]
 simp at k'
 exact k' ▸ (by simp[k'])
end
def Zg(c:aK)(lo:Int)(near:List Int):List Rw:=((c.bs.mapIdx fun i b=>(i,b)).filter fun x=>(x.2.sd.due.isSome&&!(((x.1:Int)+1)==lo))&&(decide (x.2.sd.g∈near)&&x.2.sd.al)).map fun x=>(x.2.sd.o,x.2.sd.due.getD [])
def cM(c:aK)(lo x:Int):List Rw:=inR c (aH c x)++Zg c lo (aH c x)
theorem Du{M:Mo}{L:Lay}{c:aK}(a:At M L c):(bV L c).map (fun x=>(x.1,x.2.2))=c.bs.mapIdx fun i b=>(i,b):=by
 unfold bV
 apply arx
 intro j
 simp only[ard,arM]
 by_cases hj:j < c.bs.length
 ·have hz:(L.bs.zip c.bs)[j]?=some (L.bs[j]'(by rw[a.len];exact hj),c.bs[j]):=by
   rw[arN]
   exact⟨aq2 _,aq2 hj⟩
  rw[hz,aq2 hj]
  rfl
 ·rw[arC (by omega:c.bs.length<=j),arC (by rw[List.length_zip];omega)]
  rfl
theorem iZ{M:Mo}{L:Lay}{c:aK}(a:At M L c)(lo x:Int):fL L c lo x=cM c lo x:=by
 unfold fL cM Px Zg
 rw[←Du a,List.filter_map,arA,arZ]
 rfl
inductive bL where
 |owner|ground (x:Int)|enrol (o g:Int) (m:List Int)|leave (o g:Int)|bring (o g:Int) (e:List Int)|bear (k:Int)|cut (k:Int)|tear (k p:Int)|sell (k o:Int)|move (k g:Int)|die (k:Int)|vY (x y:Int)|part (x:Int)|pass (e h:Int)|heir (e g x:Int)
def bL.dat:bL->Dat
 |.owner=>.tuple [.str "owner"]
 |.ground x=>.tuple [.str "ground",.int x]
 |.enrol o g m=>.tuple [.str "enrol",.int o,.int g,aJ m]
 |.leave o g=>.tuple [.str "leave",.int o,.int g]
 |.bring o g m=>.tuple [.str "bring",.int o,.int g,aJ m]
 |.bear k=>.tuple [.str "bear",.int k]
 |.cut k=>.tuple [.str "cut",.int k]
 |.tear k p=>.tuple [.str "tear",.int k,.int p]
 |.sell k o=>.tuple [.str "sell",.int k,.int o]
 |.move k g=>.tuple [.str "move",.int k,.int g]
 |.die k=>.tuple [.str "die",.int k]
 |.vY x y=>.tuple [.str "unite",.int x,.int y]
 |.part x=>.tuple [.str "part",.int x]
 |.pass e h=>.tuple [.str "pass",.int e,.int h]
 |.heir e g x=>.tuple [.str "heir",.int e,.int g,.int x]
inductive Res where
 |ok (d:Dat) (c:aK)|no (x:dU)
def GZ(o:Int)(e:List Int)(r:Rw):dU:=⟨"Clash",[("ear",aJ (jX e r.2)),("others",Ear.rD r),("ones",Ear.rD (o,e))]⟩
def firstM(c:aK)(o g:Int):List Int:=(bU c o g).headD []
def xg(o:Int)(e:List Int)(R:List Rw)(room:Int)(r:Res):Res:=match wz o e (bK R) room with
 |[]=>r
 |x::_=>.no (GZ o e x)
def BW(c:aK)(x y:Int):List Rw:=bK (cM c 0 x)++bK (cM c 0 y)
def lY(c:aK)(x:Int):List Int:=(aH c x).filter fun y=>!(y==x)
def Rg(c:aK)(e:Int):List Int:=((c.bs.mapIdx fun i b=>(i,b)).filter fun x=>(x.2.sd.o==e)&&x.2.sd.al).map fun x=>(x.1:Int)+1
def Xw(o g:Int)(b:cV):Bool:=(decide (b.sd.g∈[g])&&b.sd.al)&&(b.sd.o==o)
def xJ(c:aK)(k:Int)(f:cV->Res):Res:=match bk c k with
 |none=>.no ⟨"NoBeast",[]⟩
 |some b=>if b.sd.al=true then f b else .no ⟨"Dead",[]⟩
def markB(c:aK)(k:Int)(f:cV->List Int->Res):Res:=xJ c k fun b=>match b.sd.due with
 |none=>.no ⟨"Unmarked",[]⟩
 |some e=>f b e
def wI(c:aK)(k o g:Int):aK:=nH (fun x=>uR k x&&x.sd.al) (.followed o g) c
def tY(c:aK)(o:Int)(r:Res):Res:=if o∈c.own then r else .no ⟨"NoOwner",[]⟩
def w6(c:aK)(g:Int)(r:Res):Res:=if Vg c g then r else .no ⟨"NoGround",[]⟩
def Ku(e:List Int)(r:Res):Res:=if dw e=true then r else .no ⟨"BadEar",[]⟩
def pA(c:aK)(o g:Int)(r:Res):Res:=if bU c o g=[] then .no ⟨"NoRight",[]⟩ else r
def cY(c:aK):bL->Res
 |.owner=>.ok (.int (c.count+1)) { c with count:=c.count+1,own:=c.own++[c.count+1] }
 |.ground x=>if 0<=x/\x<=9 then .ok (.int (c.al.length+1)) { c with al:=c.al++[x],ci:=c.ci++[[(c.al.length:Int)+1]] } else .no ⟨"BadAllowance",[]⟩
 |.enrol o g m=>tY c o <|w6 c g <|Ku m <|if m=[0,0,0,0,0,0] then .no ⟨"Bare",[]⟩ else if m∈bU c o g then .no ⟨"HasRight",[]⟩ else xg o m (cM c 0 g) (roomOf c g) (.ok .none { c with held:=c.held++[(o,g,m)] })
 |.leave o g=>tY c o <|w6 c g <|pA c o g <|if c.bs.any (Xw o g)=true then .no ⟨"StillThere",[]⟩ else .ok (.list ((bU c o g).map aJ)) { c with held:=dropped c o g }
 |.bring o g e=>tY c o <|w6 c g <|Ku e <|pA c o g <|.ok (.int (c.bs.length+1)) { c with bs:=c.bs++[yO (.brought o g e)] }
 |.bear k=>markB c k fun b _=>.ok (.int (c.bs.length+1)) { c with bs:=c.bs++[yO (.born k b.sd.o b.sd.g)] }
 | .cut k=>xJ c k fun b=>xg b.sd.o (jX b.sd.ear (firstM c b.sd.o b.sd.g)) (cM c 0 b.sd.g) (roomOf c b.sd.g) (.ok (aJ (jX b.sd.ear (firstM c b.sd.o b.sd.g))) (fH c (k - 1).toNat (.cut (jX b.sd.ear (firstM c b.sd.o b.sd.g)))))
 |.tear k p=>xJ c k fun b=>if 0<=p/\p < 6 then(if 9<=b.sd.ear.getD p.toNat 0 then .no ⟨"Deepest",[]⟩ else .ok (aJ (ug b.sd.ear p.toNat)) (fH c (k - 1).toNat (.torn p.toNat))) else .no ⟨"NoPlace",[]⟩
 |.sell k o=>markB c k fun b _=>tY c o <|if b.sd.o=o then .no ⟨"SameOwner",[]⟩ else pA c o b.sd.g <| xg o (jX b.sd.ear (firstM c o b.sd.g)) (cM c k b.sd.g) (roomOf c b.sd.g) (.ok (aJ (jX b.sd.ear (firstM c o b.sd.g))) (wI (fH c (k - 1).toNat (.sold o (jX b.sd.ear (firstM c o b.sd.g)))) k o b.sd.g))
 |.move k g=>markB c k fun b e=>w6 c g <|if b.sd.g=g then .no ⟨"SameGround",[]⟩ else pA c b.sd.o g <|xg b.sd.o e (cM c 0 g) (roomOf c g) (.ok (.int b.sd.g) (wI (fH c (k - 1).toNat (.moved g)) k b.sd.o g))
 |.die k=>xJ c k fun _=>.ok .none (fH c (k - 1).toNat .died)
 |.vY x y=>w6 c y <|w6 c x <|if y∈aH c x then .no ⟨"Together",[]⟩ else match jL (bK (BW c x y)) (rB c x y) with
  |p::_=>.no (GZ p.1.1 p.1.2 p.2)
  |[]=>.ok (lI (sortI (aH c x++aH c y))) { c with ci:=encl c.ci (sortI (aH c x++aH c y)) }
 |.part x=>w6 c x <|if lY c x=[] then .no ⟨"Alone",[]⟩ else .ok (lI (lY c x)) { c with ci:=encl (encl c.ci [x]) (lY c x) }
 |.pass e h=>tY c e <|tY c h <|if e=h then .no ⟨"SameOwner",[]⟩ else .ok (lI (Rg c e)) { nH (fun b=>(b.sd.o==e)&&b.sd.al) (.passed h) c with own:=c.own.filter (fun o=>!(o==e)),held:=handed c e h }
 | .heir e g x=>tY c e <| w6 c g <| if 1<=x/\x<=3 then pA c e g (match (Qi (firstM c e g) x).find? (zV (bK (cM c 0 g)) (roomOf c g)) with
  |some mk=>.ok (.tuple [.int (c.count+1),aJ mk]) { c with count:=c.count+1,own:=c.own++[c.count+1],held:=c.held++[(c.count+1,g,mk)] }
  |none=>.no ⟨"NoneFree",[]⟩) else .no ⟨"BadExtra",[]⟩
structure Inv(n s:Nat)(c:aK):Prop where
 gr:cZ c
 al:c.al.length<=n
 cnt:0<=c.count/\c.count<=n
 own:∀o∈c.own,1<=o/\o<=c.count
 Oz:c.own.Nodup
 ownL:c.own.length<=n
 held:c.held.Nodup
 hL:c.held.length+c.bs.length<=s
 hE:∀r∈c.held,r.1∈c.own/\Vg c r.2.1/\dw r.2.2=true
 ear:∀b∈c.bs,dw b.sd.ear=true
 due:∀b∈c.bs,∀e,b.sd.due=some e->dw e=true
 en:∀b∈c.bs,b.en.length<=2 * n
 rt:∀b∈c.bs,b.sd.al=true->∃m,(b.sd.o,b.sd.g,m)∈c.held
theorem eO{x:List Int}(h:dw x=true):x.length=6:=by
 unfold dw at h
 simp at h
 exact h.1
theorem Di{α:Type}[BEq α][LawfulBEq α]:∀{l S:List α},l.Nodup->(∀x∈l,x∈S)->l.length<=S.length
 |[],_,_,_=>by simp
 |x::l,S,nd,h=>by
  rw[ar0]at nd
  have hx:=h x aq4
  have:=Di (l:=l) (S:=S.erase x) nd.2 fun y hy=>by
   have:y≠x:=fun z=>nd.1 (z ▸ hy)
   exact(List.mem_erase_of_ne this).mpr (h y (aq5 _ hy))
  rw[List.length_erase_of_mem hx]at this
  have:=List.length_pos_of_mem hx
  rw[ari]
  omega
def MN(c:aK):List Rw:=c.held.map (fun r=>(r.1,r.2.2))++c.bs.map fun b=>(b.sd.o,b.sd.due.getD [])
theorem UJ{c:aK}{near:List Int}{r:Rw}(h:r∈inR c near):∃g,(r.1,g,r.2)∈c.held/\g∈near:=by
 unfold inR at h
 obtain⟨x,h1,rfl⟩:=arf.mp h
 obtain⟨h2,h3⟩:=arp.mp h1
 exact⟨x.2.1,h2,by simpa using h3⟩
theorem Qa{c:aK}{lo:Int}{near:List Int}{r:Rw}(h:r∈Zg c lo near):∃(i:Nat) (b:cV),c.bs[i]?=some b/\b.sd.o=r.1/\b.sd.due=some r.2/\b.sd.al=true/\b.sd.g∈near/\(i:Int)+1≠lo:=by
 unfold Zg at h
 obtain⟨x,h1,rfl⟩:=arf.mp h
 obtain⟨h2,h3⟩:=arp.mp h1
 obtain⟨i,hi,rfl⟩:=List.mem_mapIdx.mp h2
 simp only[aq0,decide_eq_true_eq,ark,beq_eq_false_iff_ne]at h3
 obtain⟨⟨h4,h5⟩,h6,h7⟩:=h3
 refine⟨i,c.bs[i],aq2 hi,rfl,?_,h7,h6,h5⟩
 cases hd:c.bs[i].sd.due with
 |none=>simp[hd]at h4
 |some e=>rfl
theorem lV{c:aK}{lo x:Int}{r:Rw}(h:r∈cM c lo x):r∈MN c:=by
 unfold MN
 rcases arb.mp h with h|h
 ·obtain⟨g,h1,_⟩:=UJ h
  exact arJ _ (arf.mpr ⟨_,h1,rfl⟩)
 ·obtain⟨i,b,h1,h2,h3,_⟩:=Qa h
  refine arL _ (arf.mpr ⟨b,aq6 h1,?_⟩)
  rw[h2,h3]
  rfl
section
variable{n s:Nat}{c:aK}(I:Inv n s c)
include I
theorem Inv.few{R:List Rw}(h:∀r∈R,r∈MN c):R.eraseDups.length<=s:=by
 have h1:=Di (l:=bK R) (S:=MN c) (afo (Yy R)) fun r hr=>h r (dZ.mp hr)
 rw[qI]at h1
 have:(MN c).length=c.held.length+c.bs.length:=by simp[MN]
 have:=I.hL
 omega
theorem Inv.Fj{lo x:Int}:sV (cM c lo x):=fun r hr=>by
 rcases arb.mp hr with h|h
 ·obtain⟨g,h1,_⟩:=UJ h
  exact eO (I.hE _ h1).2.2
 ·obtain⟨i,b,h1,h2,h3,_⟩:=Qa h
  exact eO (I.due b (aq6 h1) _ h3)
theorem Inv.bi:KQ (2 * n) c:=⟨fun b hb=>eO (I.ear b hb),I.en⟩
theorem Inv.mk1{o g:Int}(h:bU c o g≠[]):∃r,bU c o g=firstM c o g::r/\dw (firstM c o g)=true:=by
 cases hm:bU c o g with
 |nil=>exact absurd hm h
 |cons m r=>
  refine⟨r,by simp[firstM,hm],?_⟩
  have:m∈bU c o g:=by rw[hm];exact aq4
  unfold bU at this
  obtain⟨x,h1,rfl⟩:=arf.mp this
  have e:firstM c o g=x.2.2:=by simp[firstM,hm]
  rw[e]
  exact(I.hE x (arp.mp h1).1).2.2
end
theorem Ep{c:aK}{o g:Int}{m:List Int}:m∈bU c o g↔(o,g,m)∈c.held:=by
 unfold bU
 rw[arf]
 constructor
 ·rintro⟨⟨x,y,z⟩,h,rfl⟩
  obtain⟨h1,h2⟩:=arp.mp h
  simp at h2
  obtain⟨rfl,rfl⟩:=h2
  exact h1
 ·intro h
  exact⟨_,arp.mpr ⟨h,by simp⟩,rfl⟩
theorem zG{c:aK}{o g:Int}:bU c o g≠[]↔∃m,(o,g,m)∈c.held:=by
 constructor
 ·intro h
  obtain⟨m,hm⟩:=List.exists_mem_of_ne_nil _ h
  exact⟨m,Ep.mp hm⟩
 ·rintro⟨m,hm⟩ z
  have:=Ep.mpr hm
  rw[z]at this
  cases this
theorem DQ{x y:List Int}(hx:dw x=true)(hy:dw y=true):dw (jX x y)=true:=by
 have lx:=eO hx
 have ly:=eO hy
 unfold dw at *
 simp only[aq0,decide_eq_true_eq,ars]at *
 refine⟨by simp[jX];omega,fun d hd=>?_⟩
 unfold jX at hd
 obtain⟨p,hp,rfl⟩:=arf.mp hd
 have h1:=hx.2 p.1 (List.of_mem_zip hp).1
 have h2:=hy.2 p.2 (List.of_mem_zip hp).2
 split <;> omega
theorem Hh(n:Nat)(x:List Int):okd (n+1) (aJ x)=true:=by
 show okd (n+1) (.tuple (x.map PyData.int))=true
 rw[okd]
 exact Vp n x
theorem ahq(x y:List Int):cC (aJ x) (aJ y)=.ok (.bool (decide (x=y))):=by
 show(Out.when (okd 12 (aJ x)&&okd 12 (aJ y)) (.ok (PyData.eqv (aJ x) (aJ y)))).bind _=_
 rw[Hh 11,Hh 11,Yt,zM]
 rfl
theorem aic(neg:Bool)(m:List Int)(ms:List (List Int)):inD neg (aJ m) (.list (ms.map aJ))=.ok (.bool (neg ^^ decide (m∈ms))):=by
 have h1:mW 12 (ms.map aJ)=true:=Iz.mpr fun d hd=>by
  obtain⟨x,_,rfl⟩:=arf.mp hd
  exact Hh 11 x
 have h2:((ms.map aJ).any fun z=>PyData.eqv z (aJ m))=decide (m∈ms):=by
  induction ms with
  |nil=>simp
  |cons x ms ih=>
   have h1':mW 12 (ms.map aJ)=true:=Iz.mpr fun d hd=>by
    obtain⟨x,_,rfl⟩:=arf.mp hd
    exact Hh 11 x
   rw[aq3,ar5,ih h1',Yt,zM]
   by_cases h:x=m
   ·simp[h]
   ·have:¬m=x:=fun z=>h z.symm
    simp[h,this]
 show(Out.when (okd 12 (aJ m)&&mW 12 (ms.map aJ)) (.ok ((ms.map aJ).any fun z=>PyData.eqv z (aJ m)))).bind _=_
 rw[h1,h2,Hh 11]
 rfl
def Sp(M:Mo)(L:Lay)(o:bf Dat):Res->Prop
 |.ok d c'=>∃M' bs,o=.ok d M'/\At M' { L with bs:=bs } c'
 |.no x=>o=.exc x M
section
variable{M:Mo}{L:Lay}{c:aK}(a:At M L c){n s:Nat}(I:Inv n s c)(hs:s<=76)(hn:n<=199)
include a I hn
theorem ail:Sp M L (iJ M [ob L.c]) (cY c .owner):=by
 obtain⟨M',h1,h2⟩:=LK a (fun o ho=>(I.own o ho).2) (by have:=I.ownL;omega)
 exact⟨M',L.bs,h1,h2⟩
theorem aeZ(x:Int):Sp M L (iw M [ob L.c,.int x]) (cY c (.ground x)):=by
 have hc:=a.hc
 obtain⟨n,m,hg⟩:=a.hg
 have hl:=I.al
 have h1:=W7 a I.gr (by omega) x
 simp only[cY]
 by_cases h:0<=x/\x<=9
 ·rw[if_pos h]at h1 ⊢
  obtain⟨M',h1,h2⟩:=h1
  exact⟨M',L.bs,by simp[iw,lZ,hc,aP,hg,dB,lB,h1],h2⟩
 ·rw[if_neg h]at h1 ⊢
  show _=_
  simp[iw,lZ,hc,aP,hg,dB,lB,h1]
include hs
omit hn
theorem aac(o x:Int)(e:List Int)(he:e.length=6)(hv:Vg c x):gW M [ob L.c,.int o,aJ e,.int x]=match wz o e (bK (cM c 0 x)) (roomOf c x) with
  |[]=>.ok .none
  |r::_=>.exc (GZ o e r):=by
 have h1:=I.hL
 have h76:=I.few (R:=cM c 0 x) fun r hr=>lV hr
 have:=Xi a I.gr (by omega) (by omega) o x e he hv (by rw[iZ a];omega) (by rw[iZ a];exact I.Fj)
 rw[iZ a]at this
 exact this
theorem aio(o g:Int)(m:List Int)(hm:m.length<=1000):Sp M L (dR M [ob L.c,.int o,.int g,aJ m]) (cY c (.enrol o g m)):=by
 have hc:=a.hc
 have hr:=a.hr
 obtain⟨n1,m1,hg⟩:=a.hg
 have hL:=I.hL
 have h1:=lG a o
 have h2:=wH a g
 have h3:=Oa M m hm
 have h4:=Ig a (by omega) o g
 simp only[cY,tY,w6,Ku,xg]
 by_cases e1:o∈c.own
 rotate_left
 ·rw[if_neg e1]at h1 ⊢
  show _=_
  simp[dR,gG,hc,aP,aC,h1]
 rw[if_pos e1]at h1 ⊢
 by_cases e2:Vg c g
 rotate_left
 ·rw[if_neg e2]at h2 ⊢
  show _=_
  simp[dR,gG,hc,aP,aC,h1,hg,dB,aG,h2]
 rw[if_pos e2]at h2 ⊢
 by_cases e3:dw m=true
 rotate_left
 ·rw[if_neg e3]at h3 ⊢
  show _=_
  simp[dR,gG,hc,aP,aC,h1,hg,dB,aG,h2,h3]
 rw[if_pos e3]at h3 ⊢
 have h5:cC (.tuple (m.map PyData.int)) (.tuple [.int 0,.int 0,.int 0,.int 0,.int 0,.int 0])=_:=ahq m [0,0,0,0,0,0]
 by_cases e4:m=[0,0,0,0,0,0]
 ·rw[if_pos e4]
  rw[decide_eq_true e4]at h5
  show _=_
  simp[dR,gG,hc,aP,aC,h1,hg,dB,aG,h2,h3,jB]
  simp[h5]
 rw[if_neg e4]
 rw[decide_eq_false e4]at h5
 have h6:=aic false m (bU c o g)
 by_cases e5:m∈bU c o g
 ·rw[if_pos e5]
  rw[decide_eq_true e5]at h6
  simp at h6
  show _=_
  simp[dR,gG,hc,aP,aC,h1,hg,dB,aG,h2,h3,jB,h5,hr,nZ,cI,h4,h6]
 rw[if_neg e5]
 rw[decide_eq_false e5]at h6
 simp at h6
 have h7:=aac a I hs o g m (eO e3) e2
 cases e6:wz o m (bK (cM c 0 g)) (roomOf c g) with
 |cons r rs=>
  rw[e6]at h7
  show _=_
  simp[dR,gG,hc,aP,aC,h1,hg,dB,aG,h2,h3,jB,h5,hr,nZ,cI,h4,h6,cA,h7]
 |nil=>
  rw[e6]at h7
  have h8:=KR a (by omega) o g m
  rw[if_neg fun z=>e5 (Ep.mpr z)]at h8
  obtain⟨M',h8,h9⟩:=h8
  refine⟨M',L.bs,?_,h9⟩
  simp[dR,gG,hc,aP,aC,h1,hg,dB,aG,h2,h3,jB,h5,hr,nZ,cI,h4,h6,cA,h7,iI,h8]
end
@[simp]theorem aqX (n:Nat) (b:cV):List.lookup ("owner" : Str) (iB n b).fs=some (.dat (.int b.sd.o)):=by simp[iB]
@[simp]theorem aqU (n:Nat) (b:cV):List.lookup ("ground" : Str) (iB n b).fs=some (.dat (.int b.sd.g)):=by simp[iB]
@[simp]theorem aqW (n:Nat) (b:cV):List.lookup ("due" : Str) (iB n b).fs=some (.dat (mZ b.sd.due)):=by simp[iB]
@[simp]theorem aqV (n:Nat) (b:cV):List.lookup ("ear" : Str) (iB n b).fs=some (.dat (aJ b.sd.ear)):=by simp[iB]
@[simp]theorem aqC (n:Nat) (b:cV):List.lookup ("alive" : Str) (iB n b).fs=some (.dat (.bool b.sd.al)):=by simp[iB]
section
variable{M:Mo}{L:Lay}{c:aK}(a:At M L c){n s:Nat}(I:Inv n s c)(hs:s<=76)
include a I hs
theorem aie(o g:Int):Sp M L (gj M [ob L.c,.int o,.int g]) (cY c (.leave o g)):=by
 have hc:=a.hc
 have hr:=a.hr
 obtain⟨n1,m1,hg⟩:=a.hg
 obtain⟨n2,hh⟩:=a.hh
 have hL:=I.hL
 have h1:=lG a o
 have h2:=wH a g
 have h3:=rH a (by omega) o g
 simp only[cY,tY,w6,pA]
 by_cases e1:o∈c.own
 rotate_left
 ·rw[if_neg e1]at h1 ⊢
  show _=_
  simp[gj,jx,hc,aP,aC,h1]
 rw[if_pos e1]at h1 ⊢
 by_cases e2:Vg c g
 rotate_left
 ·rw[if_neg e2]at h2 ⊢
  show _=_
  simp[gj,jx,hc,aP,aC,h1,hg,dB,aG,h2]
 rw[if_pos e2]at h2 ⊢
 by_cases e3:bU c o g=[]
 ·rw[if_pos e3]at h3 ⊢
  show _=_
  simp[gj,jx,hc,aP,aC,h1,hg,dB,aG,h2,aN,h3]
 rw[if_neg e3]at h3 ⊢
 have h4:qu M [ob L.h,.list [.int g]]=_:=HS a (by omega) [g]
 have key:=dW (tg:=bx [3,4]) (te:=aA cC (bF "owner" (ao 4)) (ao 1)) (M:=M) (ρ:=[some (.dat (ob L.c)),some (.dat (.int o)),some (.dat (.int g)),none,none]) nb (fun x=>.bool (x.2.2.sd.o==o)) ((bV L c).filter fun x=>decide (x.2.2.sd.g∈[g])&&x.2.2.sd.al) fun x hx=>⟨[some (.dat (ob L.c)),some (.dat (.int o)),some (.dat (.int g)),some (.dat (.int ((x.1:Int)+1))),some (.dat (ob x.2.1))],by simp[nb],by
  obtain⟨n,hb⟩:=a.hb' (arp.mp hx).1
  simp[hb,iB]⟩
 have hl:((bV L c).filter fun x=>decide (x.2.2.sd.g∈[g])&&x.2.2.sd.al).length<=50000:=arv (arj _ _) (by rw[a.len'];omega)
 have h5:Qg (.list (((bV L c).filter fun x=>decide (x.2.2.sd.g∈[g])&&x.2.2.sd.al).map fun x=>PyData.bool (x.2.2.sd.o==o)))=.ok (.bool (c.bs.any (Xw o g))):=by
  have e:(((bV L c).filter fun x=>decide (x.2.2.sd.g∈[g])&&x.2.2.sd.al).map fun x=>PyData.bool (x.2.2.sd.o==o))=(((bV L c).filter fun x=>decide (x.2.2.sd.g∈[g])&&x.2.2.sd.al).map fun x=>(x.2.2.sd.o==o)).map PyData.bool:=by rw[arA];rfl
  rw[e,Yd,asr,List.any_filter]
  have e2:=Du a
  have e3:(bV L c).map (fun x=>x.2.2)=c.bs:=by
   have:(bV L c).map (fun x=>x.2.2)=((bV L c).map (fun x=>(x.1,x.2.2))).map (·.2):=by rw[arA];rfl
   rw[this,e2]
   apply arx
   intro i
   simp
   cases c.bs[i]? <;> rfl
  conv=>rhs;rw[←e3]
  rw[asr]
  rfl
 cases e4:c.bs.any (Xw o g) with
 |true=>
  rw[e4]at h5
  show _=_
  simp[gj,jx,hc,aP,aC,h1,hg,dB,aG,h2,aN,h3,hh,dG,eY]
  simp at h4 key h5 hl
  simp[h4,key,hl,h5]
 |false=>
  rw[e4]at h5
  have h6:=ahX a (by omega) I.held o g
  rw[if_neg e3]at h6
  obtain⟨M',h6,h7⟩:=h6
  refine⟨M',L.bs,?_,h7⟩
  simp[gj,jx,hc,aP,aC,h1,hg,dB,aG,h2,aN,h3,hh,dG,eY]
  simp at h4 key h5 hl
  simp[h4,key,hl,h5,hc,aP,hr,nZ,yW,h6]
theorem ah5(o g:Int)(m:List Int)(hm:m.length<=1000):Sp M L (gD M [ob L.c,.int o,.int g,aJ m]) (cY c (.bring o g m)):=by
 have hc:=a.hc
 have hr:=a.hr
 obtain⟨n1,m1,hg⟩:=a.hg
 obtain⟨n2,hh⟩:=a.hh
 have hL:=I.hL
 have h1:=lG a o
 have h2:=wH a g
 have h3:=Oa M m hm
 have h4:=rH a (by omega) o g
 simp only[cY,tY,w6,Ku,pA]
 by_cases e1:o∈c.own
 rotate_left
 ·rw[if_neg e1]at h1 ⊢
  show _=_
  simp[gD,jH,hc,aP,aC,h1]
 rw[if_pos e1]at h1 ⊢
 by_cases e2:Vg c g
 rotate_left
 ·rw[if_neg e2]at h2 ⊢
  show _=_
  simp[gD,jH,hc,aP,aC,h1,hg,dB,aG,h2]
 rw[if_pos e2]at h2 ⊢
 by_cases e3:dw m=true
 rotate_left
 ·rw[if_neg e3]at h3 ⊢
  show _=_
  simp[gD,jH,hc,aP,aC,h1,hg,dB,aG,h2,h3]
 rw[if_pos e3]at h3 ⊢
 by_cases e4:bU c o g=[]
 ·rw[if_pos e4]at h4 ⊢
  show _=_
  simp[gD,jH,hc,aP,aC,h1,hg,dB,aG,h2,h3,aN,h4]
 rw[if_neg e4]at h4 ⊢
 obtain⟨M',h,h5,h6⟩:=Kh a (by omega) (.brought o g m) (by omega)
 refine⟨M',L.bs++[h],?_,h6⟩
 simp[Fi.dat]at h5
 simp[gD,jH,hc,aP,aC,h1,hg,dB,aG,h2,h3,aN,h4,hh,dG,jK,h5]
theorem akJ(k:Int):Sp M L (jw M [ob L.c,.int k]) (cY c (.bear k)):=by
 have hc:=a.hc
 obtain⟨n2,hh⟩:=a.hh
 have hL:=I.hL
 have h1:=Ef a (by omega) k
 simp only[cY,markB,xJ]
 cases hk:bk c k with
 |none=>
  rw[hk]at h1
  show _=_
  simp[jw,mK,hc,aP,hh,dG,aX,h1]
 |some b=>
  rw[hk]at h1
  obtain⟨_,_,_,_,n3,hb⟩:=pW a hk
  show Sp M L _ (if b.sd.al=true then _ else _)
  cases e1:b.sd.al with
  |false=>
   simp[e1]at h1
   show _=_
   simp[jw,mK,hc,aP,hh,dG,aX,h1]
  |true=>
   simp[e1]at h1
   cases e2:b.sd.due with
   |none=>
    simp[e2]at h1
    show _=_
    simp[jw,mK,hc,aP,hh,dG,aX,h1]
   |some e=>
    simp[e2]at h1
    simp only[if_true]
    obtain⟨M',h,h5,h6⟩:=Kh a (by omega) (.born k b.sd.o b.sd.g) (by omega)
    refine⟨M',L.bs++[h],?_,h6⟩
    simp[Fi.dat]at h5
    simp[jw,mK,hc,aP,hh,dG,aX,h1,hb,iB,jK,h5]
theorem alU(k:Int)(hn:n<=1000):Sp M L (lH M [ob L.c,.int k]) (cY c (.die k)):=by
 have hc:=a.hc
 obtain⟨n2,hh⟩:=a.hh
 have hL:=I.hL
 have h1:=DW a (by omega) k
 simp only[cY,xJ]
 cases hk:bk c k with
 |none=>
  rw[hk]at h1
  show _=_
  simp[lH,rO,hc,aP,hh,dG,bG,h1]
 |some b=>
  rw[hk]at h1
  obtain⟨_,_,h3,h4,n3,hb⟩:=pW a hk
  show Sp M L _ (if b.sd.al=true then _ else _)
  cases e1:b.sd.al with
  |false=>
   simp[e1]at h1
   show _=_
   simp[lH,rO,hc,aP,hh,dG,bG,h1]
  |true=>
   simp[e1]at h1
   have mem:=aq6 h4
   simp only[if_true]
   have h5:=tR hb .died (by rw[eO (I.ear b mem)];decide) (by have:=I.en b mem;omega)
   refine⟨_,L.bs,?_,yZ (n:=n3) (e:=.died) a h3 h4⟩
   simp[En.dat]at h5
   simp[lH,rO,hc,aP,hh,dG,bG,h1,hb,bO,h5,mJ]
theorem akj(k p:Int)(hn:n<=1000):Sp M L (fP M [ob L.c,.int k,.int p]) (cY c (.tear k p)):=by
 have hc:=a.hc
 obtain⟨n2,hh⟩:=a.hh
 have hL:=I.hL
 have h1:=DW a (by omega) k
 simp only[cY,xJ]
 cases hk:bk c k with
 |none=>
  rw[hk]at h1
  show _=_
  simp[fP,jg,hc,aP,hh,dG,bG,h1]
 |some b=>
  rw[hk]at h1
  obtain⟨_,_,h3,h4,n3,hb⟩:=pW a hk
  show Sp M L _ (if b.sd.al=true then _ else _)
  cases e1:b.sd.al with
  |false=>
   simp[e1]at h1
   show _=_
   simp[fP,jg,hc,aP,hh,dG,bG,h1]
  |true=>
   simp[e1]at h1
   have mem:=aq6 h4
   have h6:=eO (I.ear b mem)
   simp only[if_true]
   by_cases e2:0<=p/\p < 6
   ·rw[if_pos e2]
    obtain⟨q,rfl⟩:∃q:Nat,p=q:=⟨p.toNat,by omega⟩
    have hq:q < 6:=by omega
    have hq2:q < b.sd.ear.length:=by omega
    have hq3:(q:Int) < 6:=by omega
    have h7:b.sd.ear[q]?.getD 0=b.sd.ear[q]:=by simp[hq2]
    simp only[Int.toNat_natCast,List.getD_eq_getElem?_getD,h7]
    have h5:=tR hb (.torn q) (by omega) (by have:=I.en b mem;omega)
    by_cases e3:9<=b.sd.ear[q]
    ·rw[if_pos e3]
     show _=_
     simp[fP,jg,hc,aP,hh,dG,bG,h1,hb,iB,jc,hq3,cR,hq2,e3]
    ·rw[if_neg e3]
     refine⟨_,L.bs,?_,yZ (n:=n3) (e:=.torn q) a h3 h4⟩
     simp[En.dat]at h5
     have hl:∀i,(M.set (Pr.hk L k) i)[Pr.hk L k]?=some i:=fun i=>by rw[bH hb,if_pos rfl]
     simp[fP,jg,hc,aP,hh,dG,bG,h1,hb,jc,hq3,cR,bO,h5,hl,hq2,e3,mJ,go]
   ·rw[if_neg e2]
    show _=_
    by_cases e3:0<=p
    ·have e4:¬p < 6:=fun z=>e2 ⟨e3,z⟩
     simp[fP,jg,hc,aP,hh,dG,bG,h1,jc,e3,e4]
    ·simp[fP,jg,hc,aP,hh,dG,bG,h1,jc,e3]
end
theorem Inv.alive{n s:Nat}{c:aK}(I:Inv n s c){b:cV}(h:b∈c.bs)(h2:b.sd.al=true):bU c b.sd.o b.sd.g≠[]/\Vg c b.sd.g/\b.sd.o∈c.own:=by
 obtain⟨m,hm⟩:=I.rt b h h2
 exact⟨zG.mpr ⟨m,hm⟩,(I.hE _ hm).2.1,(I.hE _ hm).1⟩
section
variable{M:Mo}{L:Lay}{c:aK}(a:At M L c){n s:Nat}(I:Inv n s c)(hs:s<=76)(hn:n<=1000)
include a I hs hn
theorem alH(k:Int):Sp M L (jO M [ob L.c,.int k]) (cY c (.cut k)):=by
 have hc:=a.hc
 obtain⟨n2,hh⟩:=a.hh
 have hL:=I.hL
 have h1:=DW a (by omega) k
 simp only[cY,xJ,xg]
 cases hk:bk c k with
 |none=>
  rw[hk]at h1
  show _=_
  simp[jO,oJ,hc,aP,hh,dG,bG,h1]
 |some b=>
  rw[hk]at h1
  obtain⟨_,_,h3,h4,n3,hb⟩:=pW a hk
  show Sp M L _ (if b.sd.al=true then _ else _)
  cases e1:b.sd.al with
  |false=>
   simp[e1]at h1
   show _=_
   simp[jO,oJ,hc,aP,hh,dG,bG,h1]
  |true=>
   simp[e1]at h1
   simp only[if_true]
   have mem:=aq6 h4
   obtain⟨q1,q2,q3⟩:=I.alive mem e1
   obtain⟨r,q4,q5⟩:=I.mk1 q1
   have h6:=eO (I.ear b mem)
   have h7:=Bf a (by omega) _ _ q4
   have h8:=Je M b.sd.ear (firstM c b.sd.o b.sd.g) (by omega)
   have q6:=eO (DQ (I.ear b mem) q5)
   generalize jX b.sd.ear (firstM c b.sd.o b.sd.g)=e at h8 q6 ⊢
   have h9:=aac a I hs b.sd.o b.sd.g e q6 q2
   cases e2:wz b.sd.o e (bK (cM c 0 b.sd.g)) (roomOf c b.sd.g) with
   |cons r rs=>
    rw[e2]at h9
    show _=_
    simp[jO,oJ,hc,aP,hh,dG,bG,h1,hb,iB,bZ,h7,h8,cA,h9]
   |nil=>
    rw[e2]at h9
    have h5:=tR hb (.cut e) (by omega) (by have:=I.en b mem;omega)
    refine⟨_,L.bs,?_,yZ (n:=n3) (e:=.cut e) a h3 h4⟩
    simp[En.dat]at h5
    simp[jO,oJ,hc,aP,hh,dG,bG,h1,hb,bZ,bO,h5,cA,h7,h8,h9,mJ]
theorem ak2(x:Int):Sp M L (jY M [ob L.c,.int x]) (cY c (.part x)):=by
 have hc:=a.hc
 obtain⟨n1,m1,hg⟩:=a.hg
 have h1:=adb a I.gr x
 have e0:(aH c x).filter (fun y=>!(y==x))=lY c x:=rfl
 rw[e0]at h1
 simp only[cY,w6]
 by_cases e1:Vg c x
 ·rw[if_pos e1]at h1 ⊢
  by_cases e2:lY c x=[]
  ·rw[if_pos e2]at h1 ⊢
   show _=_
   simp[jY,qw,hc,aP,hg,dB,o9,h1]
  ·rw[if_neg e2]at h1 ⊢
   obtain⟨M',h1,h2⟩:=h1
   refine⟨M',L.bs,?_,h2⟩
   simp[jY,qw,hc,aP,hg,dB,o9,h1]
 ·rw[if_neg e1]at h1 ⊢
  show _=_
  simp[jY,qw,hc,aP,hg,dB,o9,h1]
theorem agW(x y:Int)(hx:Vg c x)(hy:Vg c y):kY M [ob L.c,.int x,.int y]=.ok (.list ((jL (bK (BW c x y)) (rB c x y)).map pairD)):=by
 have h1:=I.hL
 have f1:=I.few (R:=cM c 0 x) fun r hr=>lV hr
 have f2:=I.few (R:=cM c 0 y) fun r hr=>lV hr
 have f3:=I.few (R:=BW c x y) fun r hr=>by
  rcases arb.mp hr with h|h
  ·exact lV (dZ.mp h)
  ·exact lV (dZ.mp h)
 have e:Jx L c x y=BW c x y:=by unfold Jx BW;rw[iZ a,iZ a]
 have:=aaJ a I.gr (by omega) (by omega) x y hx hy (by rw[iZ a];omega) (by rw[iZ a];omega) (by rw[e];omega) (by rw[iZ a];exact I.Fj) (by rw[iZ a];exact I.Fj)
 rw[e]at this
 exact this
theorem agF(x y:Int):Sp M L (gA M [ob L.c,.int x,.int y]) (cY c (.vY x y)):=by
 have hc:=a.hc
 obtain⟨n1,m1,hg⟩:=a.hg
 have h1:=wH a y
 have h2:=vU a I.gr x
 simp only[cY,w6]
 by_cases e1:Vg c y
 rotate_left
 ·rw[if_neg e1]at h1 ⊢
  show _=_
  simp[gA,jF,hc,aP,hg,dB,aG,h1]
 rw[if_pos e1]at h1 ⊢
 by_cases e2:Vg c x
 rotate_left
 ·rw[if_neg e2]at h2 ⊢
  show _=_
  simp[gA,jF,hc,aP,hg,dB,aG,h1,bM,h2]
 rw[if_pos e2]at h2 ⊢
 have h3:=Hq false y (aH c x)
 have h4:=abV a I.gr x y e2 e1
 by_cases e3:y∈aH c x
 ·rw[if_pos e3]
  rw[decide_eq_true e3]at h3
  show _=_
  simp[gA,jF,hc,aP,hg,dB,aG,h1,bM,h2,h3]
 rw[if_neg e3]at h4 ⊢
 rw[decide_eq_false e3]at h3
 have h5:=agW a I hs hn x y e2 e1
 have h6:∀p∈jL (bK (BW c x y)) (rB c x y),p.1.2.length=6:=fun p hp=>by
  unfold jL at hp
  obtain⟨q,hq,hp⟩:=List.mem_flatMap.mp hp
  obtain⟨r,_,rfl⟩:=arf.mp hp
  obtain⟨i,hi,rfl⟩:=List.mem_mapIdx.mp hq
  have hm:=dZ.mp (arU hi)
  rcases arb.mp hm with h|h
  ·exact I.Fj _ (dZ.mp h)
  ·exact I.Fj _ (dZ.mp h)
 cases e4:jL (bK (BW c x y)) (rB c x y) with
 |cons p ps=>
  rw[e4]at h5 h6
  have h7:=Je M p.1.2 p.2.2 (by have:=h6 p aq4;omega)
  show _=_
  simp[gA,jF,hc,aP,hg,dB,aG,h1,bM,h2,h3,nQ,h5]
  simp[pairD,Ear.rD,Ear.dT,h7,GZ]
 |nil=>
  rw[e4]at h5
  obtain⟨M',h4,h7⟩:=h4
  refine⟨M',L.bs,?_,h7⟩
  simp[gA,jF,hc,aP,hg,dB,aG,h1,bM,h2,h3,nQ,h5,v7,h4]
theorem ajG(e g x:Int):Sp M L (cW M [ob L.c,.int e,.int g,.int x]) (cY c (.heir e g x)):=by
 have hc:=a.hc
 have hr:=a.hr
 obtain⟨n1,m1,hg⟩:=a.hg
 have hL:=I.hL
 have h1:=lG a e
 have h2:=wH a g
 have h3:=rH a (by omega) e g
 simp only[cY,tY,w6,pA]
 by_cases e1:e∈c.own
 rotate_left
 ·rw[if_neg e1]at h1 ⊢
  show _=_
  simp[cW,dX,hc,aP,aC,h1]
 rw[if_pos e1]at h1 ⊢
 by_cases e2:Vg c g
 rotate_left
 ·rw[if_neg e2]at h2 ⊢
  show _=_
  simp[cW,dX,hc,aP,aC,h1,hg,dB,aG,h2]
 rw[if_pos e2]at h2 ⊢
 by_cases e3:1<=x/\x<=3
 rotate_left
 ·rw[if_neg e3]
  show _=_
  by_cases e4:1<=x
  ·have e5:¬x<=3:=fun z=>e3 ⟨e4,z⟩
   simp[cW,dX,hc,aP,aC,h1,hg,dB,aG,h2,ju,kJ,e4,e5]
  ·simp[cW,dX,hc,aP,aC,h1,hg,dB,aG,h2,ju,kJ,e4]
 rw[if_pos e3]
 obtain⟨e4,e5⟩:=e3
 by_cases e6:bU c e g=[]
 ·rw[if_pos e6]at h3 ⊢
  show _=_
  simp[cW,dX,hc,aP,aC,h1,hg,dB,aG,h2,ju,kJ,e4,e5,aN,h3]
 rw[if_neg e6]at h3 ⊢
 obtain⟨r,q4,q5⟩:=I.mk1 e6
 have h7:=Bf a (by omega) _ _ q4
 have f1:=I.few (R:=cM c 0 g) fun r hr=>lV hr
 have h8:=vD a I.gr (by omega) (by omega) g (by rw[iZ a];omega)
 rw[if_pos e2,iZ a]at h8
 have h9:=wJ a I.gr g
 rw[if_pos e2]at h9
 have h10:=WR M (firstM c e g) x (bK (cM c 0 g)) (roomOf c g) q5 ⟨by omega,e5⟩ (wW I.Fj) (by rw[qI];omega)
 cases e7:(Qi (firstM c e g) x).find? (zV (bK (cM c 0 g)) (roomOf c g)) with
 |none=>
  rw[e7]at h10
  show _=_
  simp[cW,dX,hc,aP,aC,h1,hg,dB,aG,h2,ju,kJ,e4,e5,aN,h3,bZ,h7,bQ,h8,bR,h9,h10]
 |some mk=>
  rw[e7]at h10
  obtain⟨M1,k1,a1⟩:=LK a (fun o ho=>(I.own o ho).2) (by have:=I.ownL;omega)
  have k2:=KR a1 (by show c.held.length<=50000;omega) (c.count+1) g mk
  rw[if_neg (fun z=>by
   have:=(I.own _ (I.hE _ z).1).2
   simp at this
   omega)]at k2
  obtain⟨M2,k2,a2⟩:=k2
  have hc1:=a1.hc
  have hr1:=a1.hr
  refine⟨M2,L.bs,?_,a2⟩
  simp[cW,dX,hc,aP,aC,h1,hg,dB,aG,h2,ju,kJ,e4,e5,aN,h3,bZ,h7,bQ,h8,bR,h9,h10,iy,k1]
  simp[hc1,aP,hr1,nZ,iI,k2]
end
section
variable{M:Mo}{L:Lay}{c:aK}(a:At M L c){n s:Nat}(I:Inv n s c)(hs:s<=76)(hn:n<=1000)
include a I hs hn
theorem aiw(k o:Int):Sp M L (dI M [ob L.c,.int k,.int o]) (cY c (.sell k o)):=by
 have hc:=a.hc
 obtain⟨n2,hh⟩:=a.hh
 have hL:=I.hL
 have h1:=Ef a (by omega) k
 have h2:=lG a o
 simp only[cY,markB,xJ,xg,tY,pA]
 cases hk:bk c k with
 |none=>
  rw[hk]at h1
  show _=_
  simp[dI,fQ,hc,aP,hh,dG,aX,h1]
 |some b=>
  rw[hk]at h1
  obtain⟨k1,k2,h3,h4,n3,hb⟩:=pW a hk
  show Sp M L _ (if b.sd.al=true then _ else _)
  cases e1:b.sd.al with
  |false=>
   simp[e1]at h1
   show _=_
   simp[dI,fQ,hc,aP,hh,dG,aX,h1]
  |true=>
   simp[e1]at h1
   simp only[if_true]
   cases e2:b.sd.due with
   |none=>
    simp[e2]at h1
    show _=_
    simp[dI,fQ,hc,aP,hh,dG,aX,h1]
   |some e0=>
    simp[e2]at h1
    show Sp M L _ (if o∈c.own then _ else _)
    by_cases e3:o∈c.own
    rotate_left
    ·rw[if_neg e3]at h2 ⊢
     show _=_
     simp[dI,fQ,hc,aP,hh,dG,aX,h1,aC,h2]
    rw[if_pos e3]at h2 ⊢
    by_cases e4:b.sd.o=o
    ·rw[if_pos e4]
     show _=_
     simp[dI,fQ,hc,aP,hh,dG,aX,h1,aC,h2,hb,e4]
    rw[if_neg e4]
    have h5:=rH a (by omega) o b.sd.g
    by_cases e5:bU c o b.sd.g=[]
    ·rw[if_pos e5]at h5 ⊢
     show _=_
     simp[dI,fQ,hc,aP,hh,dG,aX,h1,aC,h2,hb,e4,aN,h5]
    rw[if_neg e5]at h5 ⊢
    have mem:=aq6 h4
    obtain⟨q1,q2,q3⟩:=I.alive mem e1
    obtain⟨r,q4,q5⟩:=I.mk1 e5
    have h6:=eO (I.ear b mem)
    have h7:=Bf a (by omega) _ _ q4
    have h8:=Je M b.sd.ear (firstM c o b.sd.g) (by omega)
    have q6:=eO (DQ (I.ear b mem) q5)
    generalize jX b.sd.ear (firstM c o b.sd.g)=e at h8 q6 ⊢
    have f1:=I.few (R:=cM c k b.sd.g) fun r hr=>lV hr
    have h9:=DY a I.gr (by omega) (by omega) k b.sd.g (by rw[iZ a];omega)
    rw[if_pos q2,iZ a]at h9
    have h10:=wJ a I.gr b.sd.g
    rw[if_pos q2]at h10
    have h11:=N8 M o e (bK (cM c k b.sd.g)) (roomOf c b.sd.g) q6 (wW I.Fj) (YQ (by omega))
    cases e6:wz o e (bK (cM c k b.sd.g)) (roomOf c b.sd.g) with
    |cons r rs=>
     rw[e6]at h11
     show _=_
     simp[dI,fQ,hc,aP,hh,dG,aX,h1,aC,h2,hb,e4,aN,h5,bZ,h7,h8,dh,h9,bR,h10,h11,GZ]
    |nil=>
     rw[e6]at h11
     have h12:=tR hb (.sold o e) (by omega) (by have:=I.en b mem;omega)
     have a1:=yZ (n:=n3) (e:=.sold o e) a h3 h4
     have hk2:bk (fH c (k - 1).toNat (.sold o e)) k=some (mJ b (.sold o e)):=by
      unfold bk
      rw[if_pos ⟨k1,by simpa [fH] using k2⟩,v8,if_pos rfl,h4]
      rfl
     obtain⟨M',h13,a2⟩:=Gp a1 (by simp[fH];omega) (I.bi.step _ _ q6) (by omega) k hk2
     have hc1:=a1.hc
     obtain⟨n4,hh1⟩:=a1.hh
     refine⟨M',L.bs,?_,a2⟩
     simp[En.dat]at h12
     simp only[mJ]at h13 hc1 hh1
     simp[dI,fQ,hc,aP,hh,dG,aX,h1,aC,h2,hb,e4,aN,h5,bZ,h7,h8,dh,h9,bR,h10,h11,bO,h12]
     simp[hc1,aP,hh1,dG,iK,h13]
theorem ajl(k g:Int):Sp M L (dJ M [ob L.c,.int k,.int g]) (cY c (.move k g)):=by
 have hc:=a.hc
 obtain⟨n2,hh⟩:=a.hh
 obtain⟨n5,m5,hg⟩:=a.hg
 have hL:=I.hL
 have h1:=Ef a (by omega) k
 have h2:=wH a g
 simp only[cY,markB,xJ,xg,w6,pA]
 cases hk:bk c k with
 |none=>
  rw[hk]at h1
  show _=_
  simp[dJ,fU,hc,aP,hh,dG,aX,h1]
 |some b=>
  rw[hk]at h1
  obtain⟨k1,k2,h3,h4,n3,hb⟩:=pW a hk
  show Sp M L _ (if b.sd.al=true then _ else _)
  cases e1:b.sd.al with
  |false=>
   simp[e1]at h1
   show _=_
   simp[dJ,fU,hc,aP,hh,dG,aX,h1]
  |true=>
   simp[e1]at h1
   simp only[if_true]
   cases e2:b.sd.due with
   |none=>
    simp[e2]at h1
    show _=_
    simp[dJ,fU,hc,aP,hh,dG,aX,h1]
   |some e=>
    simp[e2]at h1
    show Sp M L _ (if Vg c g then _ else _)
    by_cases e3:Vg c g
    rotate_left
    ·rw[if_neg e3]at h2 ⊢
     show _=_
     simp[dJ,fU,hc,aP,hh,dG,aX,h1,hg,dB,aG,h2]
    rw[if_pos e3]at h2 ⊢
    by_cases e4:b.sd.g=g
    ·rw[if_pos e4]
     show _=_
     simp[dJ,fU,hc,aP,hh,dG,aX,h1,hg,dB,aG,h2,hb,e4]
    rw[if_neg e4]
    have h5:=rH a (by omega) b.sd.o g
    by_cases e5:bU c b.sd.o g=[]
    ·rw[if_pos e5]at h5 ⊢
     show _=_
     simp[dJ,fU,hc,aP,hh,dG,aX,h1,hg,dB,aG,h2,hb,e4,aN,h5]
    rw[if_neg e5]at h5 ⊢
    have mem:=aq6 h4
    have h6:=eO (I.ear b mem)
    have q6:=eO (I.due b mem e e2)
    have h11:=aac a I hs b.sd.o g e q6 e3
    cases e6:wz b.sd.o e (bK (cM c 0 g)) (roomOf c g) with
    |cons r rs=>
     rw[e6]at h11
     show _=_
     simp[dJ,fU,hc,aP,hh,dG,aX,h1,hg,dB,aG,h2,hb,e4,aN,h5,e2,mZ,cA,h11]
    |nil=>
     rw[e6]at h11
     have h12:=tR hb (.moved g) (by omega) (by have:=I.en b mem;omega)
     have a1:=yZ (n:=n3) (e:=.moved g) a h3 h4
     have hk2:bk (fH c (k - 1).toNat (.moved g)) k=some (mJ b (.moved g)):=by
      unfold bk
      rw[if_pos ⟨k1,by simpa [fH] using k2⟩,v8,if_pos rfl,h4]
      rfl
     obtain⟨M',h13,a2⟩:=Gp a1 (by simp[fH];omega) (I.bi.step _ _ trivial) (by omega) k hk2
     have hc1:=a1.hc
     obtain⟨n4,hh1⟩:=a1.hh
     refine⟨M',L.bs,?_,a2⟩
     simp[En.dat]at h12
     simp only[mJ]at h13 hc1 hh1
     simp[dJ,fU,hc,aP,hh,dG,aX,h1,hg,dB,aG,h2,hb,e4,aN,h5,e2,mZ,cA,h11,bO,h12]
     simp[hc1,aP,hh1,dG,iK,h13]
theorem akL(e h:Int):Sp M L (fV M [ob L.c,.int e,.int h]) (cY c (.pass e h)):=by
 have hc:=a.hc
 have hr:=a.hr
 have hL:=I.hL
 have h1:=lG a e
 have h2:=lG a h
 simp only[cY,tY]
 by_cases e1:e∈c.own
 rotate_left
 ·rw[if_neg e1]at h1 ⊢
  show _=_
  simp[fV,jN,hc,aP,aC,h1]
 rw[if_pos e1]at h1 ⊢
 by_cases e2:h∈c.own
 rotate_left
 ·rw[if_neg e2]at h2 ⊢
  show _=_
  simp[fV,jN,hc,aP,aC,h1,h2]
 rw[if_pos e2]at h2 ⊢
 by_cases e3:e=h
 ·rw[if_pos e3]
  show _=_
  simp[fV,jN,hc,aP,aC,h1,h2,e3]
 rw[if_neg e3]
 obtain⟨M1,h3,a1⟩:=ZQ a (by omega) e h
 have hc1:=a1.hc
 obtain⟨n1,hh1⟩:=a1.hh
 have h4:=ae9 a1 (by show c.bs.length<=50000;omega) e
 have ehd:bV L { c with held:=handed c e h }=bV L c:=rfl
 rw[ehd]at h4
 generalize hX:((bV L c).filter fun x=>(x.2.2.sd.o==e)&&x.2.2.sd.al)=X at h4
 have hXl:X.length<=1000:=by
  rw[←hX]
  exact arv (arj _ _) (by rw[a.len'];omega)
 have bi1:KQ (2 * n) { c with held:=handed c e h }:=⟨I.bi.ear,I.bi.en⟩
 obtain⟨ρ',M2,g1,g2,g3⟩:=Ql (tg:=bx [4,5]) (body:=sG) (fun ρ=>∃x y,ρ=[some (.dat (ob L.c)),some (.dat (.int e)),some (.dat (.int h)),some (.dat (.list (X.map nb))),x,y])
  (fun i c1=>KQ (2 * n+i) c1/\c1.bs.length=c.bs.length) (.passed h) L 1000 X M1 { c with held:=handed c e h } [some (.dat (ob L.c)),some (.dat (.int e)),some (.dat (.int h)),some (.dat (.list (X.map nb))),none,none] 0 (by omega) a1 ⟨bi1,rfl⟩ ⟨none,none,rfl⟩ (fun M1 c1 ρ x i hi a1 p1 q1 hx=>by
   obtain⟨bi1,l1⟩:=p1
   obtain⟨x0,y0,rfl⟩:=q1
   rw[←hX]at hx
   obtain⟨z1,z2⟩:=Ba (arp.mp hx).1
   have hl:x.1 < c1.bs.length:=by rw[l1];exact(aq1.mp z2).1
   have z3:=aq2 hl
   obtain⟨nx,hx1⟩:=a1.hb _ _ _ z1 z3
   have mem:=arU hl
   have hb:=tR hx1 (.passed h) (by rw[bi1.ear _ mem];decide) (by have:=bi1.en _ mem;omega)
   refine⟨[some (.dat (ob L.c)),some (.dat (.int e)),some (.dat (.int h)),some (.dat (.list (X.map nb))),some (.dat (.int ((x.1:Int)+1))),some (.dat (ob x.2.1))],[some (.dat (ob L.c)),some (.dat (.int e)),some (.dat (.int h)),some (.dat (.list (X.map nb))),some (.dat (.int ((x.1:Int)+1))),some (.dat (ob x.2.1))],_,by simp[nb],?_,⟨_,_,rfl⟩,yZ (n:=nx) a1 z1 z3,bi1.step _ _ trivial,by simp[fH,l1]⟩
   have hb:mV M1 [ob x.2.1,.tuple [.str "passed",.int h]]=_:=hb
   simp[sG,hx1,bO,hb,mJ])
 obtain⟨x0,y0,rfl⟩:=g2
 have g4:vq X (.passed h) { c with held:=handed c e h }=nH (fun x=>(x.sd.o==e)&&x.sd.al) (.passed h) { c with held:=handed c e h }:=by
  rw[←hX]
  exact VH a1 (fun x=>(x.sd.o==e)&&x.sd.al) (.passed h)
 rw[g4]at g3
 have hc2:=g3.hc
 have hl:∀i,(M2.set L.c i)[L.c]?=some i:=fun i=>by rw[bH hc2,if_pos rfl]
 have hk:=any_keys e c.own
 rw[decide_eq_true e1]at hk
 have hf:((c.own.map fun o=>(PyData.int o,PyData.bool true)).filter fun p=>!PyData.eqv p.1 (.int e))=(c.own.filter fun o=>!(o==e)).map fun o=>(PyData.int o,PyData.bool true):=by
  rw[List.filter_map]
  congr 1
 have a3:=g3.setC (n:=c.count) (own:=c.own.filter fun o=>!(o==e))
 refine⟨_,L.bs,?_,a3⟩
 have key:=dW (tg:=bx [4,5]) (te:=aq 4) (M:=M2.set L.c (aP L { nH (fun x=>(x.sd.o==e)&&x.sd.al) (.passed h) { c with held:=handed c e h } with count:=c.count,own:=c.own.filter fun o=>!(o==e) })) (ρ:=[some (.dat (ob L.c)),some (.dat (.int e)),some (.dat (.int h)),some (.dat (.list (X.map nb))),none,none]) nb (fun x=>.int ((x.1:Int)+1)) X fun x _=>⟨[some (.dat (ob L.c)),some (.dat (.int e)),some (.dat (.int h)),some (.dat (.list (X.map nb))),some (.dat (.int ((x.1:Int)+1))),some (.dat (ob x.2.1))],by simp[nb],by simp⟩
 have eo:(Rg c e).map PyData.int=X.map fun x=>.int ((x.1:Int)+1):=by
  unfold Rg
  rw[←Du a,List.filter_map,arA,arA,←hX]
  rfl
 have eo:lI (Rg c e)=.list (X.map fun x=>.int ((x.1:Int)+1)):=congrArg PyData.list eo
 have hX2:X.length<=50000:=by omega
 have f2:c.own.length<=100000:=by have:=I.ownL;omega
 rw[eo]
 simp[fV,jN,hc,aP,aC,h1,h2,e3,hr,nZ,sO,h3]
 simp[hc1,aP,hh1,dG,Bo,h4,g1]
 simp only[nH]at hc2 key ⊢
 have hk':(c.own.any ((fun p=>PyData.eqv p.1 (.int e)) ∘ fun o=>(PyData.int o,PyData.bool true)))=true:=by
  rw[←asr]
  exact hk
 simp[hc2,aP,f2]
 rw[hk',hf]
 simp only[aP]at key
 simp[key,hX2]
end
theorem cZ.same{c c':aK}(i:cZ c)(h1:c'.al=c.al)(h2:c'.ci=c.ci):cZ c':=by
 cases c
 cases c'
 simp at h1 h2
 subst h1 h2
 exact⟨i.len,i.few,i.al,i.mem,i.own,i.up,i.one⟩
theorem cZ.lt{c:aK}(i:cZ c){k:Nat}{l:List Int}(h:c.ci[k]?=some l):k < c.al.length:=by
 rw[←i.len]
 exact(aq1.mp h).1
theorem cZ.add{c:aK}(i:cZ c)(hf:c.al.length < 200){x:Int}(hx:0<=x/\x<=9):cZ { c with al:=c.al++[x],ci:=c.ci++[[(c.al.length:Int)+1]] }:=by
 have key:∀(k:Nat) (l:List Int),(c.ci++[[(c.al.length:Int)+1]])[k]?=some l->(c.ci[k]?=some l/\k < c.al.length)∨(k=c.al.length/\l=[(c.al.length:Int)+1]):=fun k l h=>by
  by_cases hk:k < c.ci.length
  ·rw[ara hk]at h
   exact .inl ⟨h,i.lt h⟩
  ·rw[aro (by omega)]at h
   have hk2:k - c.ci.length=0:=by
    have:=(aq1.mp h).1
    simp at this
    omega
   rw[hk2]at h
   simp at h
   exact .inr ⟨by have:=i.len;omega,h.symm⟩
 refine⟨by simp[i.len],by simp;omega,fun y hy=>?_,fun k l h y hy=>?_,fun k l h=>?_,fun k l h=>?_,fun k j l h hj=>?_⟩
 ·rcases arb.mp hy with hy|hy
  ·exact i.al y hy
  ·rw[aq7.mp hy]
   exact hx
 ·show 1<=y/\y<=((c.al++[x]).length:Int)
  rw[arT,List.length_singleton]
  rcases key k l h with⟨h,_⟩|⟨_,rfl⟩
  ·have:=i.mem k l h y hy
   omega
  ·rw[aq7.mp hy]
   omega
 ·rcases key k l h with⟨h,_⟩|⟨rfl,rfl⟩
  ·exact i.own k l h
  ·simp
 ·rcases key k l h with⟨h,_⟩|⟨rfl,rfl⟩
  ·exact i.up k l h
  ·simp
 ·show(c.ci++[[(c.al.length:Int)+1]])[j]?=some l
  rcases key k l h with⟨h,_⟩|⟨rfl,rfl⟩
  ·have h2:=i.one k j l h hj
   rw[ara (aq1.mp h2).1]
   exact h2
  ·have:j=c.al.length:=by
    rw[aq7]at hj
    omega
   rw[this,←i.len]
   simp
theorem Y5(l:List Int):∀(s:List Int) (ci:List (List Int)) (k:Nat),(∀y∈s,1<=y)->(s.foldl (fun s y=>s.set (y - 1).toNat l) ci)[k]?=if ((k:Int)+1∈s)/\k < ci.length then some l else ci[k]?
 |[],ci,k,_=>by simp
 |y::s,ci,k,h=>by
  rw[asl,Y5 l s _ k fun z hz=>h z (aq5 _ hz),arw]
  have hy:=h y aq4
  by_cases h1:(k:Int)+1∈s/\k < ci.length
  ·rw[if_pos h1,if_pos ⟨aq5 _ h1.1,h1.2⟩]
  ·rw[if_neg h1,ar4]
   by_cases h2:(y - 1).toNat=k
   ·rw[if_pos h2]
    have e:(k:Int)+1=y:=by omega
    by_cases h3:k < ci.length
    ·rw[if_pos (by omega),if_pos ⟨by rw[e];exact aq4,h3⟩]
    ·rw[if_neg (by omega),if_neg (fun z=>h3 z.2),arC (by omega)]
   ·rw[if_neg h2,if_neg]
    rintro⟨z,h3⟩
    rcases arh.mp z with z|z
    ·omega
    ·exact h1 ⟨z,h3⟩
theorem yM(ci:List (List Int))(l:List Int)(k:Nat)(h:∀y∈l,1<=y):(encl ci l)[k]?=if ((k:Int)+1∈l)/\k < ci.length then some l else ci[k]?:=Y5 l l ci k h
theorem cZ.again{c:aK}(i:cZ c){ci:List (List Int)}(hl:ci.length=c.ci.length)(P:List Int->Prop)
  (h1:∀(k:Nat) (l:List Int),ci[k]?=some l->(P l/\(k:Int)+1∈l)∨c.ci[k]?=some l)
  (h2:∀l,P l->l.Pairwise (· < ·)/\∀y∈l,Vg c y/\ci[(y - 1).toNat]?=some l)
  (h3:∀(k j:Nat) (l:List Int),ci[k]?=some l->c.ci[k]?=some l->c.ci[j]?=some l->(k:Int)+1∈l->¬P l->ci[j]?=some l):cZ { c with ci:=ci }:=by
 refine⟨by show ci.length=_;rw[hl,i.len],i.few,i.al,fun k l h y hy=>?_,fun k l h=>?_,fun k l h=>?_,fun k j l h hj=>?_⟩
 ·rcases h1 k l h with⟨p,_⟩|h
  ·exact((h2 l p).2 y hy).1
  ·exact i.mem k l h y hy
 ·rcases h1 k l h with⟨_,p⟩|h
  ·exact p
  ·exact i.own k l h
 ·rcases h1 k l h with⟨p,_⟩|h
  ·exact(h2 l p).1
  ·exact i.up k l h
 ·show ci[j]?=some l
  have pj:P l->ci[j]?=some l:=fun p=>by
   have:=((h2 l p).2 _ hj).2
   rwa [show((j:Int)+1 - 1).toNat=j by omega]at this
  rcases h1 k l h with⟨p,_⟩|h'
  ·exact pj p
  ·by_cases p:P l
   ·exact pj p
   ·exact h3 k j l h h' (i.one k j l h' hj) (i.own k l h') p
theorem cZ.at{c:aK}(i:cZ c){x:Int}(h:Vg c x):c.ci[(x - 1).toNat]?=some (aH c x):=by
 obtain⟨k,hk,rfl⟩:=pZ h
 have hk':k < c.ci.length:=by rw[i.len];exact hk
 simp[aH,hk']
theorem cZ.self{c:aK}(i:cZ c){x:Int}(h:Vg c x):x∈aH c x:=by
 have:=i.own _ _ (i.at h)
 rwa [show(((x - 1).toNat:Nat):Int)+1=x by omega]at this
theorem cZ.eq{c:aK}(i:cZ c){x y:Int}(h:Vg c x)(hy:y∈aH c x):aH c y=aH c x:=by
 have v:=i.mem _ _ (i.at h) y hy
 have:=i.one _ (y - 1).toNat _ (i.at h) (by rw[show(((y - 1).toNat:Nat):Int)+1=y by omega];exact hy)
 rw[i.at v]at this
 exact arn this
theorem Ed{l:List Int}{i:Int}:i∈sortI l↔i∈l:=by
 unfold sortI
 rw[List.mem_mergeSort]
theorem afu{l:List Int}(h:l.Nodup):(sortI l).Pairwise (· < ·):=by
 unfold sortI
 have srt:=ar6 (le:=fun a b:Int=>decide (a<=b)) (fun a b c k1 k2=>by rw[decide_eq_true_eq]at *;omega) (fun a b=>by rw[ar8,decide_eq_true_eq,decide_eq_true_eq];omega) l
 have nd:(l.mergeSort fun a b=>decide (a<=b)).Nodup:=(ash _ _).nodup_iff.mpr h
 refine List.Pairwise.imp₂ (fun a b h1 h2=>?_) srt nd
 rw[decide_eq_true_eq]at h1
 have:a≠b:=h2
 omega
theorem cZ.vY{c:aK}(i:cZ c){x y:Int}(hx:Vg c x)(hy:Vg c y)(hn:y∉aH c x):cZ { c with ci:=encl c.ci (sortI (aH c x++aH c y)) }:=by
 generalize hS:sortI (aH c x++aH c y)=S
 have mem:∀z,z∈S↔z∈aH c x∨z∈aH c y:=fun z=>by rw[←hS,Ed,arb]
 have vg:∀z∈S,Vg c z:=fun z hz=>by
  rcases(mem z).mp hz with h|h
  ·exact i.mem _ _ (i.at hx) z h
  ·exact i.mem _ _ (i.at hy) z h
 have up:S.Pairwise (· < ·):=by
  rw[←hS]
  refine afu ?_
  rw[arV]
  have nd:∀{l:List Int},l.Pairwise (· < ·)->l.Nodup:=fun h=>h.imp fun {a b} z e=>by omega
  refine⟨nd (i.up _ _ (i.at hx)),nd (i.up _ _ (i.at hy)),fun a ha b hb e=>?_⟩
  subst e
  have e1:=i.eq hx ha
  have e2:=i.eq hy hb
  rw[e1]at e2
  exact hn (e2 ▸ i.self hy)
 have get:=fun k=>yM c.ci S k fun z hz=>(vg z hz).1
 refine i.again (P:=fun l=>l=S) (by unfold encl;rw[wA]) (fun k l h=>?_) (fun l hl=>?_) (fun k j l h h' hj hk np=>?_)
 ·rw[get]at h
  split at h
  ·next z=>
   cases h
   exact .inl ⟨rfl,z.1⟩
  ·exact .inr h
 ·subst hl
  refine⟨up,fun z hz=>⟨vg z hz,?_⟩⟩
  have v:=vg z hz
  have e:(((z - 1).toNat:Nat):Int)+1=z:=by omega
  rw[get,e,if_pos ⟨hz,by rw[i.len];omega⟩]
 ·rw[get]
  by_cases z:(j:Int)+1∈S/\j < c.ci.length
  ·exfalso
   have v:=vg _ z.1
   have ej:aH c ((j:Int)+1)=l:=by
    have:=i.at v
    rw[show((j:Int)+1 - 1).toNat=j by omega,hj]at this
    exact(arn this).symm
   have hk2:(k:Int)+1∈S:=by
    rw[mem]
    rcases(mem _).mp z.1 with q|q
    ·exact .inl (by rw[←i.eq hx q,ej];exact hk)
    ·exact .inr (by rw[←i.eq hy q,ej];exact hk)
   rw[get,if_pos ⟨hk2,(aq1.mp h').1⟩]at h
   exact np (arn h).symm
  ·rw[if_neg z]
   exact hj
theorem cZ.part{c:aK}(i:cZ c){x:Int}(hx:Vg c x):cZ { c with ci:=encl (encl c.ci [x]) (lY c x) }:=by
 have mem:∀z,z∈lY c x↔z∈aH c x/\z≠x:=fun z=>by
  unfold lY
  rw[arp]
  simp
 have vg:∀z∈lY c x,Vg c z:=fun z hz=>i.mem _ _ (i.at hx) z ((mem z).mp hz).1
 have l1:(encl c.ci [x]).length=c.ci.length:=by unfold encl;rw[wA]
 have get:∀k:Nat,(encl (encl c.ci [x]) (lY c x))[k]?=if ((k:Int)+1∈lY c x)/\k < c.ci.length then some (lY c x) else if ((k:Int)+1=x)/\k < c.ci.length then some [x] else c.ci[k]?:=fun k=>by
  rw[yM _ _ _ fun z hz=>(vg z hz).1,l1,yM _ _ _ fun z hz=>by rw[aq7.mp hz];exact hx.1]
  simp only[aq7]
 refine i.again (P:=fun l=>l=lY c x/\l≠[]∨l=[x]) (by unfold encl;rw[wA,wA]) (fun k l h=>?_) (fun l hl=>?_) (fun k j l h h' hj hk np=>?_)
 ·rw[get]at h
  split at h
  ·next z=>
   cases h
   exact .inl ⟨.inl ⟨rfl,List.ne_nil_of_mem z.1⟩,z.1⟩
  ·split at h
   ·next z=>
    cases h
    exact .inl ⟨.inr rfl,by rw[z.1];simp⟩
   ·exact .inr h
 ·rcases hl with⟨rfl,_⟩|rfl
  ·refine⟨(i.up _ _ (i.at hx)).filter _,fun z hz=>⟨vg z hz,?_⟩⟩
   have v:=vg z hz
   have e:(((z - 1).toNat:Nat):Int)+1=z:=by omega
   rw[get,e,if_pos ⟨hz,by rw[i.len];omega⟩]
  ·refine⟨by simp,fun z hz=>?_⟩
   rw[aq7.mp hz]
   refine⟨hx,?_⟩
   have e:(((x - 1).toNat:Nat):Int)+1=x:=by omega
   rw[get,e,if_neg (fun z=>((mem x).mp z.1).2 rfl),if_pos ⟨rfl,by rw[i.len];omega⟩]
 ·have key:∀m:Nat,c.ci[m]?=some l->(m:Int)+1∈aH c x->l=aH c x:=fun m hm q=>by
   have v:=i.mem _ _ (i.at hx) _ q
   have:=i.at v
   rw[show((m:Int)+1 - 1).toNat=m by omega,hm,i.eq hx q]at this
   exact arn this
  have out:(k:Int)+1∉aH c x:=fun q=>by
   rw[get]at h
   by_cases e:(k:Int)+1=x
   ·rw[if_neg (fun z=>((mem _).mp z.1).2 e),if_pos ⟨e,(aq1.mp h').1⟩]at h
    exact np (.inr (arn h).symm)
   ·rw[if_pos ⟨(mem _).mpr ⟨q,e⟩,(aq1.mp h').1⟩]at h
    have e2:=(arn h).symm
    exact np (.inl ⟨e2,fun z=>by rw[z]at hk;cases hk⟩)
  have outj:(j:Int)+1∉aH c x:=fun q=>out (key j hj q ▸ hk)
  have o1:¬((j:Int)+1∈lY c x/\j < c.ci.length):=fun z=>outj ((mem _).mp z.1).1
  have o2:¬((j:Int)+1=x/\j < c.ci.length):=fun z=>outj (by rw[z.1];exact i.self hx)
  rw[get,if_neg o1,if_neg o2]
  exact hj
def Good(held:List Row3)(s:Sd):Prop:=dw s.ear=true/\(∀e,s.due=some e->dw e=true)/\(s.al=true->∃m,(s.o,s.g,m)∈held)
structure RM(m:Nat)(c:aK):Prop where
 g:∀b∈c.bs,Good c.held b.sd
 en:∀b∈c.bs,b.en.length<=m
theorem Inv.Wz{n s:Nat}{c:aK}(I:Inv n s c):RM (2 * n) c:=⟨fun b hb=>⟨I.ear b hb,I.due b hb,I.rt b hb⟩,I.en⟩
theorem Pa{c:aK}{i:Nat}{e:En}{b:cV}(h:b∈(fH c i e).bs):b∈c.bs∨∃b0,c.bs[i]?=some b0/\b=mJ b0 e:=by
 obtain⟨j,hj⟩:=List.mem_iff_getElem?.mp h
 rw[v8]at hj
 split at hj
 ·next z=>
  subst z
  obtain⟨b0,h3,h4⟩:=arI.mp hj
  exact .inr ⟨b0,h3,h4.symm⟩
 ·exact .inl (aq6 hj)
theorem RM.one{m:Nat}{c:aK}(B:RM m c){i:Nat}{e:En}(h:∀b,c.bs[i]?=some b->Good c.held (go b.sd e)):RM (m+1) (fH c i e):=by
 refine⟨fun b hb=>?_,fun b hb=>?_⟩
 ·rcases Pa hb with h1|⟨b0,h1,rfl⟩
  ·exact B.g b h1
  ·exact h b0 h1
 ·rcases Pa hb with h1|⟨b0,h1,rfl⟩
  ·have:=B.en b h1
   omega
  ·have:=B.en b0 (aq6 h1)
   simp[mJ]
   omega
theorem RM.many{m:Nat}{c:aK}(B:RM m c){p:cV->Bool}{e:En}(h:∀b∈c.bs,p b=true->Good c.held (go b.sd e)):RM (m+1) (nH p e c):=by
 refine⟨fun b hb=>?_,fun b hb=>?_⟩
 ·obtain⟨b0,h1,rfl⟩:=arf.mp hb
  cases hp:p b0 with
  |true=>
   rw[if_pos rfl]
   exact h b0 h1 hp
  |false=>
   rw[if_neg (by simp)]
   exact B.g b0 h1
 ·obtain⟨b0,h1,rfl⟩:=arf.mp hb
  have:=B.en b0 h1
  cases hp:p b0 <;> simp[mJ] <;> omega
theorem Good.mono{held held':List Row3}{s:Sd}(g:Good held s)(h:∀r∈held,r∈held'):Good held' s:=⟨g.1,g.2.1,fun z=>by
 obtain⟨m,hm⟩:=g.2.2 z
 exact⟨m,h _ hm⟩⟩
theorem Inv.of{n s n' s':Nat}{c c':aK}(I:Inv n s c)(hn:n<=n')(gr:cZ c')(hal:c'.al.length<=n')(ec:c'.count=c.count)(eo:c'.own=c.own)(hd:c'.held.Nodup)(hL:c'.held.length+c'.bs.length<=s')(hE:∀r∈c'.held,r.1∈c'.own/\Vg c' r.2.1/\dw r.2.2=true)(B:RM (2 * n') c'):Inv n' s' c':=
 ⟨gr,hal,by have:=I.cnt;rw[ec];omega,by rw[ec,eo];exact I.own,by rw[eo];exact I.Oz,by have:=I.ownL;rw[eo];omega,hd,hL,hE,fun b hb=>(B.g b hb).1,fun b hb=>(B.g b hb).2.1,B.en,fun b hb=>(B.g b hb).2.2⟩
theorem acd{x:List Int}{p:Nat}(h:dw x=true)(h9:¬9<=x.getD p 0):dw (ug x p)=true:=by
 unfold dw at *
 simp only[aq0,decide_eq_true_eq,ars]at *
 refine⟨by rw[acH];exact h.1,fun d hd=>?_⟩
 unfold ug at hd
 obtain⟨i,hi,rfl⟩:=List.mem_mapIdx.mp hd
 have:=h.2 _ (arU hi)
 split
 ·next e=>
  subst e
  have:x.getD i 0=x[i]:=by simp[hi]
  omega
 ·exact this
theorem Ja{r:Row3}:∀(l acc:List Row3),r∈l.foldl Fp acc↔r∈acc∨r∈l
 |[],acc=>by simp
 |x::l,acc=>by
  rw[asl,Ja l]
  unfold Fp
  split
  ·next h=>
   constructor
   ·rintro(z|z)
    ·exact .inl z
    ·exact .inr (aq5 _ z)
   ·rintro(z|z)
    ·exact .inl z
    ·rcases arh.mp z with rfl|z
     ·exact .inl h
     ·exact .inr z
  ·simp[or_assoc]
theorem Qz:∀(l acc:List Row3),acc.Nodup->(l.foldl Fp acc).Nodup
 |[],acc,h=>h
 |x::l,acc,h=>by
  rw[asl]
  refine Qz l _ ?_
  unfold Fp
  split
  ·exact h
  ·next z=>
   rw[arV]
   exact⟨h,by simp,fun a ha b hb e=>z (by rw[aq7.mp hb]at e;exact e ▸ ha)⟩
theorem YC:∀(l acc:List Row3),(l.foldl Fp acc).length<=acc.length+l.length
 |[],acc=>by simp
 |x::l,acc=>by
  rw[asl]
  refine arv (YC l _) ?_
  unfold Fp
  split <;> simp <;> omega
def cost:bL->Nat
 |.enrol ..=>1
 |.bring ..=>1
 |.bear ..=>1
 |.heir ..=>1
 |_=>0
theorem oH{o room:Int}{e:List Int}{R:List Rw}{x:Res}{d:Dat}{c':aK}(h:xg o e R room x=.ok d c'):x=.ok d c':=by
 unfold xg at h
 split at h
 ·exact h
 ·cases h
theorem fO{c:aK}{o:Int}{x:Res}{d:Dat}{c':aK}(h:tY c o x=.ok d c'):o∈c.own/\x=.ok d c':=by
 unfold tY at h
 split at h
 ·next z=>exact⟨z,h⟩
 ·cases h
theorem fY{c:aK}{g:Int}{x:Res}{d:Dat}{c':aK}(h:w6 c g x=.ok d c'):Vg c g/\x=.ok d c':=by
 unfold w6 at h
 split at h
 ·next z=>exact⟨z,h⟩
 ·cases h
theorem Cv{e:List Int}{x:Res}{d:Dat}{c':aK}(h:Ku e x=.ok d c'):dw e=true/\x=.ok d c':=by
 unfold Ku at h
 split at h
 ·next z=>exact⟨z,h⟩
 ·cases h
theorem gK{c:aK}{o g:Int}{x:Res}{d:Dat}{c':aK}(h:pA c o g x=.ok d c'):bU c o g≠[]/\x=.ok d c':=by
 unfold pA at h
 split at h
 ·cases h
 ·next z=>exact⟨z,h⟩
theorem rQ{c:aK}{k:Int}{f:cV->Res}{d:Dat}{c':aK}(h:xJ c k f=.ok d c'):∃b,bk c k=some b/\b.sd.al=true/\f b=.ok d c':=by
 unfold xJ at h
 split at h
 ·cases h
 ·next b hb=>
  split at h
  ·next z=>exact⟨b,hb,z,h⟩
  ·cases h
theorem rA{c:aK}{k:Int}{f:cV->List Int->Res}{d:Dat}{c':aK}(h:markB c k f=.ok d c'):∃b e,bk c k=some b/\b.sd.al=true/\b.sd.due=some e/\f b e=.ok d c':=by
 obtain⟨b,h1,h2,h3⟩:=rQ h
 split at h3
 ·cases h3
 ·next e he=>exact⟨b,e,h1,h2,he,h3⟩
theorem eX{p:Prop}[Decidable p]{x:dU}{y:Res}{d:Dat}{c':aK}(h:(if p then .no x else y)=Res.ok d c'):¬p/\y=.ok d c':=by
 split at h
 ·cases h
 ·next z=>exact⟨z,h⟩
theorem uI{p:Prop}[Decidable p]{x:dU}{y:Res}{d:Dat}{c':aK}(h:(if p then y else .no x)=Res.ok d c'):p/\y=.ok d c':=by
 split at h
 ·next z=>exact⟨z,h⟩
 ·cases h
theorem jW{c:aK}{k:Int}{b:cV}(h:bk c k=some b):c.bs[(k - 1).toNat]?=some b/\1<=k/\k<=c.bs.length:=by
 unfold bk at h
 split at h
 ·next z=>exact⟨h,z⟩
 ·cases h
theorem RB(c:aK)(k o g:Int):(wI c k o g).bs.length=c.bs.length:=by simp[wI,nH]
theorem Dr(c:aK)(i:Nat)(e:En):(fH c i e).bs.length=c.bs.length:=by simp[fH]
theorem ae1{n s:Nat}{c c':aK}{d:bL}{r:Dat}(I:Inv n s c)(hn:n<=199)(h:cY c d=.ok r c'):Inv (n+1) (s+cost d) c':=by
 have L0:=I.hL
 have A0:=I.al
 have C0:=I.cnt
 have O0:=I.ownL
 have up:RM (2 * (n+1)) c:=⟨I.Wz.g,fun b hb=>by have:=I.en b hb;omega⟩
 cases d with
 |owner=>
  cases h
  refine⟨I.gr.same rfl rfl,by show c.al.length<=_;omega,⟨by show 0<=c.count+1;omega,by show c.count+1<=((n+1:Nat):Int);omega⟩,fun o ho=>?_,?_,by simp;omega,I.held,by simp[cost];omega,fun r hr=>?_,I.ear,I.due,up.en,I.rt⟩
  ·show 1<=o/\o<=c.count+1
   rcases arb.mp ho with ho|ho
   ·have:=I.own o ho
    omega
   ·rw[aq7.mp ho]
    omega
  ·rw[arV]
   refine⟨I.Oz,by simp,fun a ha b hb e=>?_⟩
   rw[aq7.mp hb]at e
   have:=I.own a ha
   omega
  ·obtain⟨h1,h2,h3⟩:=I.hE r hr
   exact⟨arJ _ h1,h2,h3⟩
 |ground x=>
  obtain⟨hx,h⟩:=uI h
  cases h
  refine I.of (by omega) (I.gr.add (by omega) hx) (by simp;omega) rfl rfl I.held (by simp[cost];omega) (fun r hr=>?_) ⟨up.g,up.en⟩
  obtain⟨h1,h2,h3⟩:=I.hE r hr
  refine⟨h1,?_,h3⟩
  show 1<=_/\_<=((c.al++[x]).length:Int)
  rw[arT]
  have:=h2.2
  exact⟨h2.1,by omega⟩
 |enrol o g m=>
  obtain⟨h1,h⟩:=fO h
  obtain⟨h2,h⟩:=fY h
  obtain⟨h3,h⟩:=Cv h
  obtain⟨h4,h⟩:=eX h
  obtain⟨h5,h⟩:=eX h
  have h:=oH h
  cases h
  refine I.of (by omega) (I.gr.same rfl rfl) (by show c.al.length<=_;omega) rfl rfl ?_ (by simp[cost];omega) (fun r hr=>?_) ⟨fun b hb=>(up.g b hb).mono fun r hr=>arJ _ hr,up.en⟩
  ·rw[arV]
   refine⟨I.held,by simp,fun a ha b hb e=>?_⟩
   rw[aq7.mp hb]at e
   exact h5 (Ep.mpr (e ▸ ha))
  ·rcases arb.mp hr with hr|hr
   ·exact I.hE r hr
   ·rw[aq7.mp hr]
    exact⟨h1,h2,h3⟩
 |leave o g=>
  obtain⟨h1,h⟩:=fO h
  obtain⟨h2,h⟩:=fY h
  obtain⟨h3,h⟩:=gK h
  obtain⟨h4,h⟩:=eX h
  cases h
  have sub:∀r∈dropped c o g,r∈c.held:=fun r hr=>(arp.mp hr).1
  have ln:(dropped c o g).length<=c.held.length:=arj _ _
  refine I.of (by omega) (I.gr.same rfl rfl) (by show c.al.length<=_;omega) rfl rfl (I.held.filter _) (by simp[cost];omega) (fun r hr=>I.hE r (sub r hr)) ⟨fun b hb=>⟨(up.g b hb).1,(up.g b hb).2.1,fun hal=>?_⟩,up.en⟩
  obtain⟨m,hm⟩:=(up.g b hb).2.2 hal
  refine⟨m,arp.mpr ⟨hm,?_⟩⟩
  simp only[ark,Bool.and_eq_false_iff,beq_eq_false_iff_ne]
  by_cases e:b.sd.o=o/\b.sd.g=g
  ·exfalso
   refine h4 (List.any_eq_true.mpr ⟨b,hb,?_⟩)
   simp[Xw,hal,e.1,e.2]
  ·by_cases e1:b.sd.o=o
   ·exact .inr fun z=>e ⟨e1,z⟩
   ·exact .inl e1
 |bring o g e=>
  obtain⟨h1,h⟩:=fO h
  obtain⟨h2,h⟩:=fY h
  obtain⟨h3,h⟩:=Cv h
  obtain⟨h4,h⟩:=gK h
  cases h
  refine I.of (by omega) (I.gr.same rfl rfl) (by show c.al.length<=_;omega) rfl rfl I.held (by simp[cost];omega) I.hE ⟨fun b hb=>?_,fun b hb=>?_⟩
  ·rcases arb.mp hb with hb|hb
   ·exact up.g b hb
   ·rw[aq7.mp hb]
    exact⟨h3,fun e z=>(by cases z),fun _=>zG.mp h4⟩
  ·rcases arb.mp hb with hb|hb
   ·exact up.en b hb
   ·rw[aq7.mp hb]
    simp[yO]
 |bear k=>
  obtain⟨b0,e0,h1,h2,h3,h⟩:=rA h
  cases h
  refine I.of (by omega) (I.gr.same rfl rfl) (by show c.al.length<=_;omega) rfl rfl I.held (by simp[cost];omega) I.hE ⟨fun b hb=>?_,fun b hb=>?_⟩
  ·rcases arb.mp hb with hb|hb
   ·exact up.g b hb
   ·rw[aq7.mp hb]
    exact⟨(by decide:dw [0,0,0,0,0,0]=true),fun e z=>(by cases z),fun _=>(up.g b0 (aq6 (jW h1).1)).2.2 h2⟩
  ·rcases arb.mp hb with hb|hb
   ·exact up.en b hb
   ·rw[aq7.mp hb]
    simp[yO]
 |cut k=>
  obtain⟨b0,h1,h2,h⟩:=rQ h
  have h:=oH h
  cases h
  have hm:=aq6 (jW h1).1
  obtain⟨r,q4,q5⟩:=I.mk1 (I.alive hm h2).1
  have je:=DQ (I.ear b0 hm) q5
  generalize jX b0.sd.ear (firstM c b0.sd.o b0.sd.g)=e at je ⊢
  have B:=I.Wz.one (i:=(k - 1).toNat) (e:=.cut e) fun b hb=>by
   rw[(jW h1).1]at hb
   cases hb
   exact⟨je,fun e z=>(by cases z;exact je),fun _=>I.rt b0 hm h2⟩
  exact I.of (by omega) (I.gr.same rfl rfl) (by show c.al.length<=_;omega) rfl rfl I.held (by rw[Dr];simp[cost,fH];omega) I.hE ⟨B.g,fun b hb=>by have:=B.en b hb;omega⟩
 |tear k p=>
  obtain⟨b0,h1,h2,h⟩:=rQ h
  obtain⟨h3,h⟩:=uI h
  obtain⟨h4,h⟩:=eX h
  cases h
  have hm:=aq6 (jW h1).1
  have B:=I.Wz.one (i:=(k - 1).toNat) (e:=.torn p.toNat) fun b hb=>by
   rw[(jW h1).1]at hb
   cases hb
   exact⟨acd (I.ear b0 hm) h4,I.due b0 hm,I.rt b0 hm⟩
  exact I.of (by omega) (I.gr.same rfl rfl) (by show c.al.length<=_;omega) rfl rfl I.held (by rw[Dr];simp[cost,fH];omega) I.hE ⟨B.g,fun b hb=>by have:=B.en b hb;omega⟩
 |die k=>
  obtain⟨b0,h1,h2,h⟩:=rQ h
  cases h
  have hm:=aq6 (jW h1).1
  have B:=I.Wz.one (i:=(k - 1).toNat) (e:=.died) fun b hb=>by
   rw[(jW h1).1]at hb
   cases hb
   exact⟨I.ear b0 hm,I.due b0 hm,fun z=>by cases z⟩
  exact I.of (by omega) (I.gr.same rfl rfl) (by show c.al.length<=_;omega) rfl rfl I.held (by rw[Dr];simp[cost,fH];omega) I.hE ⟨B.g,fun b hb=>by have:=B.en b hb;omega⟩
 |sell k o=>
  obtain⟨b0,e0,h1,h2,h3,h⟩:=rA h
  obtain⟨h4,h⟩:=fO h
  obtain⟨h5,h⟩:=eX h
  obtain⟨h6,h⟩:=gK h
  have h:=oH h
  cases h
  have hm:=aq6 (jW h1).1
  obtain⟨r,q4,q5⟩:=I.mk1 h6
  have je:=DQ (I.ear b0 hm) q5
  generalize jX b0.sd.ear (firstM c o b0.sd.g)=e at je ⊢
  have B:=I.Wz.one (i:=(k - 1).toNat) (e:=.sold o e) fun b hb=>by
   rw[(jW h1).1]at hb
   cases hb
   exact⟨je,fun e z=>(by cases z;exact je),fun _=>zG.mp h6⟩
  have B2:=B.many (p:=fun x=>uR k x&&x.sd.al) (e:=.followed o b0.sd.g) fun b hb _=>⟨(B.g b hb).1,(B.g b hb).2.1,fun _=>zG.mp h6⟩
  exact I.of (by omega) (I.gr.same rfl rfl) (by show c.al.length<=_;omega) rfl rfl I.held (by rw[RB,Dr];simp[cost,fH,wI,nH];omega) I.hE ⟨B2.g,fun b hb=>by have:=B2.en b hb;omega⟩
 |move k g=>
  obtain⟨b0,e0,h1,h2,h3,h⟩:=rA h
  obtain⟨h4,h⟩:=fY h
  obtain⟨h5,h⟩:=eX h
  obtain⟨h6,h⟩:=gK h
  have h:=oH h
  cases h
  have hm:=aq6 (jW h1).1
  have B:=I.Wz.one (i:=(k - 1).toNat) (e:=.moved g) fun b hb=>by
   rw[(jW h1).1]at hb
   cases hb
   exact⟨I.ear b0 hm,I.due b0 hm,fun _=>zG.mp h6⟩
  have B2:=B.many (p:=fun x=>uR k x&&x.sd.al) (e:=.followed b0.sd.o g) fun b hb _=>⟨(B.g b hb).1,(B.g b hb).2.1,fun _=>zG.mp h6⟩
  exact I.of (by omega) (I.gr.same rfl rfl) (by show c.al.length<=_;omega) rfl rfl I.held (by rw[RB,Dr];simp[cost,fH,wI,nH];omega) I.hE ⟨B2.g,fun b hb=>by have:=B2.en b hb;omega⟩
 |vY x y=>
  obtain⟨h1,h⟩:=fY h
  obtain⟨h2,h⟩:=fY h
  obtain⟨h3,h⟩:=eX h
  split at h
  ·cases h
  ·cases h
   exact I.of (by omega) (I.gr.vY h2 h1 h3) (by show c.al.length<=_;omega) rfl rfl I.held (by show c.held.length+c.bs.length<=_;omega) I.hE ⟨up.g,up.en⟩
 |part x=>
  obtain⟨h1,h⟩:=fY h
  obtain⟨h3,h⟩:=eX h
  cases h
  exact I.of (by omega) (I.gr.part h1) (by show c.al.length<=_;omega) rfl rfl I.held (by show c.held.length+c.bs.length<=_;omega) I.hE ⟨up.g,up.en⟩
 |pass e h'=>
  obtain⟨h1,h⟩:=fO h
  obtain⟨h2,h⟩:=fO h
  obtain⟨h3,h⟩:=eX h
  cases h
  have hin:∀r∈c.held,zX e h' r∈handed c e h':=fun r hr=>(Ja _ _).mpr (.inr (arf.mpr ⟨r,hr,rfl⟩))
  have hout:∀r∈handed c e h',∃r0∈c.held,zX e h' r0=r:=fun r hr=>by
   rcases(Ja _ _).mp hr with z|z
   ·cases z
   ·obtain⟨r0,z1,z2⟩:=arf.mp z
    exact⟨r0,z1,z2⟩
  have hl:(handed c e h').length<=c.held.length:=by
   have:=YC (c.held.map (zX e h')) []
   simpa [handed] using this
  have ow:∀o,o∈c.own.filter (fun o=>!(o==e))↔o∈c.own/\o≠e:=fun o=>by
   rw[arp]
   simp
  have g:∀b∈(nH (fun b=>(b.sd.o==e)&&b.sd.al) (.passed h') c).bs,Good (handed c e h') b.sd:=fun b hb=>by
   obtain⟨b0,hb0,rfl⟩:=arf.mp hb
   have G:=up.g b0 hb0
   cases hp:((b0.sd.o==e)&&b0.sd.al) with
   |true=>
    simp only[hp,if_true]
    refine⟨G.1,G.2.1,fun hal=>?_⟩
    obtain⟨m,hm⟩:=G.2.2 hal
    have:=hin _ hm
    simp at hp
    rw[hp.1]at this
    exact⟨m,by simpa [zX,mJ,go] using this⟩
   |false=>
    simp only[hp]
    refine⟨G.1,G.2.1,fun hal=>?_⟩
    obtain⟨m,hm⟩:=G.2.2 hal
    have:=hin _ hm
    have hal:b0.sd.al=true:=hal
    rw[hal]at hp
    simp at hp
    exact⟨m,by simpa [zX,hp] using this⟩
  have en:∀b∈(nH (fun b=>(b.sd.o==e)&&b.sd.al) (.passed h') c).bs,b.en.length<=2 * (n+1):=fun b hb=>by
   obtain⟨b0,hb0,rfl⟩:=arf.mp hb
   have:=I.en b0 hb0
   dsimp only
   split
   ·simp[mJ]
    omega
   ·omega
  refine⟨I.gr.same rfl rfl,by show c.al.length<=_;omega,⟨C0.1,by show c.count<=_;omega⟩,fun o ho=>I.own o ((ow o).mp ho).1,I.Oz.filter _,?_,Qz _ _ (by simp),?_,fun r hr=>?_,fun b hb=>(g b hb).1,fun b hb=>(g b hb).2.1,en,fun b hb=>(g b hb).2.2⟩
  ·show(c.own.filter _).length<=_
   have:=arj (fun o=>!(o==e)) c.own
   omega
  ·show(handed c e h').length+(nH _ _ c).bs.length<=_
   simp[nH]
   omega
  ·obtain⟨r0,z1,rfl⟩:=hout r hr
   obtain⟨q1,q2,q3⟩:=I.hE r0 z1
   refine⟨(ow _).mpr ?_,q2,q3⟩
   unfold zX
   by_cases z:r0.1=e
   ·simp only[z,if_true]
    exact⟨h2,fun q=>h3 q.symm⟩
   ·simp only[z,if_false]
    exact⟨q1,z⟩
 |heir e g x=>
  obtain⟨h1,h⟩:=fO h
  obtain⟨h2,h⟩:=fY h
  obtain⟨h3,h⟩:=uI h
  obtain⟨h4,h⟩:=gK h
  split at h
  ·next mk hmk=>
   cases h
   obtain⟨r,q4,q5⟩:=I.mk1 h4
   have hme:dw mk=true:=VD q5 ⟨by omega,h3.2⟩ (arp.mp (List.mem_of_find?_eq_some hmk)).1
   refine⟨I.gr.same rfl rfl,by show c.al.length<=_;omega,⟨by show 0<=c.count+1;omega,by show c.count+1<=((n+1:Nat):Int);omega⟩,fun o ho=>?_,?_,by simp;omega,?_,by simp[cost];omega,fun r hr=>?_,I.ear,I.due,up.en,fun b hb hal=>?_⟩
   ·show 1<=o/\o<=c.count+1
    rcases arb.mp ho with ho|ho
    ·have:=I.own o ho
     omega
    ·rw[aq7.mp ho]
     omega
   ·rw[arV]
    refine⟨I.Oz,by simp,fun a ha b hb e=>?_⟩
    rw[aq7.mp hb]at e
    have:=I.own a ha
    omega
   ·rw[arV]
    refine⟨I.held,by simp,fun a ha b hb e=>?_⟩
    rw[aq7.mp hb]at e
    have:=I.own _ (I.hE a ha).1
    rw[e]at this
    simp at this
    omega
   ·rcases arb.mp hr with hr|hr
    ·obtain⟨z1,z2,z3⟩:=I.hE r hr
     exact⟨arJ _ z1,z2,z3⟩
    ·rw[aq7.mp hr]
     exact⟨arL _ (by simp),h2,hme⟩
   ·obtain⟨m,hm⟩:=I.rt b hb hal
    exact⟨m,arJ _ hm⟩
  ·cases h
def nB(x:Int):Bool:=decide (0<=x)&&decide (x<=999999999)
def plB(x:Int):Bool:=decide (0<=x)&&decide (x<=5)
theorem m7(M:Mo)(x:Int):iV M [.str "number",.int x]=.ok (.bool (nB x)):=by
 by_cases h:0<=x <;> simp[iV,vA,oM,jc,zq,Bs,h,nB]
theorem jf(M:Mo)(x:Int):iV M [.str "place",.int x]=.ok (.bool (plB x)):=by
 by_cases h:0<=x <;> simp[iV,vA,oM,jc,zq,Bs,h,plB]
theorem adP(M:Mo)(x:List Int)(h:x.length<=1000):iV M [.str "ear",aJ x]=.ok (.bool (dw x)):=by
 have:=Vt M x h
 simp[iV,vA,zq,Bs,this]
def fX:bL->Bool
 |.owner=>true
 |.ground x=>nB x
 |.enrol o g m=>nB o&&nB g&&dw m
 |.leave o g=>nB o&&nB g
 |.bring o g m=>nB o&&nB g&&dw m
 |.bear k=>nB k
 |.cut k=>nB k
 |.tear k p=>nB k&&plB p
 |.sell k o=>nB k&&nB o
 |.move k g=>nB k&&nB g
 |.die k=>nB k
 |.vY x y=>nB x&&nB y
 |.part x=>nB x
 |.pass e h=>nB e&&nB h
 |.heir e g x=>nB e&&nB g&&nB x
def Mr:bL->Prop
 |.enrol _ _ m=>m.length<=1000
 |.bring _ _ m=>m.length<=1000
 |_=>True
theorem jd(M:Mo)(w:Str)(T:List (Str×Dat×Bool))(hk:(zP zp).lookup w=some (.tuple (T.map fun t=>.str t.1)))(hl:T.length<=10)(hp:∀t∈T,iV M [.str t.1,t.2.1]=.ok (.bool t.2.2)):Gg M [.tuple (.str w::T.map fun t=>t.2.1)]=.ok (.bool (T.all fun t=>t.2.2)):=by
 have hs:Rf.cutD (PyData.str w::T.map fun t=>t.2.1) (some 1) none=T.map fun t=>t.2.1:=Zj _ 1
 have hz:xU (T.map fun t=>PyData.str t.1) (T.map fun t=>t.2.1)=T.map fun t=>.tuple [.str t.1,t.2.1]:=by
  unfold xU
  rw[List.zipWith_map_left,List.zipWith_map_right,List.zipWith_self]
 have key:=dW (tg:=bx [3,4]) (te:=aZ iV (ak (aq 3) (ak (aq 4) au))) (M:=M) (ρ:=[some (.dat (.tuple (.str w::T.map fun t=>t.2.1))),some (.dat (.tuple (T.map fun t=>.str t.1))),some (.dat (.tuple (T.map fun t=>t.2.1))),none,none]) (fun(t:Str×Dat×Bool)=>PyData.tuple [.str t.1,t.2.1]) (fun t=>.bool t.2.2) T fun t ht=>⟨[some (.dat (.tuple (.str w::T.map fun t=>t.2.1))),some (.dat (.tuple (T.map fun t=>.str t.1))),some (.dat (.tuple (T.map fun t=>t.2.1))),some (.dat (.str t.1)),some (.dat t.2.1)],by simp,by simp[hp t ht]⟩
 have ha:Jp (.list (T.map fun t=>PyData.bool t.2.2))=.ok (.bool (T.all fun t=>t.2.2)):=by
  have e:(T.map fun t=>PyData.bool t.2.2)=(T.map fun t=>t.2.2).map PyData.bool:=by rw[arA];rfl
  rw[e]
  show(match qU _ with
   |some bs=>Out.ok (PyData.bool (bs.all id))
   |none=>.bad)=_
  rw[Ac]
  simp[List.all_map,arq]
 have hl2:T.length<=50000:=by omega
 have hne:¬(T.length:Int)+1=0:=by omega
 simp[Gg,YJ,hk,hs,hz,key,hl2,ha,hne]
theorem agG(M:Mo)(d:bL)(hd:Mr d):Gg M [d.dat]=.ok (.bool (fX d)):=by
 cases d with
 |owner=>simpa [fX,bL.dat,Bool.and_assoc] using jd M "owner" [] (by rfl) (by simp) (by simp[m7,jf])
 |ground x=>simpa [fX,bL.dat,Bool.and_assoc] using jd M "ground" [("number",.int x,nB x)] (by rfl) (by simp) (by simp[m7,jf])
 |enrol o g m=>simpa [fX,bL.dat,Bool.and_assoc] using jd M "enrol" [("number",.int o,nB o),("number",.int g,nB g),("ear",aJ m,dw m)] (by rfl) (by simp) (by simp[m7,jf,adP M m hd])
 |leave o g=>simpa [fX,bL.dat,Bool.and_assoc] using jd M "leave" [("number",.int o,nB o),("number",.int g,nB g)] (by rfl) (by simp) (by simp[m7,jf])
 |bring o g m=>simpa [fX,bL.dat,Bool.and_assoc] using jd M "bring" [("number",.int o,nB o),("number",.int g,nB g),("ear",aJ m,dw m)] (by rfl) (by simp) (by simp[m7,jf,adP M m hd])
 |bear k=>simpa [fX,bL.dat,Bool.and_assoc] using jd M "bear" [("number",.int k,nB k)] (by rfl) (by simp) (by simp[m7,jf])
 |cut k=>simpa [fX,bL.dat,Bool.and_assoc] using jd M "cut" [("number",.int k,nB k)] (by rfl) (by simp) (by simp[m7,jf])
 |tear k p=>simpa [fX,bL.dat,Bool.and_assoc] using jd M "tear" [("number",.int k,nB k),("place",.int p,plB p)] (by rfl) (by simp) (by simp[m7,jf])
 |sell k o=>simpa [fX,bL.dat,Bool.and_assoc] using jd M "sell" [("number",.int k,nB k),("number",.int o,nB o)] (by rfl) (by simp) (by simp[m7,jf])
 |move k g=>simpa [fX,bL.dat,Bool.and_assoc] using jd M "move" [("number",.int k,nB k),("number",.int g,nB g)] (by rfl) (by simp) (by simp[m7,jf])
 |die k=>simpa [fX,bL.dat,Bool.and_assoc] using jd M "die" [("number",.int k,nB k)] (by rfl) (by simp) (by simp[m7,jf])
 |vY x y=>simpa [fX,bL.dat,Bool.and_assoc] using jd M "unite" [("number",.int x,nB x),("number",.int y,nB y)] (by rfl) (by simp) (by simp[m7,jf])
 |part x=>simpa [fX,bL.dat,Bool.and_assoc] using jd M "part" [("number",.int x,nB x)] (by rfl) (by simp) (by simp[m7,jf])
 |pass e h=>simpa [fX,bL.dat,Bool.and_assoc] using jd M "pass" [("number",.int e,nB e),("number",.int h,nB h)] (by rfl) (by simp) (by simp[m7,jf])
 |heir e g x=>simpa [fX,bL.dat,Bool.and_assoc] using jd M "heir" [("number",.int e,nB e),("number",.int g,nB g),("number",.int x,nB x)] (by rfl) (by simp) (by simp[m7,jf])
theorem j5{M:Mo}{L:Lay}{o o':bf Dat}{r:Res}(h:Sp M L o r)(e:o'=o):Sp M L o' r:=e ▸ h
section
variable{M:Mo}{L:Lay}{c:aK}(a:At M L c){n s:Nat}(I:Inv n s c)(hs:s<=76)(hn:n<=199)
include a I hs hn
theorem alK(d:bL)(hd:Mr d)(hf:fX d=true):Sp M L (cQ M [ob L.c,d.dat]) (cY c d):=by
 have hc:=a.hc
 have h0:=agG M d hd
 rw[hf]at h0
 cases d with
 |owner=>
  simp only[bL.dat]at h0 ⊢
  refine j5 (ail a I hn) ?_
  simp[cQ,cX,h0,hc,aP,iy]
  cases iJ M _ <;> rfl
 |ground x=>
  simp only[bL.dat]at h0 ⊢
  refine j5 (aeZ a I hn x) ?_
  simp[cQ,cX,h0,hc,aP,ql]
  cases iw M _ <;> rfl
 |enrol o g m=>
  simp only[bL.dat]at h0 ⊢
  refine j5 (aio a I hs o g m hd) ?_
  simp[cQ,cX,h0,hc,aP,v9]
  cases dR M _ <;> rfl
 |leave o g=>
  simp only[bL.dat]at h0 ⊢
  refine j5 (aie a I hs o g) ?_
  simp[cQ,cX,h0,hc,aP,vZ]
  cases gj M _ <;> rfl
 |bring o g m=>
  simp only[bL.dat]at h0 ⊢
  refine j5 (ah5 a I hs o g m hd) ?_
  simp[cQ,cX,h0,hc,aP,wu]
  cases gD M _ <;> rfl
 |bear k=>
  simp only[bL.dat]at h0 ⊢
  refine j5 (akJ a I hs k) ?_
  simp[cQ,cX,h0,hc,aP,xM]
  cases jw M _ <;> rfl
 |cut k=>
  simp only[bL.dat]at h0 ⊢
  refine j5 (alH a I hs (by omega) k) ?_
  simp[cQ,cX,h0,hc,aP,zK]
  cases jO M _ <;> rfl
 |tear k p=>
  simp only[bL.dat]at h0 ⊢
  refine j5 (akj a I hs k p (by omega)) ?_
  simp[cQ,cX,h0,hc,aP,yF]
  cases fP M _ <;> rfl
 |sell k o=>
  simp only[bL.dat]at h0 ⊢
  refine j5 (aiw a I hs (by omega) k o) ?_
  simp[cQ,cX,h0,hc,aP,xZ]
  cases dI M _ <;> rfl
 |move k g=>
  simp only[bL.dat]at h0 ⊢
  refine j5 (ajl a I hs (by omega) k g) ?_
  simp[cQ,cX,h0,hc,aP,yC]
  cases dJ M _ <;> rfl
 |die k=>
  simp only[bL.dat]at h0 ⊢
  refine j5 (alU a I hs k (by omega)) ?_
  simp[cQ,cX,h0,hc,aP,zf]
  cases lH M _ <;> rfl
 |vY x y=>
  simp only[bL.dat]at h0 ⊢
  refine j5 (agF a I hs (by omega) x y) ?_
  simp[cQ,cX,h0,hc,aP,wB]
  cases gA M _ <;> rfl
 |part x=>
  simp only[bL.dat]at h0 ⊢
  refine j5 (ak2 a I hs (by omega) x) ?_
  simp[cQ,cX,h0,hc,aP,yg]
  cases jY M _ <;> rfl
 |pass e h=>
  simp only[bL.dat]at h0 ⊢
  refine j5 (akL a I hs (by omega) e h) ?_
  simp[cQ,cX,h0,hc,aP,tZ]
  cases fV M _ <;> rfl
 |heir e g x=>
  simp only[bL.dat]at h0 ⊢
  refine j5 (ajG a I hs (by omega) e g x) ?_
  simp[cQ,cX,h0,hc,aP,sS]
  cases cW M _ <;> rfl
end
theorem ae0{c:aK}{d:bL}{x:dU}(h:cY c d=.no x):uZ.lookup x.cls=some true:=by
 cases d <;> simp only[cY,tY,w6,Ku,pA,xg,xJ,markB,GZ]at h <;> (repeat' split at h) <;> cases h <;> simp[uZ]
def ab5:bL->Nat
 |.owner=>1
 |.heir ..=>1
 |_=>0
def dGr:bL->Nat
 |.ground _=>1
 |_=>0
def dBs:bL->Nat
 |.bring ..=>1
 |.bear _=>1
 |_=>0
theorem aan{c c':aK}{d:bL}{r:Dat}(h:cY c d=.ok r c'):c'.count=c.count+(ab5 d:Int)/\c'.al.length=c.al.length+dGr d/\c'.bs.length=c.bs.length+dBs d/\(lF .none r=true->ab5 d=0/\dGr d=0/\dBs d=0):=by
 cases d <;> simp only[cY,tY,w6,Ku,pA,xg,xJ,markB]at h <;> (repeat' split at h) <;> cases h <;> simp[ab5,dGr,dBs,lF,fH,wI,nH,lI]
def qW(c:aK)(d:bL):aK:=match cY c d with
 |.ok _ c'=>c'
 |.no _=>c
def lW(c:aK):Dat:=.tuple [.int c.count,.int c.al.length,.int c.bs.length]
section
variable{M:Mo}{L:Lay}{c:aK}(a:At M L c){n s:Nat}(I:Inv n s c)(hs:s<=76)(hn:n<=199)
include I hn
omit hn in
theorem Y9(d:bL)(hn:n<=199):Inv (n+1) (s+cost d) (qW c d):=by
 unfold qW
 cases h:cY c d with
 |ok r c'=>exact ae1 I hn h
 |no x=>
  have h1:=I.hL
  have h2:=I.al
  exact I.of (by omega) I.gr (by show c.al.length<=_;omega) rfl rfl I.held (by show c.held.length+c.bs.length<=_;omega) I.hE ⟨I.Wz.g,fun b hb=>by have:=I.en b hb;omega⟩
include a hs
theorem ah8(d:bL)(hd:Mr d)(hf:fX d=true):∃M' bs,rM M [ob L.c,d.dat,lW c]=.ok (lW (qW c d)) M'/\At M' { L with bs:=bs } (qW c d):=by
 have hc:=a.hc
 have h0:=alK a I hs hn d hd hf
 unfold qW
 cases e:cY c d with
 |no x=>
  rw[e]at h0
  have h0:_=_:=h0
  have h1:=ae0 e
  exact⟨M,L.bs,by simp[rM,Mh,hc,aP,rK,h0,h1,lF],a⟩
 |ok r c'=>
  rw[e]at h0
  obtain⟨M',bs,h0,h2⟩:=h0
  obtain⟨q1,q2,q3,q4⟩:=aan e
  refine⟨M',bs,?_,h2⟩
  have e1:(c'.al.length:Int)=c.al.length+(dGr d:Int):=by omega
  have e2:(c'.bs.length:Int)=c.bs.length+(dBs d:Int):=by omega
  cases hr:lF .none r with
  |true=>
   obtain⟨z1,z2,z3⟩:=q4 hr
   simp[z1,z2,z3]at q1 e1 e2
   simp[rM,Mh,hc,aP,rK,h0,hr,lW,q1,e1,e2]
  |false=>
   clear q4 q2 q3 e hf hd
   cases d <;> simp[ab5,dGr,dBs]at q1 e1 e2 <;> simp[rM,Mh,hc,aP,rK,h0,hr,lW,q1,e1,e2] <;> simp[bL.dat]
end
def MJ(f:Int):Int:=if f=9 then -1 else if f=8 then 3 else if f=7 then 2 else if f=6 then 1 else if f=5 then 1 else 0
def Mw(d f:Int):Int:=Ox 0 (if d+MJ f < 9 then d+MJ f else 9)
def SJ(x f:List Int):List Int:=(x.zip f).map fun p=>Mw p.1 p.2
theorem aeH(M:Mo)(x0 x1:Option Cell)(acc:List Dat)(d f:Int)(x5:Option Cell)(hf:0<=f/\f < 10)(hl:acc.length < 1000):∃x5',Qh M [x0,x1,some (.mut acc),some (.dat (.int d)),some (.dat (.int f)),x5]=.next [x0,x1,some (.mut (acc++[.int (Mw d f)])),some (.dat (.int d)),some (.dat (.int f)),x5'] M:=by
 have hl2:acc.length < 100000:=by omega
 have key:∀k:Nat,k < 10->([0,0,0,0,0,1,1,2,3,-1]:List Int)[k]?=some (MJ k):=by decide
 obtain⟨k,rfl⟩:∃k:Nat,f=k:=⟨f.toNat,by omega⟩
 have hk:=key k (by omega)
 have h2:atI (([0,0,0,0,0,1,1,2,3,-1]:List Int).map PyData.int) (k:Int)=some (.int (MJ k)):=atI_nat (by rw[ard,hk];rfl)
 refine⟨some (.dat (.int (MJ k))),?_⟩
 have h3:bB (aF 5) (gOf (aA aW (bJ (ak (qC (.int 0)) (ak (qC (.int 0)) (ak (qC (.int 0)) (ak (qC (.int 0)) (ak (qC (.int 0)) (ak (qC (.int 1)) (ak (qC (.int 1)) (ak (qC (.int 2)) (ak (qC (.int 3)) (ak (fj Vd (qC (.int 1))) au))))))))))) (ao 4))) M [x0,x1,some (.mut acc),some (.dat (.int d)),some (.dat (.int k)),x5]=.next [x0,x1,some (.mut acc),some (.dat (.int d)),some (.dat (.int k)),some (.dat (.int (MJ k)))] M:=by
  show(((match atI (([0,0,0,0,0,1,1,2,3,-1]:List Int).map PyData.int) (k:Int) with
   |some d=>Out.ok d
   |none=>.bad).at M).then _ fun d M'=>_)=_
  rw[h2]
  rfl
 show aD _ _ _ _=_
 rw[ajh,h3]
 simp[hl2,Mw,Ox]
theorem V3(M:Mo)(x0 x1:Option Cell):∀(ps:List (Int×Int)) (acc:List Dat) (x3 x4 x5:Option Cell),(∀p∈ps,0<=p.2/\p.2 < 10)->acc.length+ps.length<=500->∃x3' x4' x5',gR (bx [3,4]) Qh (ps.map pD) M [x0,x1,some (.mut acc),x3,x4,x5]=.next [x0,x1,some (.mut (acc++ps.map fun p=>.int (Mw p.1 p.2))),x3',x4',x5'] M
 |[],acc,x3,x4,x5,_,_=>⟨x3,x4,x5,by simp[gR]⟩
 |p::ps,acc,x3,x4,x5,h,hl=>by
  rw[ari]at hl
  obtain⟨x5',e⟩:=aeH M x0 x1 acc p.1 p.2 x5 (h p aq4) (by omega)
  obtain⟨y3,y4,y5,ih⟩:=V3 M x0 x1 ps (acc++[.int (Mw p.1 p.2)]) (some (.dat (.int p.1))) (some (.dat (.int p.2))) x5' (fun q hq=>h q (aq5 _ hq)) (by simp;omega)
  refine⟨y3,y4,y5,?_⟩
  rw[aq3,iD (ρ1:=[x0,x1,some (.mut acc),some (.dat (.int p.1)),some (.dat (.int p.2)),x5]) (by simp[pD]) e,ih]
  simp
theorem ah7(M:Mo)(x f:List Int)(hx:x.length<=100)(hf:∀d∈f,0<=d/\d < 10):KJ M [aJ x,lI f]=.ok (aJ (SJ x f)):=by
 obtain⟨y3,y4,y5,e⟩:=V3 M (some (.dat (aJ x))) (some (.dat (lI f))) (x.zip f) [] none none none (fun p hp=>hf _ (List.of_mem_zip hp).2) (by simp;omega)
 simp[KJ,Yu,zE,e,SJ]
def Hz(f:List Int)(m:Int)(x:List Int):List Int:=if m < 4 then SJ x f else zQ f m
theorem ab4(M:Mo)(x f:List Int)(m:Int)(hx:x.length<=100)(hl:f.length<=1000)(hf:∀d∈f,0<=d/\d < 10):wL M [lI f,.int m,aJ x]=.ok (aJ (Hz f m x)):=by
 have h1:=ah7 M x f hx hf
 have h2:=WK M f m hl
 unfold Hz
 by_cases h:m < 4 <;> simp[wL,Mf,h,h1,h2]
theorem aaQ{x:List Int}(h:x.length=6)(h2:∀d∈x,0<=d/\d < 10):dw x=true:=by
 unfold dw
 simp only[aq0,decide_eq_true_eq,ars]
 refine⟨h,fun d hd=>?_⟩
 have:=h2 d hd
 omega
theorem adN{x f:List Int}(hx:x.length=6)(hf:f.length=6):dw (SJ x f)=true:=by
 refine aaQ (by simp[SJ];omega) fun d hd=>?_
 obtain⟨p,hp,rfl⟩:=arf.mp hd
 unfold Mw Ox
 split <;> split <;> omega
theorem abT{f x:List Int}{m:Int}(hx:x.length=6)(hl:f.length=6)(hf:∀d∈f,0<=d/\d < 10):dw (Hz f m x)=true:=by
 unfold Hz
 split
 ·exact adN hx hl
 ·refine aaQ ?_ (af0 hf)
  unfold zQ
  split
  ·simpa using hl
  ·split
   ·simpa using hl
   ·exact hl
def j9(f many:Int)(sure:Bool):Int:=if sure then 1+f % (if many > 1 then many else 1) else f % (many+2)
theorem Yw(M:Mo)(f many:Int)(sure:Bool)(hm:0<=many):jP M [.int f,.int many,.bool sure]=.ok (.int (j9 f many sure)):=by
 have h2:0 < many+2:=by omega
 have h3:0 < (if 1 < many then many else 1):=by split <;> omega
 cases sure
 ·simp[jP,Xv,j9,h2]
 ·simp[jP,Xv,j9,h3]
theorem Cg{f many:Int}{sure:Bool}(hf:0<=f/\f<=1000)(hm:0<=many):nB (j9 f many sure)=true:=by
 unfold j9 nB
 have key:∀m:Int,0 < m->0<=f % m/\f % m<=f:=fun m h=>⟨Int.emod_nonneg _ (by omega),by
  have h1:=Int.mul_ediv_add_emod f m
  have h2:=Int.mul_nonneg (by omega:0<=m) (Int.ediv_nonneg hf.1 (by omega:0<=m))
  omega⟩
 simp only[aq0,decide_eq_true_eq]
 cases sure
 ·have:=key (many+2) (by omega)
  simp
  omega
 ·have:=key (if many > 1 then many else 1) (by split <;> omega)
  simp only[if_true]
  omega
abbrev dd(M:Mo)(w:Str)(one two:Int)(p base:List Int)(n0 n1 n2:Int):Out Dat:=gU M [.str w,.int one,.int two,lI p,.tuple [.int n0,.int n1,.int n2],aJ base]
def eG(p:List Int):Bool:=!(p.getD 6 0==9)
def HY(p base:List Int):List Int:=Hz (p.drop 8) (p.getD 7 0) base
def grT(f:Int):Int:=if f=9 then 8 else if f=8 then 7 else if f=7 then 6 else if f=6 then 5 else if f=5 then 1 else if f=4 then 0 else f
def HF(p base:List Int):List Int:=if p.getD 7 0 < 6 then[0,0,0,0,0,0] else HY p base
structure Pts(p base:List Int):Prop where
 len:p.length=14
 dig:∀d∈p,0<=d/\d < 10
 base:base.length=6
theorem al4{p:List Int}(h:p.length=14):∃a b c d e f g i j k l m n o:Int,p=[a,b,c,d,e,f,g,i,j,k,l,m,n,o]:=by
 match p,h with
 |[a,b,c,d,e,f,g,i,j,k,l,m,n,o],_=>exact⟨a,b,c,d,e,f,g,i,j,k,l,m,n,o,rfl⟩
theorem Pts.mark{p base:List Int}(P:Pts p base):dw (HY p base)=true:=abT P.base (by rw[asu,P.len]) fun d hd=>P.dig d (List.mem_of_mem_drop hd)
theorem Pts.bring{p base:List Int}(P:Pts p base):dw (HF p base)=true:=by
 unfold HF
 split
 ·decide
 ·exact P.mark
section
variable(M:Mo){p base:List Int}(P:Pts p base)(one two n0 n1 n2:Int)(h0:0<=n0)(h1:0<=n1)(h2:0<=n2)
include P h0 h1 h2
theorem afm :
  dd M "owner" one two p base n0 n1 n2=.ok (bL.dat (.owner))/\
  dd M "ground" one two p base n0 n1 n2=.ok (bL.dat (.ground (grT (p.getD 7 0)+4 * (if eG p then 0 else 1))))/\
  dd M "enrol" one two p base n0 n1 n2=.ok (bL.dat (.enrol (j9 one n0 (eG p)) (j9 two n1 (eG p)) (HY p base)))/\
  dd M "bring" one two p base n0 n1 n2=.ok (bL.dat (.bring (j9 one n0 (eG p)) (j9 two n1 (eG p)) (HF p base)))/\
  dd M "leave" one two p base n0 n1 n2=.ok (bL.dat (.leave (j9 one n0 (eG p)) (j9 two n1 (eG p))))/\
  dd M "heir" one two p base n0 n1 n2=.ok (bL.dat (.heir (j9 one n0 (eG p)) (j9 two n1 (eG p)) (p.getD 7 0 % 4)))/\
  dd M "pass" one two p base n0 n1 n2=.ok (bL.dat (.pass (j9 one n0 (eG p)) (j9 two n0 (eG p))))/\
  dd M "unite" one two p base n0 n1 n2=.ok (bL.dat (.vY (j9 one n1 (eG p)) (j9 two n1 (eG p))))/\
  dd M "part" one two p base n0 n1 n2=.ok (bL.dat (.part (j9 one n1 (eG p))))/\
  dd M "tear" one two p base n0 n1 n2=.ok (bL.dat (.tear (j9 one n2 (eG p)) (p.getD 7 0 % 6)))/\
  dd M "sell" one two p base n0 n1 n2=.ok (bL.dat (.sell (j9 one n2 (eG p)) (j9 two n0 (eG p))))/\
  dd M "move" one two p base n0 n1 n2=.ok (bL.dat (.move (j9 one n2 (eG p)) (j9 two n1 (eG p))))/\
  dd M "bear" one two p base n0 n1 n2=.ok (bL.dat (.bear (j9 one n2 (eG p))))/\
  dd M "cut" one two p base n0 n1 n2=.ok (bL.dat (.cut (j9 one n2 (eG p))))/\
  dd M "die" one two p base n0 n1 n2=.ok (bL.dat (.die (j9 one n2 (eG p)))):=by
 have hm:=ab4 M base (p.drop 8) (p.getD 7 0) (by rw[P.base];decide) (by rw[asu,P.len];decide) fun d hd=>P.dig d (List.mem_of_mem_drop hd)
 have hr0:=fun f=>Yw M f n0 (eG p) h0
 have hr1:=fun f=>Yw M f n1 (eG p) h1
 have hr2:=fun f=>Yw M f n2 (eG p) h2
 have hd:=P.dig
 have hbr:HF p base=if p.getD 7 0 < 6 then[0,0,0,0,0,0] else HY p base:=rfl
 have hmp:HY p base=Hz (p.drop 8) (p.getD 7 0) base:=rfl
 have hsb:eG p=!(p.getD 6 0==9):=rfl
 obtain⟨x0,x1,x2,x3,x4,x5,x6,x7,x8,x9,x10,x11,x12,x13,rfl⟩:=al4 P.len
 generalize hp:[x0,x1,x2,x3,x4,x5,x6,x7,x8,x9,x10,x11,x12,x13]=p at *
 have h6:p.getD 6 0=x6:=by rw[←hp];rfl
 have h7:p.getD 7 0=x7:=by rw[←hp];rfl
 have h8:p.drop 8=[x8,x9,x10,x11,x12,x13]:=by rw[←hp];rfl
 have hx7:=hd x7 (by rw[←hp];simp)
 rw[h7,h8]at hm hmp
 rw[h7]at hbr
 rw[h6]at hsb
 simp only[h7]
 generalize eG p=su at *
 generalize HY p base=mk at *
 generalize HF p base=br at *
 have c1:Rf.cutD (p.map PyData.int) (some 8) (some 14)=[PyData.int x8,.int x9,.int x10,.int x11,.int x12,.int x13]:=by rw[←hp];rfl
 have c2:atI (p.map PyData.int) 7=some (.int x7):=by rw[←hp];rfl
 have c3:atI (p.map PyData.int) 6=some (.int x6):=by rw[←hp];rfl
 have hm:wL M [.list [PyData.int x8,.int x9,.int x10,.int x11,.int x12,.int x13],.int x7,aJ base]=.ok (aJ mk):=by rw[hmp];exact hm
 have key:∀k:Nat,k < 10->([0,1,2,3,0,1,5,6,7,8]:List Int)[k]?=some (grT k):=by decide
 have hk:atI (([0,1,2,3,0,1,5,6,7,8]:List Int).map PyData.int) x7=some (.int (grT x7)):=by
  obtain⟨k,rfl⟩:∃k:Nat,x7=k:=⟨x7.toNat,by omega⟩
  exact atI_nat (by rw[ard,key k (by omega)];rfl)
 simp at hk
 have hm4:∀z,decide (CMul 4 z)=true:=fun z=>agz (by decide)
 clear hp hd P
 refine⟨?_,?_,?_,?_,?_,?_,?_,?_,?_,?_,?_,?_,?_,?_,?_⟩
 ·simp[dd,gU,jT,c1,c2,c3,hm,←hsb,hr0,hr1,hr2,bL.dat]
 ·cases su <;> simp[dd,gU,jT,c1,c2,c3,hm,←hsb,hk,hm4,Rf.intD,bL.dat]
 ·simp[dd,gU,jT,c1,c2,c3,hm,←hsb,hr0,hr1,hr2,bL.dat]
 ·by_cases h76:x7 < 6
  ·rw[if_pos h76]at hbr
   simp[dd,gU,jT,c1,c2,c3,hm,←hsb,hr0,hr1,hr2,bL.dat,h76,hbr]
  ·rw[if_neg h76]at hbr
   simp[dd,gU,jT,c1,c2,c3,hm,←hsb,hr0,hr1,hr2,bL.dat,h76,hbr]
 ·simp[dd,gU,jT,c1,c2,c3,hm,←hsb,hr0,hr1,hr2,bL.dat]
 ·simp[dd,gU,jT,c1,c2,c3,hm,←hsb,hr0,hr1,hr2,bL.dat]
 ·simp[dd,gU,jT,c1,c2,c3,hm,←hsb,hr0,hr1,hr2,bL.dat]
 ·simp[dd,gU,jT,c1,c2,c3,hm,←hsb,hr0,hr1,hr2,bL.dat]
 ·simp[dd,gU,jT,c1,c2,c3,hm,←hsb,hr0,hr1,hr2,bL.dat]
 ·simp[dd,gU,jT,c1,c2,c3,hm,←hsb,hr0,hr1,hr2,bL.dat]
 ·simp[dd,gU,jT,c1,c2,c3,hm,←hsb,hr0,hr1,hr2,bL.dat]
 ·simp[dd,gU,jT,c1,c2,c3,hm,←hsb,hr0,hr1,hr2,bL.dat]
 ·simp[dd,gU,jT,c1,c2,c3,hm,←hsb,hr0,hr1,hr2,bL.dat]
 ·simp[dd,gU,jT,c1,c2,c3,hm,←hsb,hr0,hr1,hr2,bL.dat]
 ·simp[dd,gU,jT,c1,c2,c3,hm,←hsb,hr0,hr1,hr2,bL.dat]
theorem aad{w:Str}(hw:w∈(["owner","ground","enrol","bring","leave","heir","pass","unite","part","tear","sell","move","bear","cut","die"]:List Str))(ho:0<=one/\one<=1000)(ht:0<=two/\two<=1000):∃d:bL,gU M [.str w,.int one,.int two,lI p,.tuple [.int n0,.int n1,.int n2],aJ base]=.ok d.dat/\fX d=true/\Mr d:=by
 have r10:=Cg (f:=one) (sure:=eG p) ho h0
 have r11:=Cg (f:=one) (sure:=eG p) ho h1
 have r12:=Cg (f:=one) (sure:=eG p) ho h2
 have r20:=Cg (f:=two) (sure:=eG p) ht h0
 have r21:=Cg (f:=two) (sure:=eG p) ht h1
 have r22:=Cg (f:=two) (sure:=eG p) ht h2
 have m1:=P.mark
 have m2:=P.bring
 have l1:(HY p base).length<=1000:=by rw[eO m1];decide
 have l2:(HF p base).length<=1000:=by rw[eO m2];decide
 have h7:0<=p.getD 7 0/\p.getD 7 0 < 10:=P.dig _ (by
  have:=P.len
  rw[List.getD_eq_getElem?_getD,aq2 (by omega)]
  exact arU _)
 have q4:nB (p.getD 7 0 % 4)=true:=by unfold nB;simp only[aq0,decide_eq_true_eq];omega
 have q6:plB (p.getD 7 0 % 6)=true:=by unfold plB;simp only[aq0,decide_eq_true_eq];omega
 have qg:nB (grT (p.getD 7 0)+4 * (if eG p then 0 else 1))=true:=by
  unfold nB grT
  simp only[aq0,decide_eq_true_eq]
  split <;> (repeat' split) <;> omega
 simp only[arh,arD,or_false]at hw
 obtain⟨d0,d1,d2,d3,d4,d5,d6,d7,d8,d9,d10,d11,d12,d13,d14⟩:=afm M P one two n0 n1 n2 h0 h1 h2
 rcases hw with rfl|rfl|rfl|rfl|rfl|rfl|rfl|rfl|rfl|rfl|rfl|rfl|rfl|rfl|rfl
 ·exact⟨_,d0,by simp[fX,r10,r11,r12,r20,r21,r22,m1,m2,q4,q6,-List.getD_eq_getElem?_getD],by first | trivial | assumption⟩
 ·exact⟨_,d1,qg,by first | trivial | assumption⟩
 ·exact⟨_,d2,by simp[fX,r10,r11,r12,r20,r21,r22,m1,m2,q4,q6,-List.getD_eq_getElem?_getD],by first | trivial | assumption⟩
 ·exact⟨_,d3,by simp[fX,r10,r11,r12,r20,r21,r22,m1,m2,q4,q6,-List.getD_eq_getElem?_getD],by first | trivial | assumption⟩
 ·exact⟨_,d4,by simp[fX,r10,r11,r12,r20,r21,r22,m1,m2,q4,q6,-List.getD_eq_getElem?_getD],by first | trivial | assumption⟩
 ·exact⟨_,d5,by simp[fX,r10,r11,r12,r20,r21,r22,m1,m2,q4,q6,-List.getD_eq_getElem?_getD],by first | trivial | assumption⟩
 ·exact⟨_,d6,by simp[fX,r10,r11,r12,r20,r21,r22,m1,m2,q4,q6,-List.getD_eq_getElem?_getD],by first | trivial | assumption⟩
 ·exact⟨_,d7,by simp[fX,r10,r11,r12,r20,r21,r22,m1,m2,q4,q6,-List.getD_eq_getElem?_getD],by first | trivial | assumption⟩
 ·exact⟨_,d8,by simp[fX,r10,r11,r12,r20,r21,r22,m1,m2,q4,q6,-List.getD_eq_getElem?_getD],by first | trivial | assumption⟩
 ·exact⟨_,d9,by simp[fX,r10,r11,r12,r20,r21,r22,m1,m2,q4,q6,-List.getD_eq_getElem?_getD],by first | trivial | assumption⟩
 ·exact⟨_,d10,by simp[fX,r10,r11,r12,r20,r21,r22,m1,m2,q4,q6,-List.getD_eq_getElem?_getD],by first | trivial | assumption⟩
 ·exact⟨_,d11,by simp[fX,r10,r11,r12,r20,r21,r22,m1,m2,q4,q6,-List.getD_eq_getElem?_getD],by first | trivial | assumption⟩
 ·exact⟨_,d12,by simp[fX,r10,r11,r12,r20,r21,r22,m1,m2,q4,q6,-List.getD_eq_getElem?_getD],by first | trivial | assumption⟩
 ·exact⟨_,d13,by simp[fX,r10,r11,r12,r20,r21,r22,m1,m2,q4,q6,-List.getD_eq_getElem?_getD],by first | trivial | assumption⟩
 ·exact⟨_,d14,by simp[fX,r10,r11,r12,r20,r21,r22,m1,m2,q4,q6,-List.getD_eq_getElem?_getD],by first | trivial | assumption⟩
end
abbrev words:List Str:=["owner","ground","enrol","bring","leave","heir","pass","unite","part","tear","sell","move","bear","cut","die"]
def Wx:List Str:=["tear","cut","bring","sell","move","enrol","bear","tear","cut","sell","move","unite","part","heir","pass","die","leave","ground","owner","enrol","tear","sell","bring","bear","cut"]
theorem ag9(M:Mo)(f:Int):∃w∈words,Ab M [.int f]=.ok (.str w):=by
 have h1:0<=f % 25/\f % 25 < 25:=by omega
 obtain⟨k,hk⟩:∃k:Nat,f % 25=k:=⟨(f % 25).toNat,by omega⟩
 have hl:k < Wx.length:=by show k < 25;omega
 have h2:atI (Wx.map PyData.str) (k:Int)=some (.str Wx[k]):=atI_nat (by rw[ard,aq2 hl];rfl)
 have h3:∀w∈Wx,w∈words:=by simp[Wx]
 refine⟨Wx[k],h3 _ (arU hl),?_⟩
 generalize Wx[k]=z at h2
 simp[Wx]at h2
 simp[Ab,Ko,hk,h2]
def xK(h:Int):List (Str×Int×Int):=if h % 8=7 then[] else[("ground",0,0),("owner",0,0),("owner",0,0),("enrol",0,0),("enrol",1,0),("bring",0,0),("cut",0,0),("bring",1,0),("cut",1,0),("ground",0,0),("enrol",0,1)]
def Ij(r:Str×Int×Int):Dat:=.tuple [.str r.1,.int r.2.1,.int r.2.2]
theorem ac7(M:Mo)(h:Int):vJ M [.int h]=.ok (.list ((xK h).map Ij)):=by
 unfold xK
 by_cases e:h % 8=7 <;> simp[vJ,Ez,e,Ij]
theorem ahW{h:Int}:∀r∈xK h,r.1∈words/\(0<=r.2.1/\r.2.1<=1000)/\0<=r.2.2/\r.2.2<=1000:=by
 unfold xK
 split
 ·simp
 ·simp
inductive N7:Nat->aK->Prop where
 |nil:N7 0 ⟨0,[],[],[],[],[]⟩
 |step {n:Nat} {c:aK} (d:bL):N7 n c->fX d=true->N7 (n+1) (qW c d)
 |le {n m:Nat} {c:aK}:N7 n c->n<=m->N7 m c
theorem Inv.mono{n s n' s':Nat}{c:aK}(I:Inv n s c)(h1:n<=n')(h2:s<=s'):Inv n' s' c:=
 I.of h1 I.gr (arv I.al h1) rfl rfl I.held (arv I.hL h2) I.hE ⟨I.Wz.g,fun b hb=>by have:=I.en b hb;omega⟩
theorem aa7(d:bL):cost d<=1:=by cases d <;> simp[cost]
theorem aiK:Inv 0 0 ⟨0,[],[],[],[],[]⟩:=⟨⟨rfl,by simp,by simp,by simp,by simp,by simp,by simp⟩,by simp,by simp,by simp,by simp,by simp,by simp,by simp,by simp,by simp,by simp,by simp,by simp⟩
structure Now(M:Mo)(L:Lay)(n s:Nat)(c:aK):Prop where
 at_:At M L c
 inv:Inv n s c
 rch:N7 n c
theorem Now.done{M:Mo}{L:Lay}{n s:Nat}{c:aK}(N:Now M L n s c)(hs:s<=76)(hn:n<=199)(d:bL)(hd:Mr d)(hf:fX d=true):∃M' bs,rM M [ob L.c,d.dat,lW c]=.ok (lW (qW c d)) M'/\Now M' { L with bs:=bs } (n+1) (s+cost d) (qW c d):=by
 obtain⟨M',bs,h1,h2⟩:=ah8 N.at_ N.inv hs hn d hd hf
 exact⟨M',bs,h1,h2,Y9 N.inv d hn,.step d N.rch hf⟩
theorem agD(x:Int){base:List Int}(h:base.length=6):Pts (rowOf x 14 10) base:=⟨aa3 ..,aes (by decide) _ _,h⟩
theorem Ge(x:Int)(k:Nat)(h:k < 14):atI ((rowOf x 14 10).map PyData.int) (k:Int)=some (.int ((rowOf x 14 10).getD k 0))/\0<=(rowOf x 14 10).getD k 0/\(rowOf x 14 10).getD k 0<=9:=by
 have hl:k < (rowOf x 14 10).length:=by rw[aa3];exact h
 refine⟨Z7 _ k hl,?_⟩
 rw[List.getD_eq_getElem?_getD,aq2 hl]
 have:=aes (by decide) x 14 _ (arU hl)
 simp
 omega
theorem adG{M:Mo}{L:Lay}{n s:Nat}{c:aK}(N:Now M L n s c)(hs:s<=76)(hn:n<=199)(x1:Option Cell)(head:Int)(base:List Int)(hb:base.length=6)(i:Nat)(x:Int)(x8 x9 x10 x11 x12:Option Cell) :
  ∃d M' bs y8 y9 y10 y11,fX d=true/\Dj M [some (.dat (ob L.c)),x1,some (.dat (.int head)),some (.dat (lW c)),some (.dat (aJ base)),some (.dat (.list ((xK head).map Ij))),some (.dat (.int i)),some (.dat (.int x)),x8,x9,x10,x11,x12]=.next [some (.dat (ob L.c)),x1,some (.dat (.int head)),some (.dat (lW (qW c d))),some (.dat (aJ base)),some (.dat (.list ((xK head).map Ij))),some (.dat (.int i)),some (.dat (.int x)),y8,y9,y10,y11,x12] M'/\Now M' { L with bs:=bs } (n+1) (s+cost d) (qW c d):=by
 have h1:Cd M [.int x,.int 14,.int 10]=.ok (lI (rowOf x 14 10)):=adu M x 14 10 (by decide) (by decide) (by decide)
 have P:=agD x hb
 obtain⟨r0,q0,q0'⟩:=Ge x 0 (by decide)
 obtain⟨r1,q1,q1'⟩:=Ge x 1 (by decide)
 obtain⟨r2,q2,q2'⟩:=Ge x 2 (by decide)
 obtain⟨r3,q3,q3'⟩:=Ge x 3 (by decide)
 obtain⟨r4,q4,q4'⟩:=Ge x 4 (by decide)
 obtain⟨r5,q5,q5'⟩:=Ge x 5 (by decide)
 generalize rowOf x 14 10=p at *
 generalize p.getD 0 0=d0 at *
 generalize p.getD 1 0=d1 at *
 generalize p.getD 2 0=d2 at *
 generalize p.getD 3 0=d3 at *
 generalize p.getD 4 0=d4 at *
 generalize p.getD 5 0=d5 at *
 obtain⟨w,hw,h2⟩:=ag9 M (d0 * 10+d1)
 have hm:∀z,decide (CMul z 10)=true:=fun z=>mul_r (by decide)
 have c0:=N.inv.cnt.1
 simp only[Int.natCast_zero,Int.natCast_one,show((2:Nat):Int)=2 from rfl,show((3:Nat):Int)=3 from rfl,show((4:Nat):Int)=4 from rfl,show((5:Nat):Int)=5 from rfl]at r0 r1 r2 r3 r4 r5
 by_cases hi:i < (xK head).length
 ·have hi':(i:Int) < (xK head).length:=by omega
  have g:=aq2 hi
  obtain⟨b1,b2,b3⟩:=ahW _ (arU hi)
  generalize (xK head)[i]=b at *
  obtain⟨d,e1,e2,e3⟩:=aad M P b.2.1 b.2.2 c.count c.al.length c.bs.length c0 (by omega) (by omega) b1 b2 b3
  obtain⟨M',bs,e4,e5⟩:=N.done hs hn d e3 e2
  refine⟨d,M',bs,some (.dat (lI p)),some (.dat (.str b.1)),some (.dat (.int b.2.1)),some (.dat (.int b.2.2)),e2,?_,e5⟩
  have e1:gU M [.str b.1,.int b.2.1,.int b.2.2,lI p,lW c,aJ base]=.ok d.dat:=e1
  simp[Dj,h1,r0,r1,r2,r3,r4,r5,hm,h2,hi',g]
  simp[Ij,e1,e4]
 ·have hi':¬(i:Int) < (xK head).length:=by omega
  obtain⟨d,e1,e2,e3⟩:=aad M P (d2 * 10+d3) (d4 * 10+d5) c.count c.al.length c.bs.length c0 (by omega) (by omega) hw (by omega) (by omega)
  obtain⟨M',bs,e4,e5⟩:=N.done hs hn d e3 e2
  refine⟨d,M',bs,some (.dat (lI p)),some (.dat (.str w)),some (.dat (.int (d2 * 10+d3))),some (.dat (.int (d4 * 10+d5))),e2,?_,e5⟩
  have e1:gU M [.str w,.int (d2 * 10+d3),.int (d4 * 10+d5),lI p,lW c,aJ base]=.ok d.dat:=e1
  simp[Dj,h1,r0,r1,r2,r3,r4,r5,hm,h2,hi']
  simp[e1,e4]
theorem Wk(x1:Option Cell)(head:Int)(base:List Int)(hb:base.length=6)(x12:Option Cell):∀(xs:List (Nat×Int)) (M:Mo) (L:Lay) (n:Nat) (c:aK) (x6 x7 x8 x9 x10 x11:Option Cell),Now M L n n c->n+xs.length<=76->
  ∃c' M' bs y6 y7 y8 y9 y10 y11,gR (bx [6,7]) Dj (xs.map fun q=>PyData.tuple [.int q.1,.int q.2]) M [some (.dat (ob L.c)),x1,some (.dat (.int head)),some (.dat (lW c)),some (.dat (aJ base)),some (.dat (.list ((xK head).map Ij))),x6,x7,x8,x9,x10,x11,x12]=.next [some (.dat (ob L.c)),x1,some (.dat (.int head)),some (.dat (lW c')),some (.dat (aJ base)),some (.dat (.list ((xK head).map Ij))),y6,y7,y8,y9,y10,y11,x12] M'/\Now M' { L with bs:=bs } (n+xs.length) (n+xs.length) c'
 |[],M,L,n,c,x6,x7,x8,x9,x10,x11,N,_=>⟨c,M,L.bs,x6,x7,x8,x9,x10,x11,rfl,N⟩
 |q::xs,M,L,n,c,x6,x7,x8,x9,x10,x11,N,hl=>by
  rw[ari]at hl
  obtain⟨d,M1,bs,y8,y9,y10,y11,h0,h1,N1⟩:=adG N (by omega) (by omega) x1 head base hb q.1 q.2 x8 x9 x10 x11 x12
  have N1:Now M1 { L with bs:=bs } (n+1) (n+1) (qW c d):=⟨N1.at_,N1.inv.mono (aru _) (by have:=aa7 d;omega),N1.rch⟩
  obtain⟨c',M',bs',z6,z7,z8,z9,z10,z11,h2,N2⟩:=Wk x1 head base hb x12 xs M1 { L with bs:=bs } (n+1) (qW c d) (some (.dat (.int q.1))) (some (.dat (.int q.2))) y8 y9 y10 y11 N1 (by omega)
  refine⟨c',M',bs',z6,z7,z8,z9,z10,z11,?_,?_⟩
  ·rw[aq3,iD (ρ1:=[some (.dat (ob L.c)),x1,some (.dat (.int head)),some (.dat (lW c)),some (.dat (aJ base)),some (.dat (.list ((xK head).map Ij))),some (.dat (.int q.1)),some (.dat (.int q.2)),x8,x9,x10,x11,x12]) (by simp) h1]
   exact h2
  ·rw[ari,show n+(xs.length+1)=n+1+xs.length by omega]
   exact N2
theorem acz{M:Mo}{L:Lay}{n s:Nat}{c:aK}(N:Now M L n s c)(hs:s<=75)(hn:n<=198)(x1 x2 x4 x5 x6 x7 x8 x9 x10 x11 x12:Option Cell) :
  ∃c' M' bs,HW M [some (.dat (ob L.c)),x1,x2,some (.dat (lW c)),x4,x5,x6,x7,x8,x9,x10,x11,x12]=.next [some (.dat (ob L.c)),x1,x2,some (.dat (lW c')),x4,x5,x6,x7,x8,x9,x10,x11,x12] M'/\Now M' { L with bs:=bs } (n+2) (s+1) c':=by
 obtain⟨M1,bs1,h1,N1⟩:=N.done (by omega) (by omega) (.bring 1 1 [0,0,0,0,0,0]) (by simp[Mr]) (by decide)
 have hl:=N1.inv.hL
 have hc:cost (.bring 1 1 [0,0,0,0,0,0])=1:=rfl
 generalize qW c (.bring 1 1 [0,0,0,0,0,0])=c1 at *
 obtain⟨M2,bs2,h2,N2⟩:=N1.done (by omega) (by omega) (.cut c1.bs.length) trivial (by simp only[fX,nB,aq0,decide_eq_true_eq];omega)
 refine⟨_,M2,bs2,?_,N2.at_,N2.inv,N2.rch⟩
 have h1:rM M [ob L.c,.tuple [.str "bring",.int 1,.int 1,.tuple [.int 0,.int 0,.int 0,.int 0,.int 0,.int 0]],lW c]=.ok (lW c1) M1:=h1
 have h2:rM M1 [ob L.c,.tuple [.str "cut",.int c1.bs.length],lW c1]=_:=h2
 simp[HW,h1]
 have e:atI [PyData.int c1.count,.int c1.al.length,.int c1.bs.length] 2=some (.int c1.bs.length):=rfl
 simp[lW]at h2 ⊢
 simp[h2]
theorem RJ(x1 x2 x4 x5 x6 x7 x8 x9 x10 x11:Option Cell):∀(xs:List Dat) (M:Mo) (L:Lay) (n s:Nat) (c:aK) (x12:Option Cell),Now M L n s c->n+2 * xs.length<=198->s+xs.length<=75->
  ∃c' M' bs y12,gR (aF 12) HW xs M [some (.dat (ob L.c)),x1,x2,some (.dat (lW c)),x4,x5,x6,x7,x8,x9,x10,x11,x12]=.next [some (.dat (ob L.c)),x1,x2,some (.dat (lW c')),x4,x5,x6,x7,x8,x9,x10,x11,y12] M'/\Now M' { L with bs:=bs } (n+2 * xs.length) (s+xs.length) c'
 |[],M,L,n,s,c,x12,N,_,_=>⟨c,M,L.bs,x12,rfl,N⟩
 |q::xs,M,L,n,s,c,x12,N,h1,h2=>by
  rw[ari]at h1 h2
  obtain⟨c1,M1,bs1,e1,N1⟩:=acz N (by omega) (by omega) x1 x2 x4 x5 x6 x7 x8 x9 x10 x11 (some (.dat q))
  obtain⟨c',M',bs',y12,e2,N2⟩:=RJ x1 x2 x4 x5 x6 x7 x8 x9 x10 x11 xs M1 { L with bs:=bs1 } (n+2) (s+1) c1 (some (.dat q)) N1 (by omega) (by omega)
  refine⟨c',M',bs',y12,?_,?_⟩
  ·rw[iD (ρ1:=[some (.dat (ob L.c)),x1,x2,some (.dat (lW c)),x4,x5,x6,x7,x8,x9,x10,x11,some (.dat q)]) (by simp) e1]
   exact e2
  ·rw[ari,show n+2 * (xs.length+1)=n+2+2 * xs.length by omega,show s+(xs.length+1)=s+1+xs.length by omega]
   exact N2
def Uc:aK:=⟨0,[],[],[],[],[]⟩
theorem ahz{M:Mo}{L:Lay}(a:At M L Uc)(cells:List Int)(hl:cells.length<=43)(head:Int):∃c M' L',L'.c=L.c/\GJ M [ob L.c,lI cells,.int head]=.ok (lW c) M'/\Now M' L' 99 71 c:=by
 have hb:=acR (head / 512)
 have h1:=ajb M (head / 512)
 have h2:=ac7 M head
 have N0:Now M L 0 0 Uc:=⟨a,aiK,.nil⟩
 have hen:pN 0 (cells.map PyData.int)=(cells.mapIdx fun i x=>(i,x)).map fun(q:Nat×Int)=>PyData.tuple [.int q.1,.int q.2]:=by
  unfold pN
  apply arx
  intro i
  simp
  cases cells[i]? <;> simp
 obtain⟨c1,M1,bs1,y6,y7,y8,y9,y10,y11,e1,N1⟩:=Wk (some (.dat (lI cells))) head (Mq (head / 512)) hb none (cells.mapIdx fun i x=>(i,x)) M L 0 Uc none none none none none none N0 (by simp;omega)
 simp only[List.length_mapIdx,Nat.zero_add]at N1
 have hd:∀z,decide (CDiv z 512)=true:=fun z=>decide_eq_true ⟨by decide,by decide⟩
 have hd8:∀z,decide (CDiv z 8)=true:=fun z=>decide_eq_true ⟨by decide,by decide⟩
 have hd64:∀z,decide (CDiv z 64)=true:=fun z=>decide_eq_true ⟨by decide,by decide⟩
 have hm:∀z,decide (CMul z 4)=true:=fun z=>mul_r (by decide)
 have z0:lW Uc=.tuple [.int 0,.int 0,.int 0]:=rfl
 rw[z0]at e1
 by_cases hh:head / 8 % 8=1
 ·obtain⟨k,hk,hk2⟩:∃k:Nat,head / 64 % 8 * 4=k/\k<=28:=⟨(head / 64 % 8 * 4).toNat,by omega,by omega⟩
  obtain⟨c2,M2,bs2,y12,e2,N2⟩:=RJ (some (.dat (lI cells))) (some (.dat (.int head))) (some (.dat (aJ (Mq (head / 512))))) (some (.dat (.list ((xK head).map Ij)))) y6 y7 y8 y9 y10 y11 (gQ 0 k) M1 { L with bs:=bs1 } cells.length cells.length c1 none N1 (by simp[gQ];omega) (by simp[gQ];omega)
  refine⟨c2,M2,{ L with bs:=bs2 },rfl,?_,N2.at_,N2.inv.mono (by simp[gQ];omega) (by simp[gQ];omega),N2.rch.le (by simp[gQ];omega)⟩
  have k1:(k:Int)<=100000:=by omega
  have k2 : -100000<=(k:Int):=by omega
  simp[GJ,QD,hd,h1,h2,hen,e1,hd8,hh,hd64,hm,hk,k1,k2,e2]
 ·refine⟨c1,M1,{ L with bs:=bs1 },rfl,?_,N1.at_,N1.inv.mono (by omega) (by omega),N1.rch.le (by omega)⟩
  simp[GJ,QD,hd,h1,h2,hen,e1,hd8,hh]
def L0:Lay:=⟨0,2,5,7,[],[]⟩
theorem amX:∃M L,L.c=0/\qF [⟨"Commons",[]⟩] [ob 0]=.ok .none M/\At M L Uc:=by
 refine⟨_,L0,rfl,by simp[qF,yQ,j6,uU,yX,vW,Bq,zN,Fd];rfl,?_⟩
 exact⟨rfl,⟨_,_,rfl⟩,rfl,⟨_,rfl⟩,rfl,fun i h b z _=>(by cases z),by decide,fun p hp=>(by cases hp)⟩
theorem Now.look{M:Mo}{L:Lay}{n s:Nat}{c:aK}(N:Now M L n s c)(hs:s<=1000):qm M [ob L.c]=.ok (nu c):=by
 have:=N.inv.hL
 exact ahj N.at_ N.inv.gr (by omega) (by omega)
theorem ahk(l:List Int)(lo hi:Option Int):Rf.cutD (l.map PyData.int) lo hi=(Rf.cutD l lo hi).map PyData.int:=by
 unfold Rf.cutD
 rw[aq9,List.map_take,List.map_drop]
theorem agL{α:Type}(l:List α)(a b:Nat)(h:a<=b):(Rf.cutD l (some (a:Int)) (some (b:Int))).length<=b - a:=by
 unfold Rf.cutD
 rw[HT.sIx_nat,HT.sIx_nat,List.length_take]
 omega
def pG(c:aK)(lo g:Int)(r:Rw):Prop:=(r.1,g,r.2)∈c.held∨∃(i:Nat) (b:cV),c.bs[i]?=some b/\b.sd.al=true/\b.sd.due=some r.2/\b.sd.o=r.1/\b.sd.g=g/\(i:Int)+1≠lo
theorem pG.all{c:aK}{lo g:Int}{r:Rw}(h:pG c lo g r):pG c 0 g r:=h.imp id fun⟨i,b,h1,h2,h3,h4,h5,_⟩=>⟨i,b,h1,h2,h3,h4,h5,by omega⟩
theorem afw{c:aK}{lo:Int}{near:List Int}{r:Rw}:r∈inR c near++Zg c lo near↔∃g∈near,pG c lo g r:=by
 constructor
 ·intro h
  rcases arb.mp h with h|h
  ·obtain⟨g,h1,h2⟩:=UJ h
   exact⟨g,h2,.inl h1⟩
  ·obtain⟨i,b,h1,h2,h3,h4,h5,h6⟩:=Qa h
   exact⟨b.sd.g,h5,.inr ⟨i,b,h1,h4,h3,h2,rfl,h6⟩⟩
 ·rintro⟨g,hg,h|⟨i,b,h1,h2,h3,h4,h5,h6⟩⟩
  ·exact arJ _ (arf.mpr ⟨_,arp.mpr ⟨h,by simpa using hg⟩,rfl⟩)
  ·refine arL _ (arf.mpr ⟨(i,b),arp.mpr ⟨?_,?_⟩,?_⟩)
   ·obtain⟨hi,e⟩:=aq1.mp h1
    exact List.mem_mapIdx.mpr ⟨i,hi,by rw[e]⟩
   ·have h6':((i:Int)+1==lo)=false:=by simpa using h6
    subst h5
    simp[h3,h2,hg,h6']
   ·simp[h3,h4]
theorem wM{c:aK}{lo x:Int}{r:Rw}:r∈cM c lo x↔∃g∈aH c x,pG c lo g r:=afw
def NM(c:aK):Prop:=∀x,Vg c x->∀g∈aH c x,∀h∈aH c x,∀r s,pG c 0 g r->pG c 0 h s->r.1≠s.1->roomOf c x < gq r.2 s.2
theorem NM.map{c c':aK}(N:NM c)(h1:c'.al=c.al)(h2:c'.ci=c.ci)(f:Int->Int)(h:∀g r,pG c' 0 g r->∃o,pG c 0 g (o,r.2)/\r.1=f o):NM c':=fun x hx g hg k hk r s hr hs ne=>by
 have e1:aH c' x=aH c x:=by simp[aH,h2]
 have e0:lE c'=lE c:=by funext y;simp[lE,h1]
 have e2:roomOf c' x=roomOf c x:=by unfold roomOf;rw[e1,e0]
 have hx:Vg c x:=by unfold Vg at *;rw[←h1];exact hx
 rw[e1]at hg hk
 obtain⟨o,a1,a2⟩:=h g r hr
 obtain⟨p,b1,b2⟩:=h k s hs
 rw[e2]
 exact N x hx g hg k hk (o,r.2) (p,s.2) a1 b1 fun z=>ne (by rw[a2,b2];exact congrArg f z)
theorem NM.sub{c c':aK}(N:NM c)(h1:c'.al=c.al)(h2:c'.ci=c.ci)(h:∀g r,pG c' 0 g r->pG c 0 g r):NM c':=N.map h1 h2 id fun g r hr=>⟨r.1,h g r hr,rfl⟩
theorem NM.add{c c':aK}(N:NM c)(i:cZ c)(h1:c'.al=c.al)(h2:c'.ci=c.ci){lo g0 o:Int}{m:List Int}(hg0:Vg c g0)(h:∀g r,pG c' 0 g r->pG c lo g r∨(g=g0/\r=(o,m)))(hb:∀r∈cM c lo g0,r.1≠o->roomOf c g0 < gq m r.2):NM c':=fun x hx g hg k hk r s hr hs ne=>by
 have e1:aH c' x=aH c x:=by simp[aH,h2]
 have e0:lE c'=lE c:=by funext y;simp[lE,h1]
 have e2:roomOf c' x=roomOf c x:=by unfold roomOf;rw[e1,e0]
 have hx:Vg c x:=by unfold Vg at *;rw[←h1];exact hx
 rw[e1]at hg hk
 rw[e2]
 have one:∀k,k∈aH c x->g0∈aH c x->∀s:Rw,pG c lo k s->s.1≠o->roomOf c x < gq m s.2:=fun k hk hg0 s hs ne=>by
  have e:=i.eq hx hg0
  have e3:roomOf c x=roomOf c g0:=by unfold roomOf;rw[e]
  rw[e3]
  exact hb s (wM.mpr ⟨k,by rw[e];exact hk,hs⟩) ne
 rcases h g r hr with a|⟨rfl,rfl⟩
 ·rcases h k s hs with b|⟨rfl,rfl⟩
  ·exact N x hx g hg k hk r s a.all b.all ne
  ·rw[QM]
   exact one g hg hk r a ne
 ·rcases h k s hs with b|⟨_,rfl⟩
  ·exact one k hk hg s b fun z=>ne z.symm
  ·exact absurd rfl ne
theorem Iv{o:Int}{e:List Int}{R:List Rw}{room:Int}(h:wz o e (bK R) room=[]):∀r∈R,r.1≠o->room < gq e r.2:=fun r hr ne=>by
 unfold wz at h
 have:=List.filter_eq_nil_iff.mp h r (dZ.mpr (dZ.mpr hr))
 simp[ne]at this
 exact this
theorem Im{o room:Int}{e:List Int}{R:List Rw}{x:Res}{d:Dat}{c':aK}(h:xg o e R room x=.ok d c'):wz o e (bK R) room=[]:=by
 unfold xg at h
 split at h
 ·assumption
 ·cases h
theorem ahb{l:List Int}{m:Int}(hne:l≠[])(h:∀a∈l,a<=m):acn l<=m:=by
 cases l with
 |nil=>exact absurd rfl hne
 |cons n ns=>exact h _ (Ea ns n).1
theorem aia{l:List Int}{a:Int}(h:a∈l):a<=acn l:=by
 cases l with
 |nil=>cases h
 |cons n ns=>exact(Ea ns n).2 a h
theorem abk{c:aK}{x m:Int}(hx:x∈aH c x)(h:∀y∈aH c x,lE c y<=m):roomOf c x<=m:=ahb (fun z=>by rw[List.map_eq_nil_iff.mp z]at hx;cases hx) fun a ha=>by
 obtain⟨y,hy,rfl⟩:=arf.mp ha
 exact h y hy
theorem af9{c:aK}{x y:Int}(hy:y∈aH c x):lE c y<=roomOf c x:=aia (arf.mpr ⟨y,hy,rfl⟩)
theorem NM.finer{c c':aK}(N:NM c)(h1:c'.al=c.al)(hh:c'.held=c.held)(hbs:c'.bs=c.bs)(hs:∀x,Vg c x->x∈aH c' x/\∀y∈aH c' x,y∈aH c x):NM c':=fun x hx g hg k hk r s hr hs' ne=>by
 have hx:Vg c x:=by unfold Vg at *;rw[←h1];exact hx
 obtain⟨a,b⟩:=hs x hx
 have e:∀g r,pG c' 0 g r->pG c 0 g r:=fun g r h=>by unfold pG at *;rw[←hh,←hbs];exact h
 have:=N x hx g (b g hg) k (b k hk) r s (e g r hr) (e k s hs') ne
 have:roomOf c' x<=roomOf c x:=abk a fun y hy=>by
  have e2:lE c' y=lE c y:=by simp[lE,h1]
  rw[e2]
  exact af9 (b y hy)
 omega
theorem Vl{T:List Rw}{room:Int}(h:jL T room=[]):∀(i j:Nat) (r s:Rw),i < j->T[i]?=some r->T[j]?=some s->r.1≠s.1->room < gq r.2 s.2:=fun i j r s lt hr hs ne=>by
 unfold jL at h
 rw[List.flatMap_eq_nil_iff]at h
 obtain⟨hi,e⟩:=aq1.mp hr
 have h1:=h (i,r) (List.mem_mapIdx.mpr ⟨i,hi,by rw[e]⟩)
 have h2:=List.filter_eq_nil_iff.mp (List.map_eq_nil_iff.mp h1) s (aq6 (i:=j - (i+1)) (by rw[List.getElem?_drop,show i+1+(j - (i+1))=j by omega];exact hs))
 have ne':(r.1==s.1)=false:=by simpa using ne
 simp[ne']at h2
 exact h2
theorem aeb{T:List Rw}{room:Int}(h:jL T room=[]){r s:Rw}(hr:r∈T)(hs:s∈T)(ne:r.1≠s.1):room < gq r.2 s.2:=by
 obtain⟨i,hi⟩:=List.mem_iff_getElem?.mp hr
 obtain⟨j,hj⟩:=List.mem_iff_getElem?.mp hs
 rcases Nat.lt_trichotomy i j with lt|rfl|lt
 ·exact Vl h i j r s lt hi hj ne
 ·rw[hi]at hj
  cases hj
  exact absurd rfl ne
 ·rw[QM]
  exact Vl h j i s r lt hj hi fun z=>ne z.symm
theorem Hj{c:aK}{i:Nat}{e:En}{b0:cV}(hb:c.bs[i]?=some b0){g:Int}{r:Rw}(h:pG (fH c i e) 0 g r):pG c ((i:Int)+1) g r∨((go b0.sd e).al=true/\(go b0.sd e).due=some r.2/\(go b0.sd e).o=r.1/\(go b0.sd e).g=g):=by
 rcases h with h|⟨j,b,h1,h2,h3,h4,h5,_⟩
 ·exact .inl (.inl h)
 ·rw[v8]at h1
  split at h1
  ·next z=>
   subst z
   rw[hb]at h1
   cases h1
   exact .inr ⟨h2,h3,h4,h5⟩
  ·next z=>exact .inl (.inr ⟨j,b,h1,h2,h3,h4,h5,by omega⟩)
theorem Sq{c:aK}{k o g':Int}{lo g:Int}{r:Rw}(h:pG (wI c k o g') lo g r):pG c lo g r:=by
 rcases h with h|⟨j,b,h1,h2,h3,h4,h5,h6⟩
 ·exact .inl h
 ·have h1:(c.bs.map fun x=>if uR k x&&x.sd.al then mJ x (.followed o g') else x)[j]?=some b:=h1
  rw[ard]at h1
  obtain⟨x,hx,rfl⟩:=arI.mp h1
  cases q:(uR k x&&x.sd.al) with
  |true=>
   rw[q]at h3
   have h3:x.sd.due=some r.2:=h3
   simp[uR,h3]at q
  |false=>
   rw[q]at h2 h3 h4 h5
   exact .inr ⟨j,x,hx,h2,h3,h4,h5,h6⟩
theorem ais{n s:Nat}{c c':aK}{d:bL}{r:Dat}(I:Inv n s c)(hn:n<=199)(N:NM c)(h:cY c d=.ok r c'):NM c':=by
 have A0:=I.al
 have gv:∀{g:Int} {r:Rw} {lo:Int},pG c lo g r->Vg c g:=fun h=>by
  rcases h with h|⟨j,b,h1,h2,_,_,h5,_⟩
  ·exact(I.hE _ h).2.1
  ·rw[←h5]
   exact(I.alive (aq6 h1) h2).2.1
 have nobs:∀{f:Fi},(beg f).due=none->∀g (r:Rw),pG { c with bs:=c.bs++[yO f] } 0 g r->pG c 0 g r:=fun hf g r h=>by
  rcases h with h|⟨j,b,h1,h2,h3,h4,h5,h6⟩
  ·exact .inl h
  ·by_cases hj:j < c.bs.length
   ·rw[ara hj]at h1
    exact .inr ⟨j,b,h1,h2,h3,h4,h5,h6⟩
   ·rw[aro (by omega)]at h1
    cases hz:j - c.bs.length with
    |zero=>
     rw[hz]at h1
     cases h1
     have h3:(beg _).due=some r.2:=h3
     rw[hf]at h3
     cases h3
    |succ q=>
     rw[hz]at h1
     simp at h1
 cases d with
 |owner=>
  cases h
  exact N.sub rfl rfl fun _ _ h=>h
 |ground x=>
  obtain⟨hx,h⟩:=uI h
  cases h
  have hl:=I.gr.len
  have e1:∀y,Vg c y->aH { c with al:=c.al++[x],ci:=c.ci++[[(c.al.length:Int)+1]] } y=aH c y:=fun y hy=>by
   obtain⟨k,hk,rfl⟩:=pZ hy
   simp[aH,ara (show k < c.ci.length by omega)]
  have e2:∀y,Vg c y->lE { c with al:=c.al++[x],ci:=c.ci++[[(c.al.length:Int)+1]] } y=lE c y:=fun y hy=>by
   obtain⟨k,hk,rfl⟩:=pZ hy
   simp[lE,ara hk]
  intro y hy g hg k hk r s hr hs ne
  have hy:1<=y/\y<=((c.al++[x]).length:Int):=hy
  simp at hy
  by_cases hv:Vg c y
  ·rw[e1 y hv]at hg hk
   have:roomOf { c with al:=c.al++[x],ci:=c.ci++[[(c.al.length:Int)+1]] } y=roomOf c y:=by
    unfold roomOf
    rw[e1 y hv]
    congr 1
    exact List.map_congr_left fun z hz=>e2 z (I.gr.mem _ _ (I.gr.at hv) z hz)
   rw[this]
   exact N y hv g hg k hk r s hr hs ne
  ·have ey:y=(c.al.length:Int)+1:=by unfold Vg at hv;omega
   subst ey
   have:aH { c with al:=c.al++[x],ci:=c.ci++[[(c.al.length:Int)+1]] } ((c.al.length:Int)+1)=[(c.al.length:Int)+1]:=by
    simp[aH,←hl]
   rw[this]at hg
   rw[aq7.mp hg]at hr
   have hr:pG c 0 ((c.al.length:Int)+1) r:=hr
   exact absurd (gv hr) hv
 |enrol o g m=>
  obtain⟨h1,h⟩:=fO h
  obtain⟨h2,h⟩:=fY h
  obtain⟨h3,h⟩:=Cv h
  obtain⟨h4,h⟩:=eX h
  obtain⟨h5,h⟩:=eX h
  have hb:=Iv (Im h)
  have h:=oH h
  cases h
  refine N.add I.gr rfl rfl h2 (fun k r hr=>?_) hb
  rcases hr with hr|hr
  ·rcases arb.mp hr with hr|hr
   ·exact .inl (.inl hr)
   ·have:=aq7.mp hr
    obtain⟨r1,r2⟩:=r
    cases this
    exact .inr ⟨rfl,rfl⟩
  ·exact .inl (.inr hr)
 |leave o g=>
  obtain⟨h1,h⟩:=fO h
  obtain⟨h2,h⟩:=fY h
  obtain⟨h3,h⟩:=gK h
  obtain⟨h4,h⟩:=eX h
  cases h
  exact N.sub rfl rfl fun k r hr=>hr.imp (fun z=>(arp.mp z).1) id
 |bring o g e=>
  obtain⟨h1,h⟩:=fO h
  obtain⟨h2,h⟩:=fY h
  obtain⟨h3,h⟩:=Cv h
  obtain⟨h4,h⟩:=gK h
  cases h
  exact N.sub rfl rfl (nobs rfl)
 |bear k=>
  obtain⟨b0,e0,h1,h2,h3,h⟩:=rA h
  cases h
  exact N.sub rfl rfl (nobs rfl)
 |cut k=>
  obtain⟨b0,h1,h2,h⟩:=rQ h
  have hb:=Iv (Im h)
  have h:=oH h
  cases h
  obtain⟨q1,q2,q3⟩:=jW h1
  refine N.add I.gr rfl rfl (I.alive (aq6 q1) h2).2.1 (fun g r hr=>?_) hb
  rcases Hj q1 hr with z|⟨_,z2,z3,z4⟩
  ·exact .inl z.all
  ·obtain⟨r1,r2⟩:=r
   exact .inr ⟨z4.symm,Prod.ext z3.symm (arn z2).symm⟩
 |tear k p=>
  obtain⟨b0,h1,h2,h⟩:=rQ h
  obtain⟨h3,h⟩:=uI h
  obtain⟨h4,h⟩:=eX h
  cases h
  obtain⟨q1,q2,q3⟩:=jW h1
  refine N.sub rfl rfl fun g r hr=>?_
  rcases Hj q1 hr with z|⟨z1,z2,z3,z4⟩
  ·exact z.all
  ·exact .inr ⟨_,b0,q1,z1,z2,z3,z4,by omega⟩
 |sell k o=>
  obtain⟨b0,e0,h1,h2,h3,h⟩:=rA h
  obtain⟨h4,h⟩:=fO h
  obtain⟨h5,h⟩:=eX h
  obtain⟨h6,h⟩:=gK h
  have hb:=Iv (Im h)
  have h:=oH h
  cases h
  obtain⟨q1,q2,q3⟩:=jW h1
  refine N.add I.gr rfl rfl (I.alive (aq6 q1) h2).2.1 (fun g r hr=>?_) hb
  rcases Hj q1 (Sq hr) with z|⟨_,z2,z3,z4⟩
  ·rw[show(((k - 1).toNat:Nat):Int)+1=k by omega]at z
   exact .inl z
  ·obtain⟨r1,r2⟩:=r
   exact .inr ⟨z4.symm,Prod.ext z3.symm (arn z2).symm⟩
 |move k g=>
  obtain⟨b0,e0,h1,h2,h3,h⟩:=rA h
  obtain⟨h4,h⟩:=fY h
  obtain⟨h5,h⟩:=eX h
  obtain⟨h6,h⟩:=gK h
  have hb:=Iv (Im h)
  have h:=oH h
  cases h
  obtain⟨q1,q2,q3⟩:=jW h1
  refine N.add I.gr rfl rfl h4 (fun g' r hr=>?_) hb
  rcases Hj q1 (Sq hr) with z|⟨_,z2,z3,z4⟩
  ·exact .inl z.all
  ·obtain⟨r1,r2⟩:=r
   have z2:b0.sd.due=some r2:=z2
   rw[h3]at z2
   exact .inr ⟨z4.symm,Prod.ext z3.symm (arn z2).symm⟩
 |die k=>
  obtain⟨b0,h1,h2,h⟩:=rQ h
  cases h
  obtain⟨q1,q2,q3⟩:=jW h1
  refine N.sub rfl rfl fun g r hr=>?_
  rcases Hj q1 hr with z|⟨z1,_⟩
  ·exact z.all
  ·cases z1
 |vY x y=>
  obtain⟨hy,h⟩:=fY h
  obtain⟨hx,h⟩:=fY h
  obtain⟨hn',h⟩:=eX h
  split at h
  ·cases h
  next hcl=>
  cases h
  have hm:∀z∈sortI (aH c x++aH c y),Vg c z:=fun z hz=>by
   rcases arb.mp (Ed.mp hz) with hz|hz
   ·exact I.gr.mem _ _ (I.gr.at hx) z hz
   ·exact I.gr.mem _ _ (I.gr.at hy) z hz
  intro z hz g hg k hk r s hr hs ne
  have hz:Vg c z:=hz
  have ez:aH { c with ci:=encl c.ci (sortI (aH c x++aH c y)) } z=if z∈sortI (aH c x++aH c y) then sortI (aH c x++aH c y) else aH c z:=by
   obtain⟨j,hj,rfl⟩:=pZ hz
   have h1:=yM c.ci (sortI (aH c x++aH c y)) j (fun y hy=>(hm y hy).1)
   have hj':j < c.ci.length:=by rw[I.gr.len];exact hj
   have e:aH { c with ci:=encl c.ci (sortI (aH c x++aH c y)) } ((j:Int)+1)=((encl c.ci (sortI (aH c x++aH c y)))[j]?).getD []:=by simp[aH]
   rw[e,h1]
   by_cases q:(j:Int)+1∈sortI (aH c x++aH c y)
   ·rw[if_pos ⟨q,hj'⟩,if_pos q]
    rfl
   ·rw[if_neg (fun z=>q z.1),if_neg q]
    simp[aH]
  have hr:pG c 0 g r:=hr
  have hs:pG c 0 k s:=hs
  by_cases q:z∈sortI (aH c x++aH c y)
  ·rw[if_pos q]at ez
   have hle:roomOf { c with ci:=encl c.ci (sortI (aH c x++aH c y)) } z<=rB c x y:=abk (by rw[ez];exact q) fun w hw=>by
    have e2:lE { c with ci:=encl c.ci (sortI (aH c x++aH c y)) } w=lE c w:=rfl
    rw[ez]at hw
    rw[e2]
    unfold rB
    rcases arb.mp (Ed.mp hw) with hw|hw <;> (have:=af9 hw;split <;> omega)
   rw[ez]at hg hk
   have mem:∀{g:Int} {r:Rw},g∈sortI (aH c x++aH c y)->pG c 0 g r->r∈bK (BW c x y):=fun hg hr=>by
    rw[dZ]
    unfold BW
    rcases arb.mp (Ed.mp hg) with hg|hg
    ·exact arJ _ (dZ.mpr (wM.mpr ⟨_,hg,hr⟩))
    ·exact arL _ (dZ.mpr (wM.mpr ⟨_,hg,hr⟩))
   have:=aeb hcl (mem hg hr) (mem hk hs) ne
   omega
  ·rw[if_neg q]at ez
   have:roomOf { c with ci:=encl c.ci (sortI (aH c x++aH c y)) } z=roomOf c z:=by
    unfold roomOf
    rw[ez]
    rfl
   rw[this]
   rw[ez]at hg hk
   exact N z hz g hg k hk r s hr hs ne
 |part x=>
  obtain⟨hx,h⟩:=fY h
  obtain⟨h1,h⟩:=eX h
  cases h
  have hl:∀y∈lY c x,y∈aH c x:=fun y hy=>(arp.mp hy).1
  have hv:∀y∈lY c x,1<=y:=fun y hy=>(I.gr.mem _ _ (I.gr.at hx) y (hl y hy)).1
  refine N.finer rfl rfl rfl fun z hz=>?_
  have hself:=I.gr.self hz
  obtain⟨j,hj,rfl⟩:=pZ hz
  have hj':j < c.ci.length:=by rw[I.gr.len];exact hj
  have e:aH { c with ci:=encl (encl c.ci [x]) (lY c x) } ((j:Int)+1)=((encl (encl c.ci [x]) (lY c x))[j]?).getD []:=by simp[aH]
  have e1:(encl c.ci [x]).length=c.ci.length:=wA [x] [x] c.ci
  rw[e,yM _ _ j hv,yM c.ci [x] j (fun y hy=>by rw[aq7.mp hy];exact hx.1),e1]
  by_cases q:(j:Int)+1∈lY c x
  ·rw[if_pos ⟨q,hj'⟩]
   refine⟨q,fun y hy=>?_⟩
   rw[I.gr.eq hx (hl _ q)]
   exact hl y hy
  ·rw[if_neg fun z=>q z.1]
   by_cases q2:(j:Int)+1=x
   ·rw[if_pos ⟨by simp[q2],hj'⟩]
    refine⟨by simp[q2],fun y hy=>?_⟩
    have hy:y=x:=by simpa using hy
    rw[hy,←q2]
    exact hself
   ·rw[if_neg fun z=>q2 (by simpa using z.1)]
    have:(c.ci[j]?).getD []=aH c ((j:Int)+1):=by simp[aH]
    rw[this]
    exact⟨hself,fun y hy=>hy⟩
 |pass e h'=>
  obtain⟨h1,h⟩:=fO h
  obtain⟨h2,h⟩:=fO h
  obtain⟨h3,h⟩:=eX h
  cases h
  refine N.map rfl rfl (fun o=>if o=e then h' else o) fun g r hr=>?_
  rcases hr with hr|⟨j,b,k1,k2,k3,k4,k5,_⟩
  ·have hr:(r.1,g,r.2)∈handed c e h':=hr
   unfold handed at hr
   rcases(Ja _ _).mp hr with z|z
   ·cases z
   ·obtain⟨w,hw,hw2⟩:=arf.mp z
    obtain⟨w1,w2,w3⟩:=w
    unfold zX at hw2
    simp only[Prod.mk.injEq]at hw2
    obtain⟨z1,z2,z3⟩:=hw2
    subst z2 z3
    exact⟨w1,.inl hw,z1.symm⟩
  ·have k1:(c.bs.map fun b=>if (b.sd.o==e)&&b.sd.al then mJ b (.passed h') else b)[j]?=some b:=k1
   rw[ard]at k1
   obtain⟨x,hx,rfl⟩:=arI.mp k1
   cases q:((x.sd.o==e)&&x.sd.al) with
   |true=>
    rw[q]at k2 k3 k4 k5
    have q':x.sd.o=e:=by
     rw[aq0]at q
     exact eq_of_beq q.1
    have k4:h'=r.1:=k4
    exact⟨x.sd.o,.inr ⟨j,x,hx,k2,k3,rfl,k5,by omega⟩,by rw[if_pos q',k4]⟩
   |false=>
    rw[q]at k2 k3 k4 k5
    have k2:x.sd.al=true:=k2
    have q':¬x.sd.o=e:=fun z=>by simp[z,k2]at q
    have k4:x.sd.o=r.1:=k4
    exact⟨x.sd.o,.inr ⟨j,x,hx,k2,k3,rfl,k5,by omega⟩,by rw[if_neg q',k4]⟩
 |heir e g x=>
  obtain⟨h1,h⟩:=fO h
  obtain⟨h2,h⟩:=fY h
  obtain⟨h3,h⟩:=uI h
  obtain⟨h4,h⟩:=gK h
  split at h
  ·next mk hf=>
   cases h
   have hfr:=List.find?_some hf
   refine N.add I.gr rfl rfl (lo:=0) (o:=c.count+1) (m:=mk) h2 (fun k r hr=>?_) fun r hr _=>?_
   ·rcases hr with hr|hr
    ·rcases arb.mp hr with hr|hr
     ·exact .inl (.inl hr)
     ·have:=aq7.mp hr
      obtain⟨r1,r2⟩:=r
      cases this
      exact .inr ⟨rfl,rfl⟩
    ·exact .inl (.inr hr)
   ·unfold zV at hfr
    rw[ark,List.any_eq_false]at hfr
    have:=hfr r (dZ.mpr hr)
    simpa using this
  ·cases h
theorem nmZ:NM Uc:=fun x hx=>by
 have h:1<=x/\x<=((0:Nat):Int):=hx
 omega
theorem N7.ok{n:Nat}{c:aK}(h:N7 n c):n<=200->Inv n n c/\NM c:=by
 induction h with
 |nil=>exact fun _=>⟨aiK,nmZ⟩
 | @step n c d r hf ih=>
  intro hn
  obtain⟨I,N⟩:=ih (by omega)
  refine⟨(Y9 I d (by omega)).mono (aru _) (by have:=aa7 d;omega),?_⟩
  unfold qW
  cases e:cY c d with
  |ok _ c'=>exact ais I (by omega) N e
  |no _=>exact N
 |le _ h ih=>
  intro hn
  obtain⟨I,N⟩:=ih (by omega)
  exact⟨I.mono h h,N⟩
@[simp]theorem ap6 (c:aK):aW (nu c) (.int 0)=.ok (lI c.own):=rfl
@[simp]theorem apb (c:aK):aW (nu c) (.int 1)=.ok (.list ((List.range c.al.length).map (grD c))):=rfl
@[simp]theorem apm (c:aK):aW (nu c) (.int 2)=.ok (.list (c.held.map iY)):=rfl
@[simp]theorem aqp (c:aK):aW (nu c) (.int 3)=.ok (.list (c.bs.map fG)):=rfl
theorem eq_nil(xs:List Dat)(h:mW 11 xs=true):cC (.list xs) (.list [])=.ok (.bool xs.isEmpty)/\Ai (.list xs) (.list [])=.ok (.bool (!xs.isEmpty)):=by
 have e:eqB (.list xs) (.list [])=.ok xs.isEmpty:=by
  show Out.when (okd 12 (.list xs)&&okd 12 (.list [])) (.ok (PyData.eqv (.list xs) (.list [])))=_
  rw[okd,okd,h,akd]
  cases xs with
  |nil=>rfl
  |cons a r=>rw[ahe];rfl
 exact⟨by unfold cC;rw[e];rfl,by unfold Ai;rw[e];rfl⟩
@[simp]theorem apL (b:cV):aW (fG b) (.int 0)=.ok (.int b.sd.o):=rfl
@[simp]theorem aoI (b:cV):aW (fG b) (.int 1)=.ok (.int b.sd.g):=rfl
@[simp]theorem apl (b:cV):aW (fG b) (.int 2)=.ok (mZ b.sd.due):=rfl
@[simp]theorem aph (b:cV):aW (fG b) (.int 3)=.ok (aJ b.sd.ear):=rfl
@[simp]theorem ao8 (b:cV):aW (fG b) (.int 4)=.ok (.bool b.sd.al):=rfl
@[simp]theorem apy (b:cV):aW (fG b) (.int 5)=.ok (.int b.mo):=rfl
@[simp]theorem aoH (b:cV):aW (fG b) (.int 6)=.ok (.tuple (b.fi.dat::b.en.map En.dat)):=rfl
theorem acy{c:aK}{x:Int}(h:Vg c x):atI ((List.range c.al.length).map (grD c)) (x - 1)=some (.tuple [.int (lE c x),aJ (aH c x)]):=by
 obtain⟨k,hk,rfl⟩:=pZ h
 rw[show(k:Int)+1 - 1=(k:Int) by omega,afZ]
 simp[hk,grD]
theorem ab8(M:Mo)(c:aK)(i:cZ c)(x:Int)(h:Vg c x):Ax M [nu c,.int x]=.ok (.int (roomOf c x)):=by
 have h1:=acy h
 have hc:=i.at h
 have hl:(aH c x).length<=50000:=by have:=i.clen hc;omega
 have hne:(aH c x).map (lE c)≠[]:=fun z=>by
  have:=i.self h
  rw[List.map_eq_nil_iff.mp z]at this
  cases this
 have key:=dW (tg:=aF 2) (te:=aA aW (aA aW (aA aW (ao 0) (qC (.int 1))) (aA mF (ao 2) (qC (.int 1)))) (qC (.int 0))) (M:=M) (ρ:=[some (.dat (nu c)),some (.dat (.int x)),none]) PyData.int (fun y=>.int (lE c y)) (aH c x) fun y hy=>⟨[some (.dat (nu c)),some (.dat (.int x)),some (.dat (.int y))],by simp,by
  have:=acy (i.mem _ _ hc y hy)
  simp[this]⟩
 have hm:=maxD_ints hne
 rw[arA]at hm
 simp[arq]at hm
 simp[Ax,Lk,h1,key,hl,hm,roomOf]
theorem VP:∀(l:List (Int×Int)),(l.map fun p=>if p.2 - p.1 > 0 then p.2 - p.1 else 0).sum=((l.filter fun p=>decide (p.1 < p.2)).map fun p=>p.2 - p.1).sum
 |[]=>rfl
 |p::l=>by
  rw[aq3,List.sum_cons,VP l,arE]
  by_cases h:p.1 < p.2
  ·rw[if_pos (by omega),if_pos (by simpa using h),aq3,List.sum_cons]
  ·rw[if_neg (by omega),if_neg (by simpa using h)]
   omega
theorem afT(M:Mo)(x y:List Int)(h:x.length<=1000):Cq M [aJ x,aJ y]=.ok (.int (eV x y)):=by
 have key:=dW (tg:=bx [2,3]) (te:=aA sU (qC (.int 0)) (aA mF (ao 3) (ao 2))) (M:=M) (ρ:=[some (.dat (aJ x)),some (.dat (aJ y)),none,none]) pD (fun p=>.int (if p.2 - p.1 > 0 then p.2 - p.1 else 0)) (x.zip y) fun p _=>⟨[some (.dat (aJ x)),some (.dat (aJ y)),some (.dat (.int p.1)),some (.dat (.int p.2))],by simp[pD],by simp⟩
 have hs:=WD ((x.zip y).map fun p=>if p.2 - p.1 > 0 then p.2 - p.1 else 0)
 rw[VP,arA]at hs
 have hz2:min x.length y.length<=50000:=by omega
 simp[Cq,Uj,zE,key,hz2]
 simp[arq]at hs
 simp[hs,eV]
def EvG(n:Int):En->Prop
 |.moved g=>1<=g/\g<=n
 |.followed _ g=>1<=g/\g<=n
 |_=>True
def FiG(n:Int):Fi->Prop
 |.brought _ g _=>1<=g/\g<=n
 |.born _ _ g=>1<=g/\g<=n
structure Ksd(P:Int->cV->Prop):Prop where
 mono:∀{n m:Int} {b:cV},P n b->n<=m->P m b
 new:∀{n:Int} {f:Fi},FiG n f->P n (yO f)
 mJ:∀{n:Int} {b:cV} {e:En},P n b->EvG n e->P n (mJ b e)
section
variable{P:Int->cV->Prop}(K:Ksd P)
include K
theorem Ksd.one{n:Int}{c:aK}{i:Nat}{e:En}(h:∀b∈c.bs,P n b)(he:EvG n e):∀b∈(fH c i e).bs,P n b:=fun b hb=>by
 rcases Pa hb with z|⟨b0,z,rfl⟩
 ·exact h b z
 ·exact K.mJ (h b0 (aq6 z)) he
theorem Ksd.many{n:Int}{c:aK}{p:cV->Bool}{e:En}(h:∀b∈c.bs,P n b)(he:EvG n e):∀b∈(nH p e c).bs,P n b:=fun b hb=>by
 obtain⟨b0,h1,rfl⟩:=arf.mp hb
 split
 ·exact K.mJ (h b0 h1) he
 ·exact h b0 h1
theorem Ksd.more{n:Int}{c:aK}{f:Fi}(h:∀b∈c.bs,P n b)(hf:FiG n f):∀b∈c.bs++[yO f],P n b:=fun b hb=>by
 rcases arb.mp hb with z|z
 ·exact h b z
 ·rw[aq7.mp z]
  exact K.new hf
theorem Ksd.step{n s:Nat}{c c':aK}{d:bL}{r:Dat}(I:Inv n s c)(h:∀b∈c.bs,P c.al.length b)(e:cY c d=.ok r c'):∀b∈c'.bs,P c'.al.length b:=by
 cases d with
 |owner=>
  cases e
  exact h
 |ground x=>
  obtain⟨_,e⟩:=uI e
  cases e
  exact fun b hb=>K.mono (h b hb) (by simp;omega)
 |enrol o g m=>
  obtain⟨_,e⟩:=fO e
  obtain⟨_,e⟩:=fY e
  obtain⟨_,e⟩:=Cv e
  obtain⟨_,e⟩:=eX e
  obtain⟨_,e⟩:=eX e
  have e:=oH e
  cases e
  exact h
 |leave o g=>
  obtain⟨_,e⟩:=fO e
  obtain⟨_,e⟩:=fY e
  obtain⟨_,e⟩:=gK e
  obtain⟨_,e⟩:=eX e
  cases e
  exact h
 |bring o g m=>
  obtain⟨_,e⟩:=fO e
  obtain⟨hg,e⟩:=fY e
  obtain⟨_,e⟩:=Cv e
  obtain⟨_,e⟩:=gK e
  cases e
  exact K.more h hg
 |bear k=>
  obtain⟨b0,e0,h1,h2,h3,e⟩:=rA e
  cases e
  exact K.more h (I.alive (aq6 (jW h1).1) h2).2.1
 |cut k=>
  obtain⟨b0,h1,h2,e⟩:=rQ e
  have e:=oH e
  cases e
  exact K.one h trivial
 |tear k p=>
  obtain⟨b0,h1,h2,e⟩:=rQ e
  obtain⟨_,e⟩:=uI e
  obtain⟨_,e⟩:=eX e
  cases e
  exact K.one h trivial
 |sell k o=>
  obtain⟨b0,e0,h1,h2,h3,e⟩:=rA e
  obtain⟨_,e⟩:=fO e
  obtain⟨_,e⟩:=eX e
  obtain⟨_,e⟩:=gK e
  have e:=oH e
  cases e
  exact K.many (c:=fH c _ _) (K.one h trivial) (I.alive (aq6 (jW h1).1) h2).2.1
 |move k g=>
  obtain⟨b0,e0,h1,h2,h3,e⟩:=rA e
  obtain⟨hg,e⟩:=fY e
  obtain⟨_,e⟩:=eX e
  obtain⟨_,e⟩:=gK e
  have e:=oH e
  cases e
  exact K.many (c:=fH c _ _) (K.one h hg) hg
 |die k=>
  obtain⟨b0,h1,h2,e⟩:=rQ e
  cases e
  exact K.one h trivial
 |vY x y=>
  obtain⟨_,e⟩:=fY e
  obtain⟨_,e⟩:=fY e
  obtain⟨_,e⟩:=eX e
  split at e
  ·cases e
  ·cases e
   exact h
 |part x=>
  obtain⟨_,e⟩:=fY e
  obtain⟨_,e⟩:=eX e
  cases e
  exact h
 |pass x y=>
  obtain⟨_,e⟩:=fO e
  obtain⟨_,e⟩:=fO e
  obtain⟨_,e⟩:=eX e
  cases e
  exact K.many h trivial
 |heir x g m=>
  obtain⟨_,e⟩:=fO e
  obtain⟨_,e⟩:=fY e
  obtain⟨_,e⟩:=uI e
  obtain⟨_,e⟩:=gK e
  split at e
  ·cases e
   exact h
  ·cases e
theorem N7.all{n:Nat}{c:aK}(h:N7 n c):n<=200->∀b∈c.bs,P c.al.length b:=by
 induction h with
 |nil=>exact fun _ b hb=>nomatch hb
 | @step n c d r hf ih=>
  intro hn
  have I:=(r.ok (by omega)).1
  have ih:=ih (by omega)
  unfold qW
  cases e:cY c d with
  |ok _ c'=>exact K.step I ih e
  |no _=>exact ih
 |le _ h ih=>exact fun hn=>ih (by omega)
end
def jD(x y:List Int):Bool:=(x.zip y).all fun p=>decide (p.1<=p.2)
theorem Wi(x:List Int):jD x x=true:=by
 unfold jD
 rw[ars]
 intro p hp
 obtain⟨i,hi,e⟩:=List.mem_iff_getElem.mp hp
 rw[List.getElem_zip]at e
 rw[←e]
 simp
theorem Yx{x y:List Int}:jD x y=true↔∀(i:Nat) (a b:Int),x[i]?=some a->y[i]?=some b->a<=b:=by
 unfold jD
 rw[ars]
 constructor
 ·intro h i a b ha hb
  have:=h (a,b) (aq6 (i:=i) (by rw[arN];exact⟨ha,hb⟩))
  simpa using this
 ·intro h p hp
  obtain⟨i,hi⟩:=List.mem_iff_getElem?.mp hp
  rw[arN]at hi
  simpa using h i _ _ hi.1 hi.2
theorem adQ{x y:List Int}(h:jD x y=true)(p:Nat):jD x (ug y p)=true:=Yx.mpr fun i a b ha hb=>by
 unfold ug at hb
 rw[arM]at hb
 obtain⟨z,hz,rfl⟩:=arI.mp hb
 have:=Yx.mp h i a z ha hz
 split <;> omega
def Bg(n:Int)(b:cV):Prop:=(1<=b.sd.g/\b.sd.g<=n)/\∀d,b.sd.due=some d->jD d b.sd.ear=true
theorem akZ:Ksd Bg where
 mono:=fun h hn=>⟨⟨h.1.1,by have:=h.1.2;omega⟩,h.2⟩
 new:=fun {n f} h=>by
  cases f with
  |brought o g e=>exact⟨h,fun d hd=>nomatch hd⟩
  |born m o g=>exact⟨h,fun d hd=>nomatch hd⟩
 mJ:=fun {n b e} h he=>by
  cases e with
  |torn p=>exact⟨h.1,fun d hd=>adQ (h.2 d hd) p⟩
  |cut j=>
   refine⟨h.1,fun d hd=>?_⟩
   cases hd
   exact Wi j
  |sold o j=>
   refine⟨h.1,fun d hd=>?_⟩
   cases hd
   exact Wi j
  |moved g=>exact⟨he,h.2⟩
  |followed o g=>exact⟨he,h.2⟩
  |passed o=>exact h
  |died=>exact h
def oE(e:List Int)(R:List Rw)(room:Int):List Int:=zW ((R.filter fun r=>jD r.2 e&&decide (eV r.2 e<=room)).map (·.1))
theorem aen(M:Mo)(x y:List Int)(h:x.length<=1000):yS M [aJ x,aJ y]=.ok (.bool (jD x y)):=by
 have key:=dW (tg:=bx [2,3]) (te:=aA rN (ao 2) (ao 3)) (M:=M) (ρ:=[some (.dat (aJ x)),some (.dat (aJ y)),none,none]) pD (fun p=>.bool (decide (p.1<=p.2))) (x.zip y) fun p _=>⟨[some (.dat (aJ x)),some (.dat (aJ y)),some (.dat (.int p.1)),some (.dat (.int p.2))],by simp[pD],by simp⟩
 have hz2:min x.length y.length<=50000:=by omega
 have hb:Jp (.list ((x.zip y).map fun p=>PyData.bool (decide (p.1<=p.2))))=.ok (.bool (jD x y)):=by
  have:=Ac ((x.zip y).map fun p=>decide (p.1<=p.2))
  rw[arA]at this
  show(match qU ((x.zip y).map fun p=>PyData.bool (decide (p.1<=p.2))) with
   |some bs=>Out.ok (PyData.bool (bs.all id))
   |none=>.bad)=_
  have this:qU ((x.zip y).map fun p=>PyData.bool (decide (p.1<=p.2)))=_:=this
  rw[this]
  simp[jD,List.all_map,arq]
 simp[yS,Oj,zE,key,hz2,hb]
theorem aah(M:Mo)(e:List Int)(R:List Rw)(room:Int)(he:e.length<=1000)(hR:sV R)(hl:R.length<=1000):rR M [aJ e,.list (R.map Ear.rD),.int room]=.ok (aJ (oE e R room)):=by
 have key:=fW (tg:=bx [3,4]) (tt:=jR (gY (aZ yS (ak (aq 4) (ak (aq 0) au)))) (bA (aA rN (aZ lu (ak (aq 4) (ak (aq 0) au))) (ao 2)))) (te:=aq 3) (M:=M) (ρ:=[some (.dat (aJ e)),some (.dat (.list (R.map Ear.rD))),some (.dat (.int room)),none,none]) Ear.rD (fun r=>jD r.2 e&&decide (eV r.2 e<=room)) (fun r=>.int r.1) R fun r hr=>by
  have h1:=aen M r.2 e (by rw[hR r hr];decide)
  have h2:=Dg M r.2 e (by rw[hR r hr];decide)
  have hd:(bx [3,4]) (Ear.rD r) [some (.dat (aJ e)),some (.dat (.list (R.map Ear.rD))),some (.dat (.int room)),none,none]=some [some (.dat (aJ e)),some (.dat (.list (R.map Ear.rD))),some (.dat (.int room)),some (.dat (.int r.1)),some (.dat (aJ r.2))]:=rfl
  refine⟨_,hd,?_,fun _=>by simp⟩
  cases hq:jD r.2 e with
  |true=>
   rw[hq]at h1
   simp[h1,h2]
  |false=>
   rw[hq]at h1
   simp[h1]
 have hi:intsOf ((R.filter fun r=>jD r.2 e&&decide (eV r.2 e<=room)).map fun r=>PyData.int r.1)=some ((R.filter fun r=>jD r.2 e&&decide (eV r.2 e<=room)).map (·.1)):=by
  have:=mD ((R.filter fun r=>jD r.2 e&&decide (eV r.2 e<=room)).map (·.1))
  rw[arA]at this
  exact this
 have hl2:(R.filter fun r=>jD r.2 e&&decide (eV r.2 e<=room)).length<=4000:=arv (arj _ _) (by omega)
 have hl3:R.length<=50000:=by omega
 simp[rR,Fe,key,hi,hl2,hl3,oE]
theorem Ol:∀(r s e:List Int),r.length=s.length->s.length=e.length->jD s e=true->eV r s<=eV r e
 |[],[],[],_,_,_=>by simp[eV]
 |a::r,b::s,c::e,h1,h2,h3=>by
  have hb:b<=c/\jD s e=true:=by
   unfold jD at h3 ⊢
   rw[arP,arK,aq0]at h3
   exact⟨by simpa using h3.1,h3.2⟩
  have ih:=Ol r s e (by simpa using h1) (by simpa using h2) hb.2
  unfold eV at ih ⊢
  rw[arP,arP,arE,arE]
  by_cases q1:a < b
  ·have q2:a < c:=by omega
   simp only[q1,q2,decide_true,if_true,aq3,List.sum_cons]
   omega
  ·by_cases q2:a < c
   ·simp only[q1,q2,decide_true,decide_false,if_true,aq3,List.sum_cons,arz,if_false]
    omega
   ·simp only[q1,q2,decide_false,arz,if_false]
    exact ih
theorem afA{r s e:List Int}{room:Int}(hr:r.length=6)(hs:s.length=6)(he:e.length=6)(d1:jD r e=true)(d2:jD s e=true)(l1:eV r e<=room)(l2:eV s e<=room):gq r s<=room:=by
 have a:=Ol r s e (by omega) (by omega) d2
 have b:=Ol s r e (by omega) (by omega) d1
 unfold gq
 split <;> omega
theorem Jo{e:List Int}{R:List Rw}{room o:Int}:o∈oE e R room↔∃m,(o,m)∈R/\jD m e=true/\eV m e<=room:=by
 unfold oE
 rw[Wy,arf]
 constructor
 ·rintro⟨r,h,rfl⟩
  obtain⟨h1,h2⟩:=arp.mp h
  simp only[aq0,decide_eq_true_eq]at h2
  exact⟨r.2,h1,h2⟩
 ·rintro⟨m,h1,h2,h3⟩
  exact⟨(o,m),arp.mpr ⟨h1,by simp[h2,h3]⟩,rfl⟩
theorem ab0{n s:Nat}{c:aK}(I:Inv n s c)(N:NM c){x:Int}(hx:Vg c x){e:List Int}(he:e.length=6):∀o∈oE e (bK (cM c 0 x)) (roomOf c x),∀p∈oE e (bK (cM c 0 x)) (roomOf c x),o=p:=fun o ho p hp=>by
 obtain⟨m,m1,m2,m3⟩:=Jo.mp ho
 obtain⟨k,k1,k2,k3⟩:=Jo.mp hp
 have m1:=dZ.mp m1
 have k1:=dZ.mp k1
 by_cases q:o=p
 ·exact q
 ·exfalso
  obtain⟨g,hg,a⟩:=wM.mp m1
  obtain⟨h,hh,b⟩:=wM.mp k1
  have h1:=N x hx g hg h hh (o,m) (p,k) a b q
  have h2:=afA (I.Fj _ m1) (I.Fj _ k1) he m2 k2 m3 k3
  simp only at h1 h2
  omega
theorem Qw:∀{l:List Int},l.Pairwise (· < ·)->(∀a∈l,∀b∈l,a=b)->l=[]∨∃a,l=[a]
 |[],_,_=>.inl rfl
 |[a],_,_=>.inr ⟨a,rfl⟩
 |a::b::l,h,e=>by
  have h1:=(List.pairwise_cons.mp h).1 b aq4
  have h2:=e a aq4 b (aq5 _ aq4)
  omega
theorem acp{n s:Nat}{c:aK}(I:Inv n s c)(N:NM c){x:Int}(hx:Vg c x){e:List Int}(he:e.length=6):oE e (bK (cM c 0 x)) (roomOf c x)=[]∨∃o,oE e (bK (cM c 0 x)) (roomOf c x)=[o]:=Qw (Zr _) (ab0 I N hx he)
theorem ade{n s:Nat}{c:aK}(I:Inv n s c)(N:NM c){x:Int}(hx:Vg c x){e:List Int}(he:e.length=6){o:Int}(ho:o∈oE e (bK (cM c 0 x)) (roomOf c x)):oE e (bK (cM c 0 x)) (roomOf c x)=[o]:=by
 rcases acp I N hx he with z|⟨p,z⟩
 ·rw[z]at ho
  cases ho
 ·rw[z]at ho ⊢
  rw[aq7.mp ho]
def iW(c:aK)(x:Int)(p:Nat×cV):Dat:=.tuple [.int ((p.1:Int)+1),aJ p.2.sd.ear,match p.2.sd.due with
 |none=>.none
 |some _=>aJ (oE p.2.sd.ear (bK (cM c 0 x)) (roomOf c x))]
def lU(c:aK)(x:Int):List (Nat×cV):=(c.bs.mapIdx fun i b=>(i,b)).filter fun p=>decide (p.2.sd.g∈aH c x)&&p.2.sd.al
theorem aeK{M:Mo}{L:Lay}{n s:Nat}{c:aK}(a:At M L c)(I:Inv n s c)(hs:s<=76)(x:Int)(hx:Vg c x):qK M [ob L.c,.int x]=.ok (.list ((lU c x).map (iW c x))):=by
 have f0:=I.hL
 have hc:=a.hc
 obtain⟨nh,hh⟩:=a.hh
 have h3:=vD a I.gr (by omega) (by omega) x (by rw[iZ a];exact arv (I.few fun r hr=>lV hr) hs)
 rw[if_pos hx,iZ a]at h3
 have h4:=wJ a I.gr x
 rw[if_pos hx]at h4
 have h5:=vU a I.gr x
 rw[if_pos hx]at h5
 have h6:=HS a (by omega) (aH c x)
 have hlT:(bK (cM c 0 x)).length<=1000:=by
  rw[qI]
  exact arv (I.few fun r hr=>lV hr) (by omega)
 have key:=dW (tg:=bx [4,5]) (te:=bJ (ak (aq 4) (ak (fu "ear" (ao 5)) (ak (K6 (bA (wU false .none (bF "due" (ao 5)))) (qC .none) (aZ rR (ak (fu "ear" (ao 5)) (ak (aq 2) (ak (aq 3) au))))) au)))) (M:=M) (ρ:=[some (.dat (ob L.c)),some (.dat (.int x)),some (.dat (.list ((bK (cM c 0 x)).map Ear.rD))),some (.dat (.int (roomOf c x))),none,none]) nb (fun p=>iW c x (p.1,p.2.2)) ((bV L c).filter fun x_1=>decide (x_1.2.2.sd.g∈aH c x)&&x_1.2.2.sd.al) fun p hp=>by
  obtain⟨hp1,_⟩:=arp.mp hp
  obtain⟨nb',hb⟩:=a.hb' hp1
  have hel:=eO (I.ear _ (aq6 (Ba hp1).2))
  refine⟨[some (.dat (ob L.c)),some (.dat (.int x)),some (.dat (.list ((bK (cM c 0 x)).map Ear.rD))),some (.dat (.int (roomOf c x))),some (.dat (.int ((p.1:Int)+1))),some (.dat (ob p.2.1))],by simp[nb],?_⟩
  have ho:=aah M p.2.2.sd.ear (bK (cM c 0 x)) (roomOf c x) (by omega) (wW I.Fj) hlT
  cases hd:p.2.2.sd.due with
  |none=>simp[hb,hd,mZ,lF,iW]
  |some d=>simp[hb,hd,mZ,lF,iW,ho]
 have e:((bV L c).filter fun x_1=>decide (x_1.2.2.sd.g∈aH c x)&&x_1.2.2.sd.al).map (fun p=>iW c x (p.1,p.2.2))=(lU c x).map (iW c x):=by
  unfold lU
  rw[←Du a,List.filter_map,arA]
  rfl
 rw[e]at key
 have hl:((bV L c).filter fun x_1=>decide (x_1.2.2.sd.g∈aH c x)&&x_1.2.2.sd.al).length<=50000:=arv (arj _ _) (by rw[a.len'];omega)
 simp[qK,wC,hc,aP,bQ,bR,bM,eY,h3,h4,h5,hh,dG,h6,key,hl]
theorem ZP{α:Type}:∀(l:List α) (o i:Nat) (b:α),l[i]?=some b->(l.mapIdx fun j x=>(j+o,x)).filter (fun p=>p.1==i+o)=[(i+o,b)]
 |[],_,_,_,h=>by simp at h
 |a::l,o,0,b,h=>by
  cases h
  have e:(l.mapIdx fun j x=>(j+1+o,x)).filter (fun p=>p.1==o)=[]:=List.filter_eq_nil_iff.mpr fun p hp=>by
   obtain⟨j,hj,rfl⟩:=List.mem_mapIdx.mp hp
   intro z
   have:=eq_of_beq z
   omega
  simp only[Nat.zero_add,List.mapIdx_cons,arE,beq_self_eq_true,if_true,e]
 |a::l,o,i+1,b,h=>by
  have ih:=ZP l (o+1) i b (by simpa using h)
  rw[List.mapIdx_cons,arE]
  have e2:(l.mapIdx fun j x=>(j+1+o,x))=l.mapIdx fun j x=>(j+(o+1),x):=by
   apply arx
   intro j
   simp only[arM]
   cases l[j]? <;> simp;omega
  rw[show i+1+o=i+(o+1) by omega]at *
  simp only[e2,ih]
  rw[if_neg (by simp;omega)]
theorem QV(M:Mo)(c:aK)(hb:c.bs.length<=1000)(x:Int)(i:Nat)(b:cV)(h:c.bs[i]?=some b):Cm M [.list ((lU c x).map (iW c x)),.int ((i:Int)+1)]=.ok (.list (if (decide (b.sd.g∈aH c x)&&b.sd.al)=true then[iW c x (i,b)] else[])):=by
 have key:=fW (tg:=aF 2) (tt:=bA (aA cC (aA aW (ao 2) (qC (.int 0))) (ao 1))) (te:=aq 2) (M:=M) (ρ:=[some (.dat (.list ((lU c x).map (iW c x)))),some (.dat (.int ((i:Int)+1))),none]) (iW c x) (fun p=>p.1==i) (iW c x) (lU c x) fun p _=>⟨[some (.dat (.list ((lU c x).map (iW c x)))),some (.dat (.int ((i:Int)+1))),some (.dat (iW c x p))],by simp,by
  have:aW (iW c x p) (.int 0)=.ok (.int ((p.1:Int)+1)):=rfl
  simp[this]
  rw[ar7]
  simp
  omega,fun _=>by simp⟩
 have hp:=ZP c.bs 0 i b h
 simp only[Nat.add_zero]at hp
 have e:(lU c x).filter (fun p=>p.1==i)=if (decide (b.sd.g∈aH c x)&&b.sd.al)=true then[(i,b)] else[]:=by
  unfold lU
  rw[arZ,show(fun a:Nat×cV=>(a.1==i)&&(decide (a.2.sd.g∈aH c x)&&a.2.sd.al))=fun a=>(decide (a.2.sd.g∈aH c x)&&a.2.sd.al)&&(a.1==i) from funext fun a=>Bool.and_comm _ _,←arZ,hp,arE]
  simp
 rw[e]at key
 have hl:(lU c x).length<=50000:=arv (arj _ _) (by simp;omega)
 cases hq:(decide (b.sd.g∈aH c x)&&b.sd.al) <;> (rw[hq]at key;simp at key;simp[Cm,Tp,key,hl])
theorem ahD{M:Mo}{L:Lay}{n s:Nat}{c:aK}(a:At M L c)(I:Inv n s c)(hs:s<=76)(k:Int)(b:cV)(hk:bk c k=some b)(hal:b.sd.al=true)(d:List Int)(hd:b.sd.due=some d):uH M [ob L.c,.int k]=.ok (.int (eV d b.sd.ear)):=by
 have hc:=a.hc
 obtain⟨nh,hh⟩:=a.hh
 have f0:=I.hL
 have h1:=Ef a (by omega) k
 rw[hk]at h1
 simp[hal,hd]at h1
 obtain⟨_,_,_,q4,nb,hb⟩:=pW a hk
 have h2:=Dg M d b.sd.ear (by rw[eO (I.due b (aq6 q4) d hd)];decide)
 simp[uH,zJ,hc,aP,hh,dG,aX,h1,hb,hd,mZ,h2]
abbrev Em(c:aK):List Dat:=(List.range c.al.length).map fun(k:Nat)=>.list ((lU c ((k:Int)+1)).map (iW c ((k:Int)+1)))
theorem Wv(M:Mo)(c:aK)(hb:c.bs.length<=1000)(i:Nat)(b:cV)(h:c.bs[i]?=some b)(x0 x1 x2 x3 x6 x7 x8 x9 x11 x12:Option Cell):∀(ks:List Nat) (x10:Option Cell),∃y10,gR (aF 10) Hu (ks.map fun(k:Nat)=>.list ((lU c ((k:Int)+1)).map (iW c ((k:Int)+1)))) M [x0,x1,x2,x3,some (.dat (.int (i:Int))),some (.dat (fG b)),x6,x7,x8,x9,x10,x11,x12]=.next [x0,x1,x2,x3,some (.dat (.int (i:Int))),some (.dat (fG b)),x6,x7,x8,x9,y10,x11,x12] M
 |[],x10=>⟨x10,rfl⟩
 |k::ks,x10=>by
  obtain⟨y10,h2⟩:=Wv M c hb i b h x0 x1 x2 x3 x6 x7 x8 x9 x11 x12 ks (some (.dat (.list ((lU c ((k:Int)+1)).map (iW c ((k:Int)+1))))))
  have h1:Hu M [x0,x1,x2,x3,some (.dat (.int (i:Int))),some (.dat (fG b)),x6,x7,x8,x9,some (.dat (.list ((lU c ((k:Int)+1)).map (iW c ((k:Int)+1))))),x11,x12]=.next [x0,x1,x2,x3,some (.dat (.int (i:Int))),some (.dat (fG b)),x6,x7,x8,x9,some (.dat (.list ((lU c ((k:Int)+1)).map (iW c ((k:Int)+1))))),x11,x12] M:=by
   cases q:b.sd.al with
   |true=>simp[Hu,q]
   |false=>
    have hf:=QV M c hb ((k:Int)+1) i b h
    rw[q]at hf
    simp at hf
    have hn:=(eq_nil [] rfl).2
    simp at hn
    simp[Hu,q,hf,hn]
  exact⟨y10,by rw[aq3,iD (ρ1:=[x0,x1,x2,x3,some (.dat (.int (i:Int))),some (.dat (fG b)),x6,x7,x8,x9,some (.dat (.list ((lU c ((k:Int)+1)).map (iW c ((k:Int)+1))))),x11,x12]) (by simp) h1];exact h2⟩
theorem Vz(M:Mo)(c:aK)(hb:c.bs.length<=1000)(i:Nat)(b:cV)(h:c.bs[i]?=some b)(x0 x1 x2 x7 x8 x11:Option Cell):∀(ys:List Int) (x10 x12:Option Cell),(∀y∈ys,Vg c y/\(decide (b.sd.g∈aH c y)&&b.sd.al)=true/\iW c y (i,b)=.tuple [.int ((i:Int)+1),aJ b.sd.ear,aJ [b.sd.o]])->∃y10 y12,gR (aF 12) Mu (ys.map PyData.int) M [x0,x1,x2,some (.dat (.list (Em c))),some (.dat (.int (i:Int))),some (.dat (fG b)),some (.dat (.int b.sd.o)),x7,x8,some (.dat (aJ b.sd.ear)),x10,x11,x12]=.next [x0,x1,x2,some (.dat (.list (Em c))),some (.dat (.int (i:Int))),some (.dat (fG b)),some (.dat (.int b.sd.o)),x7,x8,some (.dat (aJ b.sd.ear)),y10,x11,y12] M
 |[],x10,x12,_=>⟨x10,x12,rfl⟩
 |y::ys,x10,x12,hy=>by
  obtain⟨v,q1,q2⟩:=hy y aq4
  have hf:=QV M c hb y i b h
  rw[if_pos q1,q2]at hf
  obtain⟨j,hj,rfl⟩:=pZ v
  have hat:atI (Em c) (j:Int)=some (.list ((lU c ((j:Int)+1)).map (iW c ((j:Int)+1)))):=atI_nat (by simp[hj])
  have hk:lM 10 M [.list [.tuple [.int ((i:Int)+1),aJ b.sd.ear,aJ [b.sd.o]]],.list [.tuple [.int ((i:Int)+1),aJ b.sd.ear,aJ [b.sd.o]]]]=.ok (.bool true):=aa6 M 9 _ (by simp[lk,Wr])
  have hk2:lM 10 M [.list [.tuple [.int ((i:Int)+1),aJ b.sd.ear,aJ [b.sd.o]]],.list [.tuple [.int ((i:Int)+1),aJ b.sd.ear,.tuple [.int b.sd.o]]]]=.ok (.bool true):=hk
  have e:((j:Int)+1 - 1)=j:=by omega
  have h1:Mu M [x0,x1,x2,some (.dat (.list (Em c))),some (.dat (.int (i:Int))),some (.dat (fG b)),some (.dat (.int b.sd.o)),x7,x8,some (.dat (aJ b.sd.ear)),x10,x11,some (.dat (.int ((j:Int)+1)))]=.next [x0,x1,x2,some (.dat (.list (Em c))),some (.dat (.int (i:Int))),some (.dat (fG b)),some (.dat (.int b.sd.o)),x7,x8,some (.dat (aJ b.sd.ear)),some (.dat (.list [.tuple [.int ((i:Int)+1),aJ b.sd.ear,aJ [b.sd.o]]])),x11,some (.dat (.int ((j:Int)+1)))] M:=by
   generalize Em c=G at hat ⊢
   generalize (lU c ((j:Int)+1)).map (iW c ((j:Int)+1))=T at hf hat
   simp at hf hat
   simp[Mu,e,hat,hf,hk2]
  obtain⟨y10,y12,h2⟩:=Vz M c hb i b h x0 x1 x2 x7 x8 x11 ys (some (.dat (.list [.tuple [.int ((i:Int)+1),aJ b.sd.ear,aJ [b.sd.o]]]))) (some (.dat (.int ((j:Int)+1)))) fun z hz=>hy z (aq5 _ hz)
  exact⟨y10,y12,by rw[aq3,iD (ρ1:=[x0,x1,x2,some (.dat (.list (Em c))),some (.dat (.int (i:Int))),some (.dat (fG b)),some (.dat (.int b.sd.o)),x7,x8,some (.dat (aJ b.sd.ear)),x10,x11,some (.dat (.int ((j:Int)+1)))]) (by simp) h1];exact h2⟩
theorem ae2{M:Mo}{L:Lay}{n s:Nat}{c:aK}(hL:L.c=0)(a:At M L c)(I:Inv n s c)(N:NM c)(B:∀b∈c.bs,Bg c.al.length b)(hs:s<=76)(hn:n<=199)(x0 x6 x7 x8 x9 x10 x11 x12:Option Cell)(i:Nat)(b:cV)(h:c.bs[i]?=some b):∃y6 y7 y8 y9 y10 y11 y12,za M [x0,some (.dat (ob 0)),some (.dat (nu c)),some (.dat (.list (Em c))),some (.dat (.int (i:Int))),some (.dat (fG b)),x6,x7,x8,x9,x10,x11,x12]=.next [x0,some (.dat (ob 0)),some (.dat (nu c)),some (.dat (.list (Em c))),some (.dat (.int (i:Int))),some (.dat (fG b)),y6,y7,y8,y9,y10,y11,y12] M:=by
 have f0:=I.hL
 have mem:=aq6 h
 obtain⟨v,hdp⟩:=B b mem
 have v:Vg c b.sd.g:=v
 have hbl:c.bs.length<=1000:=by omega
 have hel:=eO (I.ear b mem)
 obtain⟨y10,h1⟩:=Wv M c hbl i b h x0 (some (.dat (ob 0))) (some (.dat (nu c))) (some (.dat (.list (Em c)))) (some (.dat (.int b.sd.o))) (some (.dat (.int b.sd.g))) (some (.dat (mZ b.sd.due))) (some (.dat (aJ b.sd.ear))) x11 x12 (List.range c.al.length) x10
 have h2:=ab8 M c I.gr b.sd.g v
 have hG:=acy v
 have hca:=a.hc
 rw[hL]at hca
 cases q1:b.sd.al with
 |false=>exact⟨some (.dat (.int b.sd.o)),some (.dat (.int b.sd.g)),some (.dat (mZ b.sd.due)),some (.dat (aJ b.sd.ear)),y10,some (.dat (.int (roomOf c b.sd.g))),x12,by simp[za,h1,h2,q1]⟩
 |true=>
  cases q2:b.sd.due with
  |none=>
   rw[q2]at h1
   exact⟨some (.dat (.int b.sd.o)),some (.dat (.int b.sd.g)),some (.dat .none),some (.dat (aJ b.sd.ear)),y10,some (.dat (.int (roomOf c b.sd.g))),x12,by simp[za,q2,mZ]at h1 ⊢;simp[h1,h2,q1,lF]⟩
  |some d=>
   have hdl:=eO (I.due b mem d q2)
   have h3:=afT M d b.sd.ear (by omega)
   rw[q2]at h1
   by_cases q3:eV d b.sd.ear<=roomOf c b.sd.g
   rotate_left
   ·exact⟨some (.dat (.int b.sd.o)),some (.dat (.int b.sd.g)),some (.dat (aJ d)),some (.dat (aJ b.sd.ear)),y10,some (.dat (.int (roomOf c b.sd.g))),x12,by simp[za,q2,mZ]at h1 ⊢;simp[h1,h2,q1,lF,h3,q3]⟩
   have hbk:bk c ((i:Int)+1)=some b:=by
    have:i < c.bs.length:=(aq1.mp h).1
    unfold bk
    rw[if_pos (by omega),show((i:Int)+1 - 1).toNat=i by omega]
    exact h
   have h4:=ahD a I hs ((i:Int)+1) b hbk q1 d q2
   rw[hL]at h4
   have hk:lM 10 M [.int (eV d b.sd.ear),.int (eV d b.sd.ear)]=.ok (.bool true):=aa6 M 9 _ (by simp[lk])
   obtain⟨z10,z12,h5⟩:=Vz M c hbl i b h x0 (some (.dat (ob 0))) (some (.dat (nu c))) (some (.dat (.int b.sd.g))) (some (.dat (aJ d))) (some (.dat (.int (roomOf c b.sd.g)))) (aH c b.sd.g) y10 x12 fun y hy=>by
    have vy:=I.gr.mem _ _ (I.gr.at v) y hy
    have ec:=I.gr.eq v hy
    have er:roomOf c y=roomOf c b.sd.g:=by unfold roomOf;rw[ec]
    have sf:=I.gr.self v
    refine⟨vy,by simp[ec,sf,q1],?_⟩
    have ho:b.sd.o∈oE b.sd.ear (bK (cM c 0 y)) (roomOf c y):=Jo.mpr ⟨d,dZ.mpr (wM.mpr ⟨b.sd.g,by rw[ec];exact sf,.inr ⟨i,b,h,q1,q2,rfl,rfl,by omega⟩⟩),hdp d q2,by rw[er];exact q3⟩
    have:=ade I N vy hel ho
    simp[iW,q2,this]
   exact⟨some (.dat (.int b.sd.o)),some (.dat (.int b.sd.g)),some (.dat (aJ d)),some (.dat (aJ b.sd.ear)),z10,some (.dat (.int (roomOf c b.sd.g))),z12,by simp[za,q2,mZ]at h1 ⊢;simp[h1,h2,q1,lF,h3,q3,hca,aP,wX,h4,hk,hG,h5]⟩
theorem ZW{M:Mo}{L:Lay}{n s:Nat}{c:aK}(hL:L.c=0)(a:At M L c)(I:Inv n s c)(N:NM c)(B:∀b∈c.bs,Bg c.al.length b)(hs:s<=76)(hn:n<=199)(x0:Option Cell):∀(xs:List (Nat×cV)) (x4 x5 x6 x7 x8 x9 x10 x11 x12:Option Cell),(∀x∈xs,c.bs[x.1]?=some x.2)->∃ρ,gR (bx [4,5]) za (xs.map fun x=>.tuple [.int (x.1:Int),fG x.2]) M [x0,some (.dat (ob 0)),some (.dat (nu c)),some (.dat (.list (Em c))),x4,x5,x6,x7,x8,x9,x10,x11,x12]=.next ρ M
 |[],x4,x5,x6,x7,x8,x9,x10,x11,x12,_=>⟨_,rfl⟩
 |x::xs,x4,x5,x6,x7,x8,x9,x10,x11,x12,h=>by
  obtain⟨y6,y7,y8,y9,y10,y11,y12,h1⟩:=ae2 hL a I N B hs hn x0 x6 x7 x8 x9 x10 x11 x12 x.1 x.2 (h x aq4)
  obtain⟨ρ,h2⟩:=ZW hL a I N B hs hn x0 xs (some (.dat (.int (x.1:Int)))) (some (.dat (fG x.2))) y6 y7 y8 y9 y10 y11 y12 fun y hy=>h y (aq5 _ hy)
  exact⟨ρ,by rw[aq3,iD (ρ1:=[x0,some (.dat (ob 0)),some (.dat (nu c)),some (.dat (.list (Em c))),some (.dat (.int (x.1:Int))),some (.dat (fG x.2)),x6,x7,x8,x9,x10,x11,x12]) (by simp) h1];exact h2⟩
theorem aeh(c:aK):pN 0 (c.bs.map fG)=(c.bs.mapIdx fun i b=>(i,b)).map fun x=>.tuple [.int (x.1:Int),fG x.2]:=by
 unfold pN
 apply arx
 intro j
 simp only[ard,arM]
 cases c.bs[j]? <;> simp
theorem afz(ns:List Int)(h:ns.length<=63):∃M,Xq [] [.list (ns.map PyData.int)]=.ok (.bool true) M:=by
 obtain⟨M0,L,hL,h0,a0⟩:=amX
 have cell0:GD M0 [lI ns,.int 0]=_:=ain M0 ns 0
 have hl:=agL ns 1 44 (by decide)
 generalize hcl:Rf.cutD ns (some ((1:Nat):Int)) (some ((44:Nat):Int))=cells at hl
 have hcl2:Rf.cutD (ns.map PyData.int) (some 1) (some 44)=cells.map PyData.int:=by rw[ahk];exact congrArg _ hcl
 obtain⟨c,M1,L1,hL1,h1,N1⟩:=ahz a0 cells (by omega) (if ns.getD 0 0 < 0 then -(ns.getD 0 0) else ns.getD 0 0)
 have I:=N1.inv
 have hc1:=N1.at_.hc
 have l1:=N1.look (by decide)
 have al:c.al.length<=50000:=by have:=I.al;omega
 have key:=dW (tg:=aF 4) (te:=aO pO (ao 1) (ak (aA fD (ao 4) (qC (.int 1))) au)) (M:=M1) (ρ:=[some (.dat (lI ns)),some (.dat (ob 0)),some (.dat (nu c)),none,none,none,none,none,none,none,none,none,none]) (fun(k:Nat)=>PyData.int (k:Int)) (fun(k:Nat)=>.list ((lU c ((k:Int)+1)).map (iW c ((k:Int)+1)))) (List.range c.al.length) fun k hk=>⟨[some (.dat (lI ns)),some (.dat (ob 0)),some (.dat (nu c)),none,some (.dat (.int (k:Int))),none,none,none,none,none,none,none,none],by simp,by
  have hk:=List.mem_range.mp hk
  have g:=aeK N1.at_ I (by decide) ((k:Int)+1) ⟨by omega,by omega⟩
  rw[hL1,hL]at g hc1
  simp[hc1,aP,pO,g]⟩
 have hr:gQ 0 c.al.length=(List.range c.al.length).map fun(k:Nat)=>PyData.int (k:Int):=by simp[gQ]
 obtain⟨ρ,h2⟩:=ZW (hL1.trans hL) N1.at_ I (N1.rch.ok (by decide)).2 (N1.rch.all akZ (by decide)) (by decide) (by decide) (some (.dat (lI ns))) (c.bs.mapIdx fun i b=>(i,b)) none none none none none none none none none fun x hx=>by
  obtain⟨i,hi,rfl⟩:=List.mem_mapIdx.mp hx
  exact aq2 hi
 rw[←aeh]at h2
 rw[hL1,hL]at l1 hc1
 rw[hL]at h1
 rw[←hr]at key
 generalize ns.getD 0 0=z0 at *
 refine⟨M1,?_⟩
 have a2:(c.al.length:Int)<=100000:=by omega
 have a3 : -100000<=(c.al.length:Int):=by omega
 have a4:(gQ 0 c.al.length).length<=50000:=by simp[gQ];omega
 have key:_=Out.ok (Em c):=key
 generalize Em c=G at key h2
 simp[Xq,abZ,h0,cell0,hcl2,h1,hc1,aP,yc,l1,a2,a3,a4,key,h2]
end Pr
open PySem PySem.W PySem.Calls PyProof.Rows
set_option maxHeartbeats 0 in
theorem PySem.Challenge.cw_earmarks_k52_whole_told_at_the_gathering_holds : PySem.Challenge.rw_earmarks_k52_whole_told_at_the_gathering.Holds := by
 w_on;o_law
 refine HandSHeadRun.head_any (r:=OpenLaw.row PySem.Challenge.rw_earmarks_k52_whole_told_at_the_gathering) (q:=view (OpenLaw.row PySem.Challenge.rw_earmarks_k52_whole_told_at_the_gathering).prog [85]) (H:=Pr.hkE) (ob:=Pr.obE) (M:=40000) (loose:=Pr.nm) (d:=HandSHeadRun.topDef (OpenLaw.row PySem.Challenge.rw_earmarks_k52_whole_told_at_the_gathering).prog 85) (kwd:=[]) Pr.aks (by kernel_rfl) (fun s=>by kernel_rfl) Pr.run (by kernel_rfl) (by kernel_rfl) (by kernel_rfl) (by rfl) (by first | assumption | decide +kernel) (by decide +kernel) ⟨rfl,rfl,rfl,rfl,rfl,by decide +kernel⟩ ?hw ?hc
 case hw=>w_witness2
 case hc=>
  refine L2.walk_ofE (l:=PySem.Challenge.rw_earmarks_k52_whole_told_at_the_gathering) (n:=63) (k:=13) (x:="_law_script") (CX:=L2.CX0) rfl (by decide) (by kernel_rfl) ⟨rfl,by decide,by decide⟩ ?F (fun _ _ _ _ z=>z)
  intro w mg fa h Y G hmg0
  obtain⟨K,KX,c⟩:=Y
  have hmg:mg ("law" : PySem.Str)=some (.ref fa):=by
   have e:(HandSHeadRun.topDef (OpenLaw.row PySem.Challenge.rw_earmarks_k52_whole_told_at_the_gathering).prog 85).name=("law" : PySem.Str):=by kernel_rfl
   rw[←e]
   exact hmg0
  have T:Pr.Top w K mg:=⟨⟨h,KX,G⟩,c⟩
  have e:=hmg.symm.trans (T.glo 101)
  cases e
  obtain⟨fd,F⟩:=T.c.Wg 101
  have b:=L2.FunD.bindsA (ps:=["_law_script"]) F fun _ _ _ _ _ _ us hl=>match us,hl with|[_],_=>rfl
  exact⟨K,fd,fun vs H Q _=>Rf.JG K (Pr.aj w K) 1 Pr.Xq vs H Q fun _ _ _=>False,KX,fun s v=>b s [v] rfl,fun H a ns hl _ hS=>(Pr.afz ns hl).elim fun _ z=>Rf.alP rfl hS z,fun base _ _=>Rf.abN (Pr.alw T F)⟩

import PyProof.Rows.All
import Wide.All
import OpenK.AllK
import Wide.FinOn
import HandS.ForMost
import HandS.Evl
import HandS.Walk
import HandS.Zip
import HandS.IsInst
import HandS.Style
import HandS.FStr
import HandS.Strs
import HandS.TupAny
import HandS.Deep
import HandS.Exc
import HandS.TryOnly
import HandS.ExcOwn
import HandS.WordsExc
import KE.GoesMore
import KE.GoesEnum
import KE.DataMinMax
import KE.SortData
import HandS.SortKw
import HandS.TupSets
import HandS.SetBool
import KE.KeyNested
import PyProof.Transfer
import HandS.DictComp
import HandS.Conv
import KE.KDictKeyed
import HandS.ExcField
import HandS.ExcInit
import HandS.TryMany
import HandS.HeadHook4
import HandS.HeadHook3
import HandS.HeadHook2
import HandS.HeadHook1
import HandS.HeadEnd
import HandS.Head2
import HandS.Head1
import HandS.Head0
import KE.KStateDown
import HandS.Flow
import KE.KUnpackStar
import KE.GoesEnumKw
import KE.KTupSum
import PySem.Challenge.RW_earmarks_k53_whole_any_ear_one_owner
set_option Elab.async false
set_option linter.all false
set_option maxRecDepth 100000
set_option maxHeartbeats 2000000
abbrev aqU:=@Option.bind_eq_some_iff
abbrev aqV:=@PySem.W.Frag
abbrev aqW:=@Bool.and_eq_true
abbrev aqX:=@List.getElem?_eq_some_iff
abbrev aqY:=@List.getElem?_eq_getElem
abbrev aqZ:=@List.map_cons
abbrev aq0:=@List.mem_cons_of_mem
abbrev aq1:=@List.mem_cons_self
abbrev aq2:=@List.mem_singleton
abbrev aq3:=@List.mem_of_getElem?
abbrev aq4:=@List.getElem?_set_ne
abbrev aq5:=@List.mem_append
abbrev aq6:=@List.getElem?_append_left
abbrev aq7:=@List.length_map
abbrev aq8:=@List.mem_map
abbrev aq9:=@List.getElem?_map
abbrev ara:=@List.mem_cons
abbrev arb:=@List.length_cons
abbrev ard:=@Bool.not_eq_true'
abbrev arf:=@List.getElem?_set_self
abbrev arh:=@List.mem_filter
abbrev ari:=@Option.some.inj
abbrev arj:=@List.getElem?_append_right
abbrev ark:=@List.length_filter_le
abbrev arl:=@List.all_eq_true
abbrev arn:=@Function.comp_def
abbrev aro:=@Nat.le_refl
abbrev arp:=@Bool.false_eq_true
abbrev arq:=@List.length_set
abbrev ars:=@Nat.le_trans
abbrev aru:=@List.lookup_cons
abbrev arv:=@List.zip_cons_cons
abbrev arw:=@List.map_map
abbrev arx:=@List.filter_cons
abbrev arz:=@List.ext_getElem?
abbrev arA:=@List.getElem?_eq_none
abbrev arB:=@List.not_mem_nil
abbrev arC:=@List.map_append
abbrev arD:=@Array.length_toList
abbrev arE:=@Nat.ne_of_lt
abbrev arF:=@Option.map_eq_some_iff
abbrev arG:=@List.mem_append_left
abbrev arH:=@List.mem_append_right
abbrev arI:=@List.getElem?_zip_eq_some
abbrev arJ:=@List.all_cons
abbrev arK:=@Nat.zero_le
abbrev arL:=@List.getElem_mem
abbrev arM:=@List.append_nil
abbrev arN:=@List.drop_eq_getElem_cons
abbrev arO:=@Array.getElem?_toList
abbrev arP:=@List.length_append
abbrev arQ:=@List.getElem?_mapIdx
abbrev arR:=@List.nodup_append
abbrev arS:=@List.getElem?_set
abbrev arT:=@List.drop_length
abbrev arU:=@List.mem_of_mem_take
abbrev arV:=@Nat.lt_succ_of_lt
abbrev arW:=@List.pairwise_mergeSort
abbrev arX:=@List.any_cons
abbrev arY:=@List.map_nil
abbrev arZ:=@List.mergeSort_perm
abbrev ar0:=@Bool.eq_iff_iff
abbrev ar3:=@Bool.or_eq_true
abbrev ar4:=@List.foldl_cons
abbrev ar5:=@List.filter_filter
abbrev ar6:=@List.Pairwise.imp
abbrev ar7:=@List.drop_zero
abbrev ar8:=@List.any_map
abbrev ar9:=@List.length_drop
abbrev ase:=@PySem.W.AllAlike.of
abbrev asf:=@Nat.add_sub_cancel'
abbrev ash:=@Nat.add_left_cancel
abbrev asi:=@List.nodup_cons
abbrev asj:=@Nat.succ.inj
namespace Rf
open PySem PySem.Spec PyProof.Rows L2 HandSHeadRun
abbrev Dat:=PyData
abbrev Ft:=List (Str×List Str)
structure Np(fa:List He.Fa)(fn:List He.DefD)(tb:List He.Tab)(ex:aqV->Bool)(w:World)(K:aqV):Prop where
 t:He.SaysT fa fn tb w K
 more:ex K=true
def acA(as:List Addr)(fa:List He.Fa)(fn:List He.DefD)(tb:List He.Tab)(ex:aqV->Bool)(g:Addr->Option Obj):He.AlX:=(He.obsT fa fn tb (He.frG g as),ex (He.frG g as))
def abI(as:List Addr)(fa:List He.Fa)(fn:List He.DefD)(tb:List He.Tab)(ex:aqV->Bool):PySem.W.Hook where
 α:=He.AlX
 obs:=fun s=>acA as fa fn tb ex s.heap.get?
 val:=fun w=>He.valX fn tb w
 says:=fun w h=>∃K:aqV,K.In h/\Np fa fn tb ex w K
 of:=fun w s e=>⟨_,He.frG_in,⟨congrArg (fun z:He.AlX=>z.1) e,congrArg (fun z:He.AlX=>z.2) e⟩⟩
 keeps:=fun _ _ _ ⟨K,hK,c⟩ k=>⟨K,PySem.W.Frag.In.keeps hK k,c⟩
theorem aik{as:List Addr}{fa:List He.Fa}{fn:List He.DefD}{tb:List He.Tab}{ex:aqV->Bool}{g:Addr->Option Obj}{s:Shared}(h:∀a,g a=s.heap.get? a):acA as fa fn tb ex g=(abI as fa fn tb ex).obs s:=by
 rw[show g=s.heap.get? from funext h]
 rfl
def Lz(K:aqV)(ft:Ft):Bool:=ft.all fun p=>(He.Fa.cls p.1).ok K&&p.2.all fun f=>(He.Fa.noat p.1 f).ok K
def xmB(K:aqV)(xm:List (Str×List (Str×Bool))):Bool:=xm.all fun p=>p.2.all fun q=>(He.Fa.exm q.1 p.1 q.2).ok K
def akA(K:aqV)(C:Addr):Bool:=(match K.lookup C with
 |some ⟨.type t,_,.cls cd,sl⟩=>decide (t="type")&&(match cd.mro,sl.toList with
  |.ref C'::bm,[_,_,_,_,some (.builtin n),_]=>decide (C'=C)&&(decide (n="ValueError.__new__")&&(!cd.hasDel&&(cd.hasDict&&PySem.HandSPX.refsVE bm)))
  |_,_=>false)
 |_=>false)&&(He.eqO (PySem.W.findIn K (.ref C) "__setattr__") (some (some (.builtin "object.__setattr__")))&&(decide (PySem.W.subIn K (.ref C) (.type "BaseException")=some true)&&(decide (PySem.W.typeIn K (.ref C)=some (.type "type"))&&PySem.W.keepIn K (.ref C))))
def Uk(K:aqV)(x:Str)(fs:List Str):Bool:=akA K (He.ga K x)&&(He.eqO (PySem.W.findIn K (.ref (He.ga K x)) "__init__") (some (some (.ref (He.ma K (He.ga K x) "__init__"))))&&(decide (PySem.W.typeIn K (.ref (He.ma K (He.ga K x) "__init__"))=some (.type "function"))&&(xfB K (He.ga K x)&&fs.all fun f=>He.eqO (PySem.W.findIn K (.ref (He.ga K x)) f) (some none))))
def Xu(K:aqV)(a:Addr)(xs:List Str):Bool:=match K.lookup a with
 |some ⟨.type c,_,.seq its _,_⟩=>decide (c="tuple")&&(decide (its.size<=sizeLine)&&He.relAll (xs.map V.str) its.toList)
 |_=>false
def afm(K:aqV)(x:Str)(kvs:List (Str×List Str)):Bool:=(match K.lookup (He.ga K x) with
 |some ⟨_,_,.dict es _,_⟩=>es.toList.all (fun e=>(match e.key with
   |.str y _=>(kvs.map (·.1)).contains y
   |_=>false)&&!e.refKey)
 |_=>false)&&(decide ((kvs.map (·.1)).Nodup)&&kvs.all fun q=>match PySem.W.nsIn K (He.ga K x) q.1 with
  |some (some (.ref a))=>Xu K a q.2
  |_=>false)
section
open PySem.W PySem.Calls
noncomputable abbrev aj4 (r:PySem.W.OpenRow) (M:Nat) (w:World) (os:PySem.OsState):Option PySem.W.SharedT:=endF (stepQ (denQ tabQ) r.prog w) M r.prog w os
def af6(r:PySem.W.OpenRow)(q:Program)(as:List Addr)(ex:aqV->Bool)(M:Nat)(loose:List Str)(w:World):Prop:=∀os,(aj4 r M w os).map (fun s=>(looksF r.prog (boot_heap w.params) s.abs,HandSHeadRun.seenQ q loose (importedModules r.prog.main.body) (fun s=>PySem.W.xlAt q [] s&&PySem.W.recOk r.toRowW.records s) s.abs,ex (He.frG (getT s) as)))=some (true,PySem.W.openGood q loose,true)
def afH(r:PySem.W.OpenRow)(as:List Addr)(fa:List He.Fa)(fn:List He.DefD)(tb:List He.Tab)(M:Nat)(w:World):Prop:=∀os,(aj4 r M w os).map (fun s=>He.obsT fa fn tb (He.frG (getT s) as))=some (He.valT fn tb w)
theorem VL{r:PySem.W.OpenRow}{q:Program}{as:List Addr}{fa:List He.Fa}{fn:List He.DefD}{tb:List He.Tab}{ex:aqV->Bool}{M:Nat}{loose:List Str}{w:World}
  (a:af6 r q as ex M loose w) (c:afH r as fa fn tb M w):RunEq r q (abI as fa fn tb ex) (fun s=>acA as fa fn tb ex (getT s)) M loose w:=fun os=>by
 obtain⟨s,hs,h1⟩:=arF.mp (a os)
 obtain⟨h1,h2⟩:=Prod.mk.inj h1
 obtain⟨h2,h4⟩:=Prod.mk.inj h2
 have h3:=c os
 have hs':endF (stepQ (denQ tabQ) r.prog w) M r.prog w os=some s:=hs
 rw[hs,Option.map_some]at h3
 have h3:=ari h3
 rw[hs',Option.map_some]
 exact congrArg some (Prod.ext h1 (Prod.ext h2 (Prod.ext h3 h4)))
end
end Rf
namespace Pr
open PySem PySem.Spec PyProof.Rows L2 Evl Rf
def cV:Dat:=.int 9
def jh:Dat:=.int 1
def lA:Dat:=.int 3
def iw:Dat:=.int 9
def jd:Dat:=.tuple [.str "lt",.str "lf",.str "lh",.str "rt",.str "rf",.str "rh"]
def jF:Dat:=.tuple [.int 0,.int 0,.int 0,.int 0,.int 0,.int 0]
def oW:Dat:=.int 999999999
def zP:List (Str×List Str):=[("owner",[]),("ground",["number"]),("enrol",["number","number","ear"]),("leave",["number","number"]),("bring",["number","number","ear"]),("bear",["number"]),("cut",["number"]),("tear",["number","place"]),("sell",["number","number"]),("move",["number","number"]),("die",["number"]),("unite",["number","number"]),("part",["number"]),("pass",["number","number"]),("heir",["number","number","number"])]
def kE:Ft:=[("Beast",["story","mother","owner","ground","due","ear","alive"]),("Herd",["beasts"]),("Grounds",["allowances","circles"]),("Rights",["held"]),("Commons",["owner_count","holders","grounds","rights","herd"])]
def uM:List (Str×Bool):=[("NoGround",true),("NoOwner",true),("NoRight",true),("HasRight",true),("NoneFree",true),("BadExtra",true),("BadAllowance",true),("Clash",true),("BadEar",true),("Bare",true),("StillThere",true),("NoBeast",true),("Dead",true),("Unmarked",true),("Deepest",true),("NoPlace",true),("SameOwner",true),("SameGround",true),("Together",true),("Alone",true),("BadDeed",true)]
def xmH:List (Str×List (Str×Bool)):=[("CommonError",uM)]
def dfH:List (Str×Bool):=[("held",true),("holders",false)]
def Wg:List (Str×List Str):=[("Clash",["ones","others","ear"])]
def aY(i:Nat):Stmt:=PySem.Challenge.pw_earmarks_k53_whole_any_ear_one_owner.main.body.getD i (.Pass ⟨0,0,0,0⟩)
abbrev Hj:Stmt:=inClass (aY 50) 0
abbrev JK:Stmt:=inClass (aY 55) 0
abbrev Oj:Stmt:=inClass (aY 35) 0
abbrev Gq:Stmt:=inClass (aY 66) 0
abbrev JH:Stmt:=inClass (aY 34) 2
abbrev Lw:Stmt:=inClass (aY 34) 4
abbrev CV:Stmt:=inClass (aY 66) 17
abbrev BW:Stmt:=inClass (aY 55) 1
abbrev FT:Stmt:=inClass (aY 50) 3
abbrev JX:Stmt:=inClass (aY 50) 2
abbrev Gk:Stmt:=inClass (aY 50) 4
abbrev yP:Stmt:=inClass (aY 50) 5
abbrev Bc:Stmt:=inClass (aY 50) 6
abbrev Av:Stmt:=inClass (aY 66) 19
abbrev Fy:Stmt:=inClass (aY 66) 32
abbrev s_row:Stmt:=aY 69
abbrev ZK:Stmt:=aY 70
abbrev agc:Stmt:=aY 71
abbrev Oe:Stmt:=aY 72
abbrev WD:Stmt:=aY 73
abbrev yF:Stmt:=inClass (aY 66) 33
abbrev Ge:Stmt:=inClass (aY 55) 3
abbrev Aq:Stmt:=inClass (aY 55) 4
abbrev xM:Stmt:=inClass (aY 66) 34
abbrev yM:Stmt:=inClass (aY 66) 1
abbrev Bh:Stmt:=inClass (aY 55) 2
abbrev ac7:Stmt:=aY 47
abbrev aaQ:Stmt:=aY 44
abbrev Oa:Stmt:=aY 52
abbrev aaO:Stmt:=aY 45
abbrev ac1:Stmt:=aY 46
abbrev Ks:Stmt:=aY 53
abbrev xP:Stmt:=inClass (aY 66) 35
abbrev XH:Stmt:=aY 57
abbrev BZ:Stmt:=inClass (aY 35) 5
abbrev Hf:Stmt:=inClass (aY 35) 6
abbrev yQ:Stmt:=inClass (aY 55) 7
abbrev vq:Stmt:=inClass (aY 66) 22
abbrev Ah:Stmt:=inClass (aY 66) 21
abbrev HF:Stmt:=inClass (aY 50) 7
abbrev Hq:Stmt:=inClass (aY 66) 18
abbrev Ag:Stmt:=inClass (aY 66) 15
abbrev xV:Stmt:=inClass (aY 50) 1
abbrev xX:Stmt:=inClass (aY 66) 2
abbrev VP:Stmt:=aY 58
abbrev abb:Stmt:=aY 43
abbrev RD:Stmt:=aY 59
abbrev yt:Stmt:=inClass (aY 66) 36
abbrev Yd:Stmt:=aY 28
abbrev Q5:Stmt:=aY 65
abbrev Ez:Stmt:=inClass (aY 66) 3
abbrev JG:Stmt:=inClass (aY 55) 5
abbrev DY:Stmt:=inClass (aY 66) 4
abbrev Ds:Stmt:=inClass (aY 34) 1
abbrev abd:Stmt:=aY 30
abbrev Lj:Stmt:=inClass (aY 34) 0
abbrev CQ:Stmt:=inClass (aY 35) 1
abbrev El:Stmt:=inClass (aY 66) 5
abbrev KY:Stmt:=inClass (aY 35) 2
abbrev JR:Stmt:=inClass (aY 35) 3
abbrev JM:Stmt:=inClass (aY 35) 4
abbrev Hv:Stmt:=inClass (aY 66) 6
abbrev RX:Stmt:=aY 32
abbrev Wy:Stmt:=aY 31
abbrev Hh:Stmt:=inClass (aY 34) 3
abbrev JF:Stmt:=inClass (aY 66) 7
abbrev FP:Stmt:=inClass (aY 66) 8
abbrev JZ:Stmt:=inClass (aY 35) 8
abbrev Af:Stmt:=inClass (aY 35) 9
abbrev FJ:Stmt:=inClass (aY 66) 9
abbrev Gj:Stmt:=inClass (aY 66) 10
abbrev JQ:Stmt:=inClass (aY 66) 11
abbrev RG:Stmt:=aY 60
abbrev Aj:Stmt:=inClass (aY 66) 24
abbrev BK:Stmt:=inClass (aY 50) 10
abbrev DR:Stmt:=inClass (aY 50) 8
abbrev DQ:Stmt:=inClass (aY 66) 12
abbrev Hz:Stmt:=inClass (aY 50) 9
abbrev GD:Stmt:=inClass (aY 66) 13
abbrev Ar:Stmt:=inClass (aY 55) 6
abbrev Kl:Stmt:=inClass (aY 35) 7
abbrev BR:Stmt:=inClass (aY 66) 14
abbrev Og:Stmt:=aY 40
abbrev aeg:Stmt:=aY 39
abbrev LQ:Stmt:=inClass (aY 66) 16
abbrev aeO:Stmt:=aY 74
abbrev adi:Stmt:=aY 75
abbrev WK:Stmt:=aY 76
abbrev agd:Stmt:=aY 77
abbrev adu:Stmt:=aY 78
abbrev adJ:Stmt:=aY 79
abbrev Wn:Stmt:=aY 82
abbrev aa2:Stmt:=aY 84
abbrev QD:Stmt:=aY 85
abbrev Z4:Stmt:=aY 42
abbrev Oi:Stmt:=aY 61
abbrev DN:Stmt:=inClass (aY 66) 25
abbrev adk:Stmt:=aY 68
abbrev agh:Stmt:=aY 86
abbrev Wf:Stmt:=aY 83
abbrev agi:Stmt:=aY 81
abbrev N8:Stmt:=aY 80
abbrev Nu:Stmt:=aY 87
abbrev K6:Stmt:=inClass (aY 23) 0
abbrev dM(c m q:Str)(s:Stmt):He.DefD:=⟨(c,some m),m,q,defArgs s,defBody s,defScope s,[],[]⟩
abbrev dF(x:Str)(s:Stmt):He.DefD:=⟨(x,none),x,x,defArgs s,defBody s,defScope s,[],[]⟩
def xsH:List Str:=["Grounds","Rights","Herd","Commons","Beast","NoGround","NoOwner","NoRight","HasRight","NoneFree","BadExtra","BadAllowance","Clash","BadEar","Bare","StillThere","NoBeast","Dead","Unmarked","Deepest","NoPlace","SameOwner","SameGround","Together","Alone","BadDeed","CommonError"]
def tbs:List He.Tab:=[(fun K=>He.ga K "SHAPES",["owner","ground","enrol","leave","bring","bear","cut","tear","sell","move","die","unite","part","pass","heir"])]
def nm0:List PySem.Str:=["_wall","CommonError","BadEar","Bare","BadAllowance","BadExtra","NoPlace","Deepest","NoOwner","NoGround","NoBeast","NoRight"]
def nm1:List PySem.Str:=["HasRight","StillThere","Dead","Unmarked","SameOwner","SameGround","Together","Alone","NoneFree","BadDeed","Clash","PLACES"]
def nm2:List PySem.Str:=["GREATEST_DEPTH","BARE_EAR","is_ear","begun","gone_on","deepened","Beast","Herd","SHAPES","GREATEST_PART","fits","part_fits"]
def nm3:List PySem.Str:=["deeper","joint","lacks","apart","meet","torn","GREATEST_ALLOWANCE","Grounds","offspring","first_free","Rights","tidied"]
def nm4:List PySem.Str:=["barring","ask_room","clashing","owners_of","FEWEST_EXTRA","MOST_EXTRA","need_ear","Commons","_law_cell","_law_row","_law_ear_by","_law_ear"]
def nm5:List PySem.Str:=["_law_begun","_law_word_by","_law_done","_law_near","_law_mark_by","_law_ref","_law_deed","_law_play","_law_other_ear","_law_top","_law_torn_by","_law_room_of"]
def nm6:List PySem.Str:=["_law_whole","_law_like","_law_few"]
def nm:List PySem.Str:=nm0++nm1++nm2++nm3++nm4++nm5++nm6
def fa0:List He.Fa:=[.mkr "Grounds",.mkr "Rights",.mkr "Herd",.mkr "Commons",.meth "Beast" "stand",.meth "Beast" "told",.meth "Commons" "owners",.meth "Rights" "all_rows",.meth "Grounds" "many",.meth "Grounds" "has",.meth "Grounds" "need",.meth "Grounds" "allowance"]
def fa1:List He.Fa:=[.meth "Grounds" "together",.meth "Commons" "together",.meth "Commons" "look",.glo "_law_row",.glo "_law_ear_by",.glo "_law_ear",.glo "_law_begun",.glo "_law_word_by",.meth "Commons" "need_owner",.meth "Rights" "marks",.meth "Rights" "has_right",.meth "Commons" "need_right"]
def fa2:List He.Fa:=[.meth "Commons" "new_owner",.meth "Rights" "add_right",.glo "torn",.glo "lacks",.glo "offspring",.glo "apart",.glo "meet",.glo "first_free",.meth "Commons" "first_mark",.glo "tidied",.meth "Herd" "all_living",.meth "Herd" "grazing"]
def fa3:List He.Fa:=[.meth "Rights" "in_grounds",.meth "Commons" "standing_but",.meth "Commons" "standing",.meth "Grounds" "room",.meth "Commons" "room",.meth "Commons" "new_heir",.meth "Grounds" "add_ground",.meth "Commons" "new_ground",.glo "barring",.glo "joint",.glo "ask_room",.meth "Commons" "ask_ground"]
def fa4:List He.Fa:=[.glo "is_ear",.glo "need_ear",.meth "Commons" "enrol",.meth "Rights" "drop",.meth "Commons" "leave",.meth "Beast" "stand_so",.glo "begun",.mkr "Beast",.meth "Herd" "add_beast",.meth "Commons" "bring",.meth "Herd" "known",.meth "Herd" "living"]
def fa5:List He.Fa:=[.meth "Herd" "marked",.meth "Commons" "bear",.glo "deepened",.glo "gone_on",.meth "Beast" "befall",.meth "Commons" "cut",.meth "Commons" "tear",.meth "Herd" "calves",.meth "Herd" "lead_calves",.meth "Commons" "sell",.meth "Commons" "move",.meth "Commons" "die"]
def fa6:List He.Fa:=[.glo "clashing",.meth "Commons" "quarrels",.meth "Grounds" "enclose",.meth "Grounds" "unite",.meth "Commons" "unite",.meth "Grounds" "part",.meth "Commons" "part",.meth "Rights" "hand_over",.meth "Herd" "owned",.meth "Commons" "pass_on",.glo "part_fits",.glo "fits"]
def fa7:List He.Fa:=[.meth "Commons" "do",.glo "_law_done",.glo "_law_near",.glo "_law_mark_by",.glo "_law_ref",.glo "_law_deed",.glo "_law_play",.glo "_law_torn_by",.glo "_law_whole",.glo "_law_like",.glo "deeper",.glo "owners_of"]
def fa8:List He.Fa:=[.meth "Commons" "whose",.glo "_law_cell",.glo "_law_few",.glo "_law_room_of",.glo "_law_top",.glo "_law_other_ear",.glo "law",.glo "Grounds",.glo "Rights",.glo "Herd",.glo "Commons",.glo "Beast"]
def fa9:List He.Fa:=[.glo "NoGround",.exc "NoGround",.glo "NoOwner",.exc "NoOwner",.glo "NoRight",.exc "NoRight",.glo "HasRight",.exc "HasRight",.glo "NoneFree",.exc "NoneFree",.glo "BadExtra",.exc "BadExtra"]
def am0:List He.Fa:=[.glo "BadAllowance",.exc "BadAllowance",.glo "Clash",.glo "BadEar",.exc "BadEar",.glo "Bare",.exc "Bare",.glo "StillThere",.exc "StillThere",.glo "NoBeast",.exc "NoBeast",.glo "Dead"]
def am7:List He.Fa:=[.exc "Dead",.glo "Unmarked",.exc "Unmarked",.glo "Deepest",.exc "Deepest",.glo "NoPlace",.exc "NoPlace",.glo "SameOwner",.exc "SameOwner",.glo "SameGround",.exc "SameGround",.glo "Together"]
def anm:List He.Fa:=[.exc "Together",.glo "Alone",.exc "Alone",.glo "BadDeed",.exc "BadDeed",.glo "CommonError",.exc "CommonError",.glo "SHAPES",.int "GREATEST_DEPTH" 9,.int "FEWEST_EXTRA" 1,.int "MOST_EXTRA" 3,.int "GREATEST_ALLOWANCE" 9]
def amR:List He.Fa:=[.glo "PLACES",.glo "BARE_EAR",.int "GREATEST_PART" 999999999,.free "tuple",.free "list",.free "len",.free "range",.free "abs",.free "max",.free "min",.free "sum",.free "zip"]
def anp:List He.Fa:=[.free "any",.free "sorted",.free "set",.free "enumerate",.free "all",.free "isinstance",.free "int",.free "bool",.free "str"]
def fa:List He.Fa:=fa0++fa1++fa2++fa3++fa4++fa5++fa6++fa7++fa8++fa9++am0++am7++anm++amR++anp
def fn0:List He.DefD:=[dM "Grounds" "__init__" "Grounds.__init__" Hj,dM "Rights" "__init__" "Rights.__init__" JK,dM "Herd" "__init__" "Herd.__init__" Oj,dM "Commons" "__init__" "Commons.__init__" Gq,dM "Beast" "stand" "Beast.stand" JH,dM "Beast" "told" "Beast.told" Lw,dM "Commons" "owners" "Commons.owners" CV,dM "Rights" "all_rows" "Rights.all_rows" BW,dM "Grounds" "many" "Grounds.many" FT,dM "Grounds" "has" "Grounds.has" JX,dM "Grounds" "need" "Grounds.need" Gk,dM "Grounds" "allowance" "Grounds.allowance" yP]
def fn1:List He.DefD:=[dM "Grounds" "together" "Grounds.together" Bc,dM "Commons" "together" "Commons.together" Av,dM "Commons" "look" "Commons.look" Fy,dF "_law_row" s_row,dF "_law_ear_by" ZK,dF "_law_ear" agc,dF "_law_begun" Oe,dF "_law_word_by" WD,dM "Commons" "need_owner" "Commons.need_owner" yF,dM "Rights" "marks" "Rights.marks" Ge,dM "Rights" "has_right" "Rights.has_right" Aq,dM "Commons" "need_right" "Commons.need_right" xM]
def fn2:List He.DefD:=[dM "Commons" "new_owner" "Commons.new_owner" yM,dM "Rights" "add_right" "Rights.add_right" Bh,dF "torn" ac7,dF "lacks" aaQ,dF "offspring" Oa,dF "apart" aaO,dF "meet" ac1,dF "first_free" Ks,dM "Commons" "first_mark" "Commons.first_mark" xP,dF "tidied" XH,dM "Herd" "all_living" "Herd.all_living" BZ,dM "Herd" "grazing" "Herd.grazing" Hf]
def fn3:List He.DefD:=[dM "Rights" "in_grounds" "Rights.in_grounds" yQ,dM "Commons" "standing_but" "Commons.standing_but" vq,dM "Commons" "standing" "Commons.standing" Ah,dM "Grounds" "room" "Grounds.room" HF,dM "Commons" "room" "Commons.room" Hq,dM "Commons" "new_heir" "Commons.new_heir" Ag,dM "Grounds" "add_ground" "Grounds.add_ground" xV,dM "Commons" "new_ground" "Commons.new_ground" xX,dF "barring" VP,dF "joint" abb,dF "ask_room" RD,dM "Commons" "ask_ground" "Commons.ask_ground" yt]
def fn4:List He.DefD:=[dF "is_ear" Yd,dF "need_ear" Q5,dM "Commons" "enrol" "Commons.enrol" Ez,dM "Rights" "drop" "Rights.drop" JG,dM "Commons" "leave" "Commons.leave" DY,dM "Beast" "stand_so" "Beast.stand_so" Ds,dF "begun" abd,dM "Beast" "__init__" "Beast.__init__" Lj,dM "Herd" "add_beast" "Herd.add_beast" CQ,dM "Commons" "bring" "Commons.bring" El,dM "Herd" "known" "Herd.known" KY,dM "Herd" "living" "Herd.living" JR]
def fn5:List He.DefD:=[dM "Herd" "marked" "Herd.marked" JM,dM "Commons" "bear" "Commons.bear" Hv,dF "deepened" RX,dF "gone_on" Wy,dM "Beast" "befall" "Beast.befall" Hh,dM "Commons" "cut" "Commons.cut" JF,dM "Commons" "tear" "Commons.tear" FP,dM "Herd" "calves" "Herd.calves" JZ,dM "Herd" "lead_calves" "Herd.lead_calves" Af,dM "Commons" "sell" "Commons.sell" FJ,dM "Commons" "move" "Commons.move" Gj,dM "Commons" "die" "Commons.die" JQ]
def fn6:List He.DefD:=[dF "clashing" RG,dM "Commons" "quarrels" "Commons.quarrels" Aj,dM "Grounds" "enclose" "Grounds.enclose" BK,dM "Grounds" "unite" "Grounds.unite" DR,dM "Commons" "unite" "Commons.unite" DQ,dM "Grounds" "part" "Grounds.part" Hz,dM "Commons" "part" "Commons.part" GD,dM "Rights" "hand_over" "Rights.hand_over" Ar,dM "Herd" "owned" "Herd.owned" Kl,dM "Commons" "pass_on" "Commons.pass_on" BR,dF "part_fits" Og,dF "fits" aeg]
def fn7:List He.DefD:=[dM "Commons" "do" "Commons.do" LQ,dF "_law_done" aeO,dF "_law_near" adi,dF "_law_mark_by" WK,dF "_law_ref" agd,dF "_law_deed" adu,dF "_law_play" adJ,dF "_law_torn_by" Wn,dF "_law_whole" aa2,dF "_law_like" QD,dF "deeper" Z4,dF "owners_of" Oi]
def fn8:List He.DefD:=[dM "Commons" "whose" "Commons.whose" DN,dF "_law_cell" adk,dF "_law_few" agh,dF "_law_room_of" Wf,dF "_law_top" agi,dF "_law_other_ear" N8,dF "law" Nu,dM "Clash" "__init__" "Clash.__init__" K6]
def fn:List He.DefD:=fn0++fn1++fn2++fn3++fn4++fn5++fn6++fn7++fn8
def exB(K:aqV):Bool:=true&&Lz K kE&&xmB K xmH&&(Wg.all fun p=>xsH.contains p.1&&Uk K p.1 p.2)&&afm K "SHAPES" zP&&He.tupB K "PLACES" [.str "lt",.str "lf",.str "lh",.str "rt",.str "rf",.str "rh"]&&He.tupB K "BARE_EAR" [.int 0,.int 0,.int 0,.int 0,.int 0,.int 0]
def ad0:List Addr:=[3,31,44,56,68,80,92,104,116,128,140,152,164,176,188,200,212,224,236,248,260,272,291,294]
def ad1:List Addr:=[295,300,307,314,319,364,447,452,472,479,484,489,494,501,508,513,596,605,610,670,681,686,693,698]
def ad2:List Addr:=[703,710,969,980,987,992,999,1006,1013,1020,1027,1034,1041,1048,1055,1062,1067,1074,1079,1086,1093,1100,1105,30]
def ad3:List Addr:=[43,55,67,79,91,103,115,127,139,151,163,175,187,199,211,223,235,247,259,271,290,299,306,313]
def ad4:List Addr:=[318,363,446,453,454,455,456,457,458,459,460,461,462,463,464,465,466,467,471,478,483,488,493,500]
def ad5:List Addr:=[507,512,595,604,609,669,680,685,692,697,702,709,968,979,986,991,998,1005,1012,1019,1026,1033,1040,1047]
def ad6:List Addr:=[1054,1061,1066,1073,1078,1085,1092,1099,1104,29,32,42,54,66,78,90,102,114,126,138,150,162,174,186]
def ad7:List Addr:=[198,210,222,234,246,258,270,288,289,333,340,347,354,361,362,365,366,382,389,396,403,410,415,420]
def ad8:List Addr:=[425,430,437,444,445,448,449,527,534,541,548,555,562,569,574,581,586,593,594,597,598,624,631,638]
def ad9:List Addr:=[643,650,657,662,667,668,671,672,724,731,738,745,750,757,764,771,778,785,792,799,806,813,818,825]
def anr:List Addr:=[832,839,846,853,860,867,872,879,886,893,900,907,914,919,926,933,938,945,952,959,966,967,970,971]
def am3:List Addr:=[287,332,339,346,353,360,381,388,395,402,409,414,419,424,429,436,443,526,533,540,547,554,561,568]
def anj:List Addr:=[573,580,585,592,623,630,637,642,649,656,661,666,723,730,737,744,749,756,763,770,777,784,791,798]
def amW:List Addr:=[805,812,817,824,831,838,845,852,859,866,871,878,885,892,899,906,913,918,925,932,937,944,951,958]
def amN:List Addr:=[965]
def ad:List Addr:=ad0++ad1++ad2++ad3++ad4++ad5++ad6++ad7++ad8++ad9++anr++am3++anj++amW++amN
abbrev R:PySem.W.OpenRow:=PySem.W.OpenLaw.row PySem.Challenge.rw_earmarks_k53_whole_any_ear_one_owner
abbrev hkE:PySem.W.Hook:=abI ad fa fn tbs exB
def obE(s:PySem.W.SharedT):He.AlX:=acA ad fa fn tbs exB (HandSHeadRun.getT s)
theorem akf(s:PySem.W.SharedT):obE s=hkE.obs s.abs:=aik (HandSHeadRun.getT_eq s)
abbrev wR(w:World)(b:Bool):World:=w.withFollow "special-get-raises" b
theorem alw(w:World):af6 R (PySem.W.view R.prog [87]) ad exB 40000 nm (wR w false):=by
 intro os
 kernel_rfl
theorem alG(w:World):afH R ad fa fn tbs 40000 (wR w false):=by
 intro os
 kernel_rfl
theorem runAt(w:World):af6 R (PySem.W.view R.prog [87]) ad exB 40000 nm (wR w true):=by
 intro os
 kernel_rfl
theorem alZ(w:World):afH R ad fa fn tbs 40000 (wR w true):=by
 intro os
 kernel_rfl
theorem run(w:World):HandSHeadRun.RunEq R (PySem.W.view R.prog [87]) hkE obE 40000 nm w:=PySem.W.byRow2 "special-get-raises" (P:=fun w=>HandSHeadRun.RunEq R (PySem.W.view R.prog [87]) hkE obE 40000 nm w) (fun w=>VL (alw w) (alG w)) (fun w=>VL (runAt w) (alZ w)) w
end Pr
namespace Ear
open PySem PySem.Spec PyProof.Rows L2 Evl RZ
section
variable{X:Cx}{C:Addr}{bmB:List Value}{B newId initId:String}
theorem af5{x:Str}{p pos:Pos}(F:ExcBaseFacts B newId initId bmB)(q:PySem.W.excIn X.K C bmB newId=true)(gC:X.mg x=some (.ref C))(kC:PySem.W.keepIn X.K (.ref C)=true)(r:Raises X (.ref C))(hg:Gl X x)
  (hn:(x==("__debug__" : Str))=false:=by decide):PMk X (.Call (.Name x p) [] [] pos) (fun _ H Q=>Q (.ref C) none H):=by
 intro pins s σ H Q I h
 refine wpAny_Call_Name_kw (ld_glob I hg gC ?_ hn)
 refine PySem.W.callWith_K0 I.kIn kC ?_
 show wpAny _ _ (call (.ref C) []) _ _ _
 obtain⟨bm,N,nm,qn,bs,hdct,sn,sub,ab,col,dd,k0,k1,k2,k3,k5,mN,hC,hN,hni,T⟩:=exc_obj I.kIn q
 refine wpAny_call_exc_subT F T hC hN hni (fun h' e hm=>?_) (arK _)
 exact mk_of I hm r h (I.hok.gone hm.new)
end
theorem exm_one{K:aqV}{S:Addr}(h1:PySem.W.subIn K (.ref S) (.type "BaseException")=some true)(h2:PySem.W.isClsIn K S=true)(h3:PySem.W.typeIn K (.ref S)=some (.type "type"))(h4:PySem.W.subIn K (.ref S) (.ref S)=some true) :
  PySem.W.exmOne K (.ref S) (.ref S)=some true:=by
 have e1:(PySem.W.subIn K (.ref S) (.type "BaseException")==some true)=true:=by rw[h1] <;> rfl
 have e2:((PySem.W.clsIn K S).isSome&&PySem.W.typeIn K (.ref S)==some (.type "type"))=true:=by
  rw[h3,aqW]
  exact⟨h2,rfl⟩
 show(if (PySem.W.subIn K (.ref S) (.type "BaseException")==some true)=true then(if ((PySem.W.clsIn K S).isSome&&PySem.W.typeIn K (.ref S)==some (.type "type"))=true then PySem.W.subIn K (.ref S) (.ref S) else none) else none)=some true
 rw[if_pos e1,if_pos e2]
 exact h4
def am6(xs:List Int):Prop:=xs.length=6/\∀x∈xs,0<=x/\x<=9
section
variable{K:aqV}{σ:L2.St}{H:Hp}{te tl:TE}{tt:TT}{vs:List Nat}
def EvS(te:TE)(σ:L2.St)(H:Hp)(P:V->Hp->Prop):Prop:=∀H1,Ex H H1->∀Q:VK,(∀v H2,Ex H1 H2->P v H2->Q v H2)->te σ H1 Q
end
section
variable{K:aqV}{σ:L2.St}{H H':Hp}{te ta tb:TE}{t:TT}{P R:V->Hp->Prop}{v:V}
theorem EvS.mono(e:Ex H H')(h:EvS te σ H P):EvS te σ H' P:=fun H1 a Q q=>h H1 (e.trans a) Q q
theorem EvS.imp(h:EvS te σ H P)(k:∀v H',P v H'->R v H'):EvS te σ H R:=fun H1 e Q q=>h H1 e Q fun v H2 e2 p=>q v H2 e2 (k v H2 p)
end
end Ear
namespace Ear
open PySem PySem.Spec PyProof.Rows L2 Evl RZ
def fB{α:Type}(R:V->α->Prop)(ws:List V)(L:List α):Prop:=ws.length=L.length/\∀(i:Nat) (v:V) (x:α),ws[i]?=some v->L[i]?=some x->R v x
theorem fB.imp{α:Type}{R S:V->α->Prop}{ws:List V}{L:List α}(h:fB R ws L)(k:∀v x,R v x->S v x):fB S ws L:=⟨h.1,fun i v x a b=>k v x (h.2 i v x a b)⟩
theorem fB.nil{α:Type}{R:V->α->Prop}:fB R [] []:=⟨rfl,fun i v x a _=>by simp at a⟩
theorem fB.snoc{α:Type}{R:V->α->Prop}{ws:List V}{L:List α}{v:V}{x:α}(h:fB R ws L)(k:R v x):fB R (ws++[v]) (L++[x]):=by
 refine⟨by rw[arP,arP,h.1];rfl,fun i u y a b=>?_⟩
 by_cases hi:i < ws.length
 ·rw[aq6 hi]at a
  rw[aq6 (by rw[←h.1];exact hi)]at b
  exact h.2 i u y a b
 ·rw[arj (by omega)]at a
  rw[arj (by rw[←h.1];omega),←h.1]at b
  have hj:i - ws.length=0:=by
   have:=(aqX.mp a).1
   simp only[arb,List.length_nil]at this
   omega
  rw[hj]at a b
  cases a
  cases b
  exact k
def Jf(H:Hp)(v:V)(l:List Int):Prop:=∃h:Addr,v=.ref h/\H h=some (.tup (l.map V.int))
theorem Jf.mono{H H':Hp}(e:Ex H H'){v:V}{l:List Int}(h:Jf H v l):Jf H' v l:=by
 obtain⟨a,e1,h1⟩:=h
 exact⟨a,e1,e _ _ h1⟩
theorem Jf.upd{H:Hp}{D:Addr}{acc:List V}{o:HO}(hD:H D=some (.lst acc)){v:V}{l:List Int}(h:Jf H v l):Jf (upd H D o) v l:=by
 obtain⟨a,e1,h1⟩:=h
 refine⟨a,e1,?_⟩
 rw[upd_ne (fun z=>by rw[z,hD]at h1;cases h1)]
 exact h1
abbrev Rw:Type:=Int×List Int
def M7(H:Hp)(v:V)(r:Rw):Prop:=∃t m:Addr,v=.ref t/\H t=some (.tup [.int r.1,.ref m])/\H m=some (.tup (r.2.map V.int))
theorem M7.mono{H H':Hp}(e:Ex H H'){v:V}{r:Rw}(h:M7 H v r):M7 H' v r:=by
 obtain⟨t,m,e1,h1,h2⟩:=h
 exact⟨t,m,e1,e _ _ h1,e _ _ h2⟩
theorem M7.upd{H:Hp}{D:Addr}{acc:List V}{o:HO}(hD:H D=some (.lst acc)){v:V}{r:Rw}(h:M7 H v r):M7 (upd H D o) v r:=by
 obtain⟨t,m,e1,h1,h2⟩:=h
 refine⟨t,m,e1,?_,?_⟩
 ·rw[upd_ne (fun z=>by rw[z,hD]at h1;cases h1)]
  exact h1
 ·rw[upd_ne (fun z=>by rw[z,hD]at h2;cases h2)]
  exact h2
def amo(r:Rw):Prop:=1<=r.1/\am6 r.2
structure Tab(R:List Rw):Prop where
 len:R.length<=128
 ok:∀r∈R,amo r
 few:∃D:List Rw,D.length<=64/\∀r∈R,r∈D
theorem Tab.sub{R S:List Rw}(h:Tab R)(hs:∀r∈S,r∈R)(hl:S.length<=128):Tab S:=by
 obtain⟨D,d1,d2⟩:=h.few
 exact⟨hl,fun r hr=>h.ok r (hs r hr),D,d1,fun r hr=>d2 r (hs r hr)⟩
theorem fB.get{α:Type}{R:V->α->Prop}{ws:List V}{L:List α}(h:fB R ws L){i:Nat}{v:V}(g:ws[i]?=some v):∃x,L[i]?=some x/\R v x:=by
 have hi:=(aqX.mp g).1
 have hi':i < L.length:=by
  rw[←h.1]
  exact hi
 exact⟨L[i],aqY hi',h.2 i v _ g (aqY hi')⟩
theorem fB.mem{α:Type}{R:V->α->Prop}{ws:List V}{L:List α}(h:fB R ws L){v:V}(m:v∈ws):∃x,x∈L/\R v x:=by
 obtain⟨i,hi,e⟩:=List.getElem_of_mem m
 obtain⟨x,g,r⟩:=h.get (aqX.mpr ⟨hi,e⟩)
 exact⟨x,aq3 g,r⟩
theorem fB.take{α:Type}{R:V->α->Prop}{ws:List V}{L:List α}(h:fB R ws L)(n:Nat):fB R (ws.take n) (L.take n):=by
 refine⟨by rw[List.length_take,List.length_take,h.1],fun i v x a b=>?_⟩
 rw[List.getElem?_take]at a b
 by_cases c:i < n
 ·rw[if_pos c]at a b
  exact h.2 i v x a b
 ·rw[if_neg c]at a
  cases a
theorem fB.drop{α:Type}{R:V->α->Prop}{ws:List V}{L:List α}(h:fB R ws L)(n:Nat):fB R (ws.drop n) (L.drop n):=by
 refine⟨by rw[ar9,ar9,h.1],fun i v x a b=>?_⟩
 rw[List.getElem?_drop]at a b
 exact h.2 _ v x a b
section
variable{X:Cx}
def ae3(xs:List V)(ds:List PyData)(x:V)(d:PyData):Prop:=∃i:Nat,xs[i]?=some x/\ds[i]?=some d
@[irreducible]def Jz (K:aqV):List V->Hp->VK->Prop:=fun vs H Q=>∃(a:Addr) (xs:List V) (ds:List PyData),vs=[V.ref a]/\SqL K H a xs/\DpAll K H xs ds/\PySem.W.AllAlike ds/\PySem.W.Sortable ds/\(∀d∈ds,d.depth<=60)/\
 ∀(ys:List V) (p:Addr),fB (ae3 xs ds) ys (ds.mergeSort (PySem.W.dataLe false id))->H p=none->Q (.ref p) (upd H p (.lst ys))
theorem Z9:∀(xs:List V) (ds:List PyData) (its:List Value) (P:Value->PyData->Prop),Vals xs its->PySem.W.EachIs P its ds->
  PySem.W.EachIs (fun v d=>∃(i:Nat) (x:V),RelV x v/\xs[i]?=some x/\ds[i]?=some d) its ds
 |[],_,_,_,.nil,.nil=>.nil
 |_::_,[],_,_,.cons _ _,k=>nomatch k
 |x::xs,d::ds,u::us,P,.cons r t,.cons _ k=>.cons ⟨0,x,r,rfl,rfl⟩ ((Z9 xs ds us P t k).mono fun v d ⟨i,y,a,b,c⟩=>⟨i+1,y,a,b,c⟩)
theorem Vz{xs:List V}{ds:List PyData}:∀(out:List Value) (L:List PyData),PySem.W.EachIs (fun v d=>∃(i:Nat) (x:V),RelV x v/\xs[i]?=some x/\ds[i]?=some d) out L->∃ys,Vals ys out/\fB (ae3 xs ds) ys L
 |[],[],.nil=>⟨[],.nil,fB.nil⟩
 |v::out,d::L,.cons ⟨i,x,r,a,b⟩ k=>by
  obtain⟨ys,h1,h2⟩:=Vz out L k
  refine⟨x::ys,.cons r h1,by rw[arb,arb,h2.1],fun j u y g1 g2=>?_⟩
  cases j with
  |zero=>
   cases g1
   cases g2
   exact⟨i,a,b⟩
  |succ j=>exact h2.2 j u y g1 g2
theorem abP(hu:X.A.units+65 < cLine):CallR X (.builtin "sorted") (Jz X.K):=by
 intro pins s σ H vs us Q I r h
 unfold Jz at h
 obtain⟨a,xs,ds,rfl,hs,hd,hal,hk,hz,q⟩:=h
 obtain⟨u,rfl,ru⟩:=vals1 r
 obtain rfl:u=Value.ref a:=ru
 obtain⟨its,rv,hl,hsz⟩:=I.list hs
 obtain⟨as,hr⟩:=Dp.readsAll I ds xs its hd rv
 have er:PySem.W.EachIs (fun v d=>∃as,Reads s.heap v (id d) as) its ds:=PySem.W.readsAll_each id (by rw[List.map_id];exact hr)
 have hn:=SeqAt.ReadsAll.length ds its as hr
 have hl2:=rv.length
 refine PySem.W.sorted_data (enc:=id) hl.isList (Z9 xs ds its _ rv er) er (by rw[List.map_id];exact hal) (by rw[List.map_id];exact hk) (by omega) (fun d m=>?_) fun out hlen hout=>?_
 ·have:=hz d m
  show X.A.units+2+d.depth < cLine
  omega
 ·obtain⟨ys,v1,v2⟩:=Vz out _ hout
  obtain⟨ep,he'⟩:=PyProof.Rows.sortedAll_at s.heap its out.toArray
  have hy:ys.length=ds.length:=by
   rw[v2.1,List.length_mergeSort]
  refine⟨.ref _,upd H (s.heap.objs.size+1) (.lst ys),I.laid (t':=s.toks) (fun _ _=>PyProof.Rows.sortedAll_old) (Nat.le_succ _) ⟨by omega,out,ep,v1,by simpa using he'⟩,rfl,q ys _ v2 (I.hok.fresh (Nat.le_succ _))⟩
end
@[irreducible]def Ss (K:aqV):R2:=fun x y H Q=>∃d e:PyData,Dp K H x d/\Dp K H y e/\PySem.W.alike d e=true/\d≠.none/\d.depth<=60/\Q (.bl (PySem.W.dataLt d e)) H
theorem afg{X:Cx}(hu:X.A.units+65 < cLine):OpR X (compareOp .Lt) (Ss X.K):=by
 intro pins s σ H x y v u Q I rx ry h
 unfold Ss at h
 obtain⟨d,e,hd,he,ha,hn,hz,q⟩:=h
 obtain⟨as,r1⟩:=Dp.reads I d x v hd rx
 obtain⟨bs,r2⟩:=Dp.reads I e y u he ry
 exact PySem.W.lt_data r1 r2 ha hn (by omega) ⟨.bl _,H,I,rfl,q⟩
def EvR(te:TE)(σ:L2.St)(H:Hp)(P:List V->Hp->Prop):Prop:=∀H1,Ex H H1->∀Q:VK,(∀p H2 us,Ex H1 H2->H2 p=some (.lst us)->P us H2->Q (.ref p) H2)->te σ H1 Q
def EvM(te:TE)(σ:L2.St)(H:Hp)(P:List V->Hp->Prop):Prop:=∀H1,Ex H H1->∀Q:VK,(∀p H2 us,H1 p=none->Ex H1 H2->H2 p=some (.lst us)->P us H2->Q (.ref p) H2)->te σ H1 Q
structure ajd{α:Type}(Rel:Hp->V->α->Prop):Prop where
 mono:∀{H H':Hp} {v:V} {x:α},Ex H H'->Rel H v x->Rel H' v x
 upd:∀{H:Hp} {D:Addr} {acc:List V} {o:HO} {v:V} {x:α},H D=some (.lst acc)->Rel H v x->Rel (upd H D o) v x
theorem fB.mono{α:Type}{Rel:Hp->V->α->Prop}(S:ajd Rel){H H':Hp}(e:Ex H H'){ws:List V}{L:List α}(h:fB (Rel H) ws L):fB (Rel H') ws L:=h.imp fun _ _ r=>S.mono e r
theorem fB.upd{α:Type}{Rel:Hp->V->α->Prop}(S:ajd Rel){H:Hp}{D:Addr}{acc:List V}{o:HO}(hD:H D=some (.lst acc)){ws:List V}{L:List α}(h:fB (Rel H) ws L):fB (Rel (upd H D o)) ws L:=h.imp fun _ _ r=>S.upd hD r
section
variable{K:aqV}{σ:L2.St}{H:Hp}{te tl:TE}{tt:TT}{vs:List Nat}{α:Type}
theorem EvM.r{P:List V->Hp->Prop}(h:EvM te σ H P):EvR te σ H P:=fun H1 e Q q=>h H1 e Q fun p H2 us _ a b c=>q p H2 us a b c
theorem EvM.imp{P R:List V->Hp->Prop}(h:EvM te σ H P)(k:∀us H',P us H'->R us H'):EvM te σ H R:=fun H1 e Q q=>h H1 e Q fun p H2 us n a b c=>q p H2 us n a b (k us H2 c)
end
theorem ZD:∀a b:List Int,PyData.eqvAll (a.map PyData.int) (b.map PyData.int)=decide (a=b)
 |[],[]=>by rw[arY,PyData.eqvAll];rfl
 |[],y::ys=>by rw[arY,aqZ,PyData.eqvAll];rfl
 |x::xs,[]=>by rw[arY,aqZ,PyData.eqvAll];rfl
 |x::xs,y::ys=>by
  rw[aqZ,aqZ,PyData.eqvAll,ZD xs ys,PyData.eqv,ar0]
  simp
def dT(l:List Int):PyData:=.tuple (l.map PyData.int)
theorem lay_ints:∀l:List Int,PyData.canLayAll0 (l.map PyData.int)=true/\PyData.depthAll (l.map PyData.int)=0
 |[]=>⟨by rw[arY,PyData.canLayAll0],by rw[arY,PyData.depthAll]⟩
 |x::xs=>by
  have ih:=lay_ints xs
  refine⟨?_,?_⟩
  ·rw[aqZ,PyData.canLayAll0,PyData.canLay0,ih.1]
   rfl
  ·rw[aqZ,PyData.depthAll,PyData.depth,ih.2]
   rfl
def rD(r:Rw):PyData:=.tuple [.int r.1,dT r.2]
theorem aeM(r:Rw):(rD r).canLay0=true/\(rD r).depth=2:=by
 have h:=lay_ints r.2
 unfold rD dT
 refine⟨?_,?_⟩
 ·rw[PyData.canLay0,PyData.canLayAll0,PyData.canLayAll0,PyData.canLayAll0,PyData.canLay0,PyData.canLay0,h.1]
  rfl
 ·rw[PyData.depth,PyData.depthAll,PyData.depthAll,PyData.depthAll,PyData.depth,PyData.depth,h.2]
  rfl
def rk(r:Rw):List Int:=r.1::r.2
theorem aeH:PySem.W.rowLt [] []=false:=PyProof.Rows.lex_irrefl _
theorem agP(l m:List Int):PySem.W.rowLt [dT l] [dT m]=decide (l < m):=by
 have al:PySem.W.alike (dT l) (dT m)=true:=by
  unfold dT
  rw[PySem.W.alike]
  exact PySem.W.alike_ints l m
 have ev:PyData.eqv (dT l) (dT m)=decide (l=m):=by
  unfold dT
  rw[PyData.eqv,ZD]
 have h:PySem.W.rowLt [dT l] [dT m]=if PyData.eqv (dT l) (dT m)=true then PySem.W.rowLt [] [] else PySem.W.dataLt (dT l) (dT m):=PySem.W.dataLt_cons al [] []
 rw[h,ev,aeH]
 by_cases c:l=m
 ·rw[if_pos (decide_eq_true c),c]
  exact(decide_eq_false (List.lt_irrefl _)).symm
 ·rw[if_neg (by rw[decide_eq_true_eq];exact c)]
  show PySem.W.dataLt (.tuple (l.map PyData.int)) (.tuple (m.map PyData.int))=_
  rw[PySem.W.dataLt_tuple]
  exact PySem.W.dataLt_ints l m
theorem aas(x y:Int)(ds es:List PyData)(l m:List Int)(h:PySem.W.rowLt ds es=decide (l < m)):PySem.W.rowLt (.int x::ds) (.int y::es)=decide (x::l < y::m):=by
 have al:PySem.W.alike (.int x) (.int y)=true:=by rw[PySem.W.alike]
 have h2:PySem.W.rowLt (.int x::ds) (.int y::es)=if PyData.eqv (.int x) (.int y)=true then PySem.W.rowLt ds es else PySem.W.dataLt (.int x) (.int y):=PySem.W.dataLt_cons al ds es
 rw[h2,h,PySem.W.dataLt_int,PyData.eqv]
 by_cases c:x=y
 ·subst c
  rw[if_pos (by simp),ar0,decide_eq_true_eq,decide_eq_true_eq,List.cons_lt_cons_iff]
  constructor
  ·exact fun k=>Or.inr ⟨rfl,k⟩
  ·rintro(k|k)
   ·omega
   ·exact k.2
 ·rw[if_neg (by simpa using c),ar0,decide_eq_true_eq,decide_eq_true_eq,List.cons_lt_cons_iff]
  constructor
  ·exact Or.inl
  ·rintro(k|k)
   ·exact k
   ·exact absurd k.1 c
theorem akR(a b:Rw):PySem.W.dataLt (rD a) (rD b)=decide (rk a < rk b):=by
 unfold rD
 rw[PySem.W.dataLt_tuple]
 exact aas _ _ _ _ _ _ (agP a.2 b.2)
theorem V2(a b:Rw):PySem.W.alike (rD a) (rD b)=true:=by
 unfold rD dT
 rw[PySem.W.alike,PySem.W.alikeAll,PySem.W.alikeAll,PySem.W.alike,PySem.W.alike,PySem.W.alike_ints,PySem.W.alikeAll]
 rfl
theorem fB.map{α β:Type}{P:V->β->Prop}(f:α->β){ws:List V}{L:List α}(h:fB (fun v x=>P v (f x)) ws L):fB P ws (L.map f):=by
 refine⟨by rw[aq7,h.1],fun i v x a b=>?_⟩
 rw[aq9]at b
 obtain⟨y,hy,e⟩:=arF.mp b
 rw[←e]
 exact h.2 i v y a hy
theorem adG{a b:Rw}(h:rk a=rk b):a=b:=by
 unfold rk at h
 injection h with h1 h2
 exact Prod.ext h1 h2
def VH(S:List Rw):Prop:=S.Pairwise fun a b=>rk a < rk b
theorem Ra:∀{S T:List Rw},VH S->VH T->(∀r,r∈S↔r∈T)->S=T
 |[],[],_,_,_=>rfl
 |[],t::T,_,_,h=>absurd ((h t).mpr aq1) (by simp)
 |s::S,[],_,_,h=>absurd ((h s).mp aq1) (by simp)
 |s::S,t::T,hs,ht,h=>by
  obtain⟨hs1,hs2⟩:=List.pairwise_cons.mp hs
  obtain⟨ht1,ht2⟩:=List.pairwise_cons.mp ht
  have e:s=t:=by
   rcases ara.mp ((h s).mp aq1) with e|m
   ·exact e
   ·rcases ara.mp ((h t).mpr aq1) with e2|m2
    ·exact e2.symm
    ·exact absurd (ht1 s m) (List.lt_asymm (hs1 t m2))
  subst e
  have hn:∀{L:List Rw},(∀r∈L,rk s < rk r)->s∉L:=fun hL m=>List.lt_irrefl _ (hL s m)
  rw[Ra hs2 ht2 fun r=>?_]
  constructor
  ·intro m
   rcases ara.mp ((h r).mp (aq0 _ m)) with e|m2
   ·rw[e]at m
    exact absurd m (hn hs1)
   ·exact m2
  ·intro m
   rcases ara.mp ((h r).mpr (aq0 _ m)) with e|m2
   ·rw[e]at m
    exact absurd m (hn ht1)
   ·exact m2
theorem Mh(a b:Rw):PySem.W.dataLe false rD a b=decide (rk a<=rk b):=by
 show(!PySem.W.dataLt (rD b) (rD a))=_
 rw[akR,ar0,ard,decide_eq_false_iff_not,decide_eq_true_eq]
 exact List.not_lt
theorem adU{α β:Type}{R:α->β->Prop}{as cs:List α}(p:as.Perm cs):∀{bs:List β},PySem.W.EachIs R as bs->∃ds,ds.Perm bs/\PySem.W.EachIs R cs ds:=by
 induction p with
 |nil=>
  intro bs h
  cases h
  exact⟨[],List.Perm.refl _,.nil⟩
 |cons x _ ih=>
  intro bs h
  cases h with
  |cons r t=>
   obtain⟨ds,h1,h2⟩:=ih t
   exact⟨_::ds,h1.cons _,.cons r h2⟩
 |swap x y l=>
  intro bs h
  cases h with
  |cons r t=>
   cases t with
   |cons r2 t2=>exact⟨_,List.Perm.swap _ _ _,.cons r2 (.cons r t2)⟩
 |trans _ _ ih1 ih2=>
  intro bs h
  obtain⟨ds,a1,a2⟩:=ih1 h
  obtain⟨es,b1,b2⟩:=ih2 a2
  exact⟨es,b1.trans a1,b2⟩
section
variable{P:Program}{w:World}{A:Around}{E:Value->Shared->Prop}{s:Shared}
theorem Od{β:Type}{a:Addr}{es:Array (Int×Value)}{ep:Nat}{t:SetTable}{enc:β->PyData}{bs:List β}{R:Value->β->Prop}{Q:Value->Shared->Prop}(hh:A.handled=none)(ha:SetAt s.heap a es ep t)(hf:t.fits es.size=true)(hsz:es.size < scanBound)(hr:Ris t.place.toList)
  (hl:w.params.followText "set-order"=true∨t.led=true) (e:PySem.W.EachIs (fun v b=>R v b/\∃as,Reads s.heap v (enc b) as) (es.toList.map (·.2)) bs) (hal:PySem.W.AllAlike (bs.map enc)) (hk:PySem.W.Sortable (bs.map enc)) (hu:∀b∈bs,A.units+2+(enc b).depth < cLine)
  (hQ:∀(s':Shared) (p:Addr) (out:List Value) (c:Nat) (cs:List β),(∀b o,s.heap.get? b=some o->s'.heap.get? b=some o)->s'.gens=s.gens->s'.os=s.os->s.heap.objs.size<=p->s'.heap.get? p=some (seqObj "list" out.toArray c)->
   cs.Perm bs->PySem.W.EachIs R out (cs.mergeSort (PySem.W.dataLe false enc))->Q (.ref p) s') :
  wpAny (model P w) A (call (.builtin "sorted") [.ref a]) Q E s:=by
 refine Calls.call_function_entry kind_sorted plain_sorted entry_sorted (args_sorted1 _) ?_
 unfold Builtin.«sorted»
 refine wpAny_bind (m:=checkCount "sorted" 1 1 _) (wpAny_pure ?_)
 refine wpAny_bind (collect_set (A:=A.in1) hh ha hf hsz hr hl fun t1 vals kept grown g1 o1 pm=>?_)
 obtain⟨cs,pc,ec⟩:=adU pm.symm e
 have lc:vals.length=cs.length:=ec.length
 have lb:cs.length=bs.length:=pc.length_eq
 have lz:vals.length<=sizeLine:=by
  rw[pm.length_eq,aq7,arD,sizeLine_eq]
  unfold scanBound at hsz
  omega
 refine wpAny_bind (wpAny_newList ?_ lz)
 have here:(t1.heap.push (seqObj "list" vals.toArray 0)).get? t1.heap.objs.size=some (seqObj "list" vals.toArray 0):=Heap.get?_push_size _ rfl
 have stays:∀b o,s.heap.get? b=some o->(t1.heap.push (seqObj "list" vals.toArray 0)).get? b=some o:=fun b o q=>Heap.get?_push_of_some _ (kept b o q)
 have al:PySem.W.AllAlike (cs.map enc):=fun d hd d' hd'=>hal d ((pc.map enc).mem_iff.mp hd) d' ((pc.map enc).mem_iff.mp hd')
 have sk:PySem.W.Sortable (cs.map enc):=by
  rcases hk with k|k
  ·exact .inl fun d hd=>k d ((pc.map enc).mem_iff.mp hd)
  ·exact .inr fun d hd=>k d ((pc.map enc).mem_iff.mp hd)
 refine wpAny_bind (wpAny_holding (PySem.W.list_sort_data (s:={ t1 with heap:=t1.heap.push (seqObj "list" vals.toArray 0) }) (enc:=enc) here (ec.mono fun v b h=>h.1) (ec.mono fun v b ⟨_,as,r⟩=>⟨as,PySem.W.reads_keeps stays r,fun m=>?rd⟩) al sk (by omega) (fun b hb=>?un) fun out lo eo=>?fin))
 case rd=>
  obtain⟨o,q⟩:=PyProof.On.reads_mem_get r _ m
  have hlt:t1.heap.objs.size < s.heap.objs.size:=Heap.lt_size q
  exact absurd grown (Nat.not_le_of_lt hlt)
 case fin=>
  obtain⟨c,hc⟩:=sortedHeap_at (vs:=vals) (out:=out.toArray) here
  refine wpAny_pure ⟨_,rfl,hQ _ t1.heap.objs.size out c cs (fun b o q=>?_) g1 o1 grown hc pc eo⟩
  have hlt:=Heap.lt_size (kept b o q)
  show(sortedHeap (t1.heap.push (seqObj "list" vals.toArray 0)) t1.heap.objs.size vals out.toArray).get? b=some o
  rw[sortedHeap_old (arE hlt) (by rw[size_push'];exact arV hlt)]
  exact stays b o q
 case un=>
  have:=hu b (pc.mem_iff.mp hb)
  show A.in1.units+1+_ < _
  have e1:A.in1.units=A.units+1:=rfl
  omega
end
@[irreducible]def MP (w:World):List V->Hp->VK->Prop:=fun vs H Q=>∃(a:Addr) (S:Int->Bool) (n:Nat),vs=[V.ref a]/\H a=some (SetO w a S n)/\
 ∀(ns:List Int) (p:Addr),ns.Pairwise (· < ·)->(∀k:Int,k∈ns↔S k=true)->ns.length=n->H p=none->Q (.ref p) (upd H p (.lst (ns.map V.int)))
theorem WM:∀(out:List Value) (ns:List Int),PySem.W.EachIs (fun v (k:Int)=>∃tk,v=Value.int k tk) out ns->Vals (ns.map V.int) out
 |[],[],.nil=>.nil
 |_::out,k::ns,.cons ⟨tk,e⟩ t=>by
  subst e
  exact .cons ⟨tk,rfl⟩ (WM out ns t)
theorem ahA{ns:List Int}(h:ns.Pairwise fun a b=>(PySem.W.dataLe false (fun k:Int=>PyData.int k)) a b=true)(nd:ns.Nodup):ns.Pairwise (· < ·):=by
 refine List.Pairwise.imp₂ (fun a b h1 h2=>?_) h nd
 rw[PySem.W.dataLe_int,decide_eq_true_eq]at h1
 omega
section
variable{X:Cx}
theorem ac8(hu:X.A.units+65 < cLine)(hc:X.calm=true):CallR X (.builtin "sorted") (MP X.w):=by
 intro pins s σ H vs us Q I r h
 unfold MP at h
 obtain⟨a,S,n,rfl,ha,q⟩:=h
 obtain⟨o,es,ep,t,ho,hex,hd,g,nd,hm,hb,hf,hn,hr,hl⟩:=setO_get I ha
 rw[Vals.ref1 r]
 have ev:∀l:List (Int×Value),(∀e∈l,GoodE e)->PySem.W.EachIs (fun v (k:Int)=>(∃tk,v=Value.int k tk)/\∃as,Reads s.heap v (PyData.int k) as) (l.map (·.2)) (l.map keyOf):=by
  intro l
  induction l with
  |nil=>exact fun _=>.nil
  |cons e l ih=>
   intro hg
   obtain⟨k,tk,h1,h2⟩:=hg e aq1
   have ek:keyOf e=k:=by
    unfold keyOf
    rw[h1]
   refine .cons ?_ (ih fun x hx=>hg x (aq0 _ hx))
   rw[ek]
   exact⟨⟨tk,h1⟩,[],by show Reads s.heap e.2 (PyData.int k) [];rw[h1];exact .int k tk⟩
 refine Od (enc:=fun k:Int=>PyData.int k) (I.ok.hd hc) ⟨o,ho,hex.1,hd⟩ hf hb hr hl (ev es.toList g) (ase fun x y=>by rw[PySem.W.alike]) (PySem.W.Sortable.others fun x=>⟨(fun z=>by cases z),(fun xs z=>by cases z)⟩) (fun k _=>by rw[PyData.depth];omega) fun s' p out c cs k g' o' hp hg pc eo=>?_
 have mp:=arZ cs (PySem.W.dataLe false (fun k:Int=>PyData.int k))
 have ndm:(cs.mergeSort (PySem.W.dataLe false (fun k:Int=>PyData.int k))).Nodup:=(mp.trans pc).nodup_iff.mpr nd
 have srt:=arW (le:=PySem.W.dataLe false (fun k:Int=>PyData.int k)) (fun a b c h1 h2=>by rw[PySem.W.dataLe_int,decide_eq_true_eq]at *;omega) (fun a b=>by rw[PySem.W.dataLe_int,ar3,decide_eq_true_eq,decide_eq_true_eq];omega) cs
 generalize cs.mergeSort (PySem.W.dataLe false (fun k:Int=>PyData.int k))=ns at mp ndm srt eo
 have hv:Vals (ns.map V.int) out:=WM out ns eo
 have lns:ns.length=n:=by
  rw[mp.length_eq,pc.length_eq,aq7,arD,hn]
 have hlen:(ns.map V.int).length<=sizeLine:=by
  rw[aq7,lns,←hn,sizeLine_eq]
  unfold scanBound at hb
  omega
 have hfr:H p=none:=I.hok.fresh hp
 have J:Inv X pins σ (upd H p (.lst (ns.map V.int))) { s with heap:=s'.heap,gens:=s'.gens,drawn:=s'.drawn,toks:=s'.toks }:=
  I.call (ch:=[]) (Un.laid k hp hfr) (I.hok.laid k hp ⟨hlen,out,c,hv,hg⟩) (by rw[g'];exact I.bare) (fun _ z=>nomatch z)
 have es':s'={ s with heap:=s'.heap,gens:=s'.gens,drawn:=s'.drawn,toks:=s'.toks }:=by
  cases s'
  cases s
  cases o'
  rfl
 rw[es']
 exact⟨.ref p,_,J,rfl,q ns p (ahA srt ndm) (fun k=>by rw[(mp.trans pc).mem_iff,hm]) lns hfr⟩
end
section
variable{X:Cx}
def akS(w:World)(D:Addr)(vs:List Nat)(g:TG)(tt:TT)(te:TE)(σ:L2.St)(Nx:Hp->Prop)(x:V)(H:Hp):Prop:=
 g x (wipe σ vs) H fun σ2 H2=>wipe σ2 vs=wipe σ vs/\tt σ2 H2 fun b H3=>if b=true then te σ2 H3 fun y H4=>∃(k:Int) (S:Int->Bool) (n:Nat),y=.int k/\H4 D=some (SetO w D S n)/\n+1 < scanBound/\Nx (upd H4 D (SetO w D (fun j=>S j || decide (j=k)) (if S k=true then n else n+1))) else Nx H3
def ajm(w:World)(wi:TI)(g:TG)(tt:TT)(te:TE)(vs:List Nat):TE:=fun σ H Q=>wi σ H fun J H1=>∀D,H1 D=none->∃W:Nat->Nat->Hp->Prop,(∃m,W 0 m (upd H1 D (SetO w D (fun _=>false) 0)))/\
 ∀i m H,W i m H->(J.stop i H/\Q (.ref D) H)∨(J.go i H/\∃Nx:Hp->Prop,(∀H',Nx H'->∃m',m' < m/\W (i+1) m' H')/\∀x H',J.yld i H x H'->akS w D vs g tt te σ Nx x H')
theorem add_int{pins:List (Addr×Obj)}{σ:L2.St}{H:Hp}{s:Shared}{E:Value->Shared->Prop}{D:Addr}{S:Int->Bool}{n:Nat}{k:Int}{v:Value}{Q:Value->Shared->Prop}(I:Inv X pins σ H s)(hD:H D=some (SetO X.w D S n))(room:n+1 < scanBound)(rv:RelV (.int k) v)
  (q:∀t,Inv X pins σ (upd H D (SetO X.w D (fun j=>S j || decide (j=k)) (if S k=true then n else n+1))) t->Q .none t):wpAny (model X.prog X.w) X.A (call (.builtin "set.add") [.ref D,v]) Q E s:=by
 obtain⟨tk,rfl⟩:=rv
 refine setR_add (setO_get I hD) room fun h' sb new=>q _ (I.write (e:=D) (t':=s.toks+1) (by rw[hD];trivial) (.inl rfl) (fun b u hb hu=>(sb.2 b hb).trans hu) ?_ (setO_new new))
 have ⟨o,_,_,_,ho,_⟩:=new
 exact⟨o,ho⟩
theorem aiV{elt tg iter:Expr}{ifs:List Expr}{scope:Scope}{own:List (PySem.Str×Nat)}{pos:Pos}{wi:TI}{g:TG}{tt:TT}{te:TE}(hc:X.calm=true)(hN:X.N.Nodup)(hi:PI X tg iter wi)(ok:BlkOk X.N X.env.scope scope own)
  (hg:∀(t:Shared) (G:Hp) (C:Addr) (cl:List (PySem.Str×Addr)) (fp:List Addr),PG (X.blk t G scope (compEnvC scope cl C X.env) fp) tg g) (ht:∀(t:Shared) (G:Hp) (C:Addr) (cl:List (PySem.Str×Addr)) (fp:List Addr),PTs (X.blk t G scope (compEnvC scope cl C X.env) fp) ifs tt)
  (he:∀(t:Shared) (G:Hp) (C:Addr) (cl:List (PySem.Str×Addr)) (fp:List Addr),PE (X.blk t G scope (compEnvC scope cl C X.env) fp) elt te) (hs:∀x,foldedSetIterable iter X.env x=pure x:=by intro _;rfl) :
  PE X (.SetComp elt [⟨tg,iter,ifs,0⟩] scope pos) (ajm X.w wi g tt te (own.map (·.2))):=by
 refine⟨fun pins s σ H Q I h=>?_⟩
 rw[PpSet.eval_SetComp]
 have cells:∀y∈scope.names,y.2=.free->∃c,X.env.cells.lookup y.1=some c:=fun y hy e=>(ok.free y hy e).elim (fun k=>I.ok.has _ (.inl k)) (fun k=>I.ok.has _ (.inr k))
 refine wpAny_comprehension_free rfl hs (closure_ok cells) ok.kind (fun y hy e=>by rw[ok.uniq y hy,e]) (thn (hi.run pins s σ H _ I h) fun _ _ hx=>thn hx fun itv t0 h0=>?_)
 obtain⟨it,fp,tn,J,G0,rfl,I0,T,st0,f0,q⟩:=h0
 refine PpSet.newSet_ok (newEnv_comp ?_)
 -- the new set,at D
 obtain⟨D,hD⟩:∃D,D=t0.heap.objs.size:=⟨_,rfl⟩
 rw[←hD]
 obtain⟨W,⟨m0,w0⟩,turn⟩:=q D (I0.hok.fresh (Nat.le_of_eq hD.symm))
 obtain⟨ob,hob⟩:∃ob:Obj,ob={ cls:=.type "set",dict:=none,data:=.set #[] 0 (.fresh 0 0 (!X.w.params.followText "set-order")) }:=⟨_,rfl⟩
 rw[←hob]
 obtain⟨t1,ht1⟩:∃t1:Shared,t1={ t0 with heap:=t0.heap.push ob }:=⟨_,rfl⟩
 obtain⟨G1,hG1⟩:∃G1,G1=upd G0 D (SetO X.w D (fun _=>false) 0):=⟨_,rfl⟩
 rw[←hG1]at w0
 have grow:∀b o,t0.heap.get? b=some o->t1.heap.get? b=some o:=fun b o e=>by rw[ht1];exact Heap.get?_push_of_some _ e
 have I1:Inv X pins σ G1 t1:=by
  rw[ht1,hG1]
  refine I0.laid (t':=t0.toks) (fun b o e=>Heap.get?_push_of_some _ e) (Nat.le_of_eq hD.symm) ?_
  rw[hD,hob]
  exact setO_new (setR_fresh X.w)
 have small:∀b∈fp,b < t0.heap.objs.size:=fun b hb=>by
  obtain⟨o,e,_⟩:=T.obj _ _ st0 b hb
  exact Heap.lt_size e
 have f1:∀b∈fp,FpOk X pins G1 b/\b < t1.heap.objs.size:=fun b hb=>by
  have hlt:=small b hb
  refine⟨⟨?_,(f0 b hb).2⟩,by rw[ht1];show b < (t0.heap.push ob).objs.size;rw[Heap.size_push];exact arV hlt⟩
  rw[hG1,upd_ne (by rw[hD];exact arE hlt)]
  exact(f0 b hb).1
 have st1:tn 0 t1.heap:=T.keep _ _ _ st0 fun b _ o e=>grow b o e
 have I2:=block_start I1 ok hN f1
 have pg:=hg t1 G1 t1.heap.objs.size (cellsFrom (t1.heap.objs.size+1) scope.names (cloFrom X.env.cells scope.names [])) fp
 have pt:=ht t1 G1 t1.heap.objs.size (cellsFrom (t1.heap.objs.size+1) scope.names (cloFrom X.env.cells scope.names [])) fp
 have pe:=he t1 G1 t1.heap.objs.size (cellsFrom (t1.heap.objs.size+1) scope.names (cloFrom X.env.cells scope.names [])) fp
 have none1:∀b∈fp,G1 b=none:=fun b hb=>(f1 b hb).1.1
 rw[show({ t0 with heap:=t0.heap.push ob }:Shared)=t1 from ht1.symm]
 obtain⟨ce,hce⟩:∃ce,ce=compEnvC scope (cellsFrom (t1.heap.objs.size+1) scope.names (cloFrom X.env.cells scope.names [])) t1.heap.objs.size X.env:=⟨_,rfl⟩
 rw[←hce]at I2 pg pt pe
 have cL:ce.locals=t1.heap.objs.size:=by rw[hce];rfl
 obtain⟨t2,ht2⟩:∃t2:Shared,t2={ t1 with heap:=pushCells (t1.heap.push { cls:=.type "dict",data:=.dict #[] }) scope.names }:=⟨_,rfl⟩
 rw[←ht2]at I2
 have st2:tn 0 t2.heap:=T.keep _ _ _ st1 fun b _ o e=>by rw[ht2];exact pushCells_keeps _ _ _ _ (Heap.get?_push_of_some _ e)
 have still:∀{σ':L2.St} {G':Hp} {t':Shared},Inv (X.blk t1 G1 scope ce fp) [] σ' G' t'->(∀b∈fp,G' b=none)->∀b∈fp,FpOk (X.blk t1 G1 scope ce fp) [] G' b:=fun I' hn b hb=>
  ⟨hn b hb,(I'.ok.exf b hb).1,I'.ok.exfs b hb,.inl hb,fun x c e=>(I'.ok.exf b hb).2 x c e,fun p hp=>absurd (show p∈([]:List (Addr×Obj))++[] from hp) (by simp)⟩
 have loop:codeAny (model X.prog X.w) X.A (.compLoop (.SetComp elt [⟨tg,iter,ifs,0⟩] scope pos) 0 (.ref it) (.ref D) ce) (compPost (model X.prog X.w) X.A X.xe none (EP X pins σ Q) (.ref D) t1.heap.objs.size) t2:=by
  refine PpSet.compLoopS_any (fun n t'=>∃i G',Inv (X.blk t1 G1 scope ce fp) [] (wipe σ (own.map (·.2))) G' t'/\tn i t'.heap/\(∀b∈fp,G' b=none)/\W i n G') ?_ m0 ⟨0,G1,I2,st2,none1,w0⟩
  rintro n t3 ⟨i,G3,I3,st3,n3,w3⟩
  rcases turn i n G3 w3 with⟨stop,fin⟩|⟨go,Nx,hNx,step⟩
  ·refine thnF (T.done (X.blk t1 G1 scope ce fp) rfl rfl rfl hc i [] t3 _ G3 (fun _ _=>False) I3 (still I3 n3) st3 stop) fun r t4 ⟨hr,I4⟩=>?_
   subst hr
   have I5:Inv X pins σ G3 t4:=I1.call' (ch:=fp) I4.os I4.base I4.hok I4.bare fun b hb=>⟨(f1 b hb).1.2.2.2.1,(f1 b hb).1.2.1,(f1 b hb).1.2.2.2.2.1,(f1 b hb).1.2.2.2.2.2⟩
   have nC:G3 t1.heap.objs.size=none:=by rw[←cL];exact I4.free
   obtain⟨m,hn,_⟩:=I4.loc
   have hn':t4.heap.Ns t1.heap.objs.size m:=by rw[←cL];exact hn
   obtain⟨a0,a1,_,a3,a4,a5⟩:=I1.fpOk (aro _) nC
   exact⟨m,hn',fun h'' sb=>⟨.ref D,G3,I5.turned (t':=t4.toks) (fun b o hb e=>(sb.2 b hb).trans e) a0 a1 a3 a4 a5,rfl,fin⟩⟩
  ·refine thnF (T.item (X.blk t1 G1 scope ce fp) rfl rfl rfl hc i [] t3 _ G3 (fun _ _=>False) I3 (still I3 n3) st3 go) fun r t4 ⟨u,hr,h4⟩=>?_
   subst hr
   refine thnF h4 fun _ t5 ⟨x,G5,I5,r5,y5,st5,n5⟩=>?_
   refine thnF (pg.run _ t5 _ G5 x u _ (I5.pinned (still I5 n5) (T.obj _ _ st5)) r5 (step x G5 y5)) fun _ t6 ⟨σ6,G6,I6,hw6,q6⟩=>?_
   refine thnF (pt.run _ t6 σ6 G6 _ I6 q6) fun b t7 ⟨G7,I7,q7⟩=>?_
   have over:∀{t':Shared} {G':Hp},Inv (X.blk t1 G1 scope ce fp) ([]++pinsAt fp t5.heap) σ6 G' t'->Nx G'->∃m,m < n/\∃i G',Inv (X.blk t1 G1 scope ce fp) [] (wipe σ (own.map (·.2))) G' t'/\tn i t'.heap/\(∀b∈fp,G' b=none)/\W i m G':=fun {t' G'} I' nx=>by
    obtain⟨m',hm,w'⟩:=hNx G' nx
    have pin:∀b∈fp,∀o,t5.heap.get? b=some o->t'.heap.get? b=some o/\G' b=none:=fun b hb o e=>
     let z:=I'.pin (b,o) (arH _ (arH _ (mem_pinsAt hb e)))
     ⟨z.1,z.2.1⟩
    refine⟨m',hm,i+1,G',(I'.unpinned (pins:=[])).weak (by rw[←hw6,wipe_length]) (fun j v e=>?_),T.keep _ _ _ st5 fun b hb o e=>(pin b hb o e).1,fun b hb=>?_,w'⟩
    ·rw[←hw6]at e
     exact(wipe_some e).1
    ·obtain⟨o,e,_⟩:=T.obj _ _ st5 b hb
     exact(pin b hb o e).2
   cases b with
   |false=>
    simp only[arp,if_false]at q7 ⊢
    exact over I7 q7
   |true=>
    simp only[if_true]at q7 ⊢
    refine thnF (pe.run _ t7 σ6 G7 _ I7 q7) fun z t8 ⟨yv,G8,I8,r8,k,S,c,ey,hD8,hz8,nx⟩=>?_
    subst ey
    exact add_int (X:=X.blk t1 G1 scope ce fp) I8 hD8 hz8 r8 fun t9 I9=>over I9 nx
 have done:=PpSet.codeAny_compStart_set loop (T.self X.A 0 _ _ _ st2 loop)
 rw[hce,ht2]at done
 exact done
end
section
variable{P:Program}{w:World}{A:Around}{E:Value->Shared->Prop}{s:Shared}
def nk(r:Rw):NestedKey:=.tup [.num r.1,.tup (r.2.map .num)]
theorem Yk:∀a b:List Int,a.map NestedKey.num=b.map NestedKey.num->a=b
 |[],[],_=>rfl
 |[],_::_,h=>by cases h
 |_::_,[],h=>by cases h
 |x::a,y::b,h=>by
  rw[aqZ,aqZ]at h
  injection h with h1 h2
  injection h1 with h1
  rw[h1,Yk a b h2]
theorem aef{a b:Rw}(h:nk a=nk b):a=b:=by
 unfold nk at h
 injection h with h
 injection h with h1 h
 injection h with h2 _
 injection h1 with h1
 injection h2 with h2
 exact Prod.ext h1 (Yk _ _ h2)
theorem Ru:∀l:List Int,NestedKey.depthAll (l.map .num)=0
 |[]=>by rw[arY,NestedKey.depthAll]
 |x::l=>by
  rw[aqZ,NestedKey.depthAll,NestedKey.depth,Ru l]
  rfl
theorem af2(r:Rw):(nk r).depth=2:=by
 unfold nk
 rw[NestedKey.depth,NestedKey.depthAll,NestedKey.depthAll,NestedKey.depthAll,NestedKey.depth,NestedKey.depth,Ru]
 rfl
def ou(P:Program)(w:World):HeapKind P w Rw where
 is:=fun h r a=>(nestedKind P w).is h (nk r) a
 hash:=fun r=>(nestedKind P w).hash (nk r)
 draws:=fun r=>(nestedKind P w).draws (nk r)
 room:=(nestedKind P w).room
 inj:=fun hx hy=>aef ((nestedKind P w).inj hx hy)
 keeps:=fun x ho hd hs=>(nestedKind P w).keeps x ho hd hs
 pyHash:=fun hu hk h=>(nestedKind P w).pyHash hu hk h
 eqBool:=fun {A E s x y a b Q} hu hx hy h=>(nestedKind P w).eqBool hu hx hy (by
  have e:decide (nk x=nk y)=decide (x=y):=by
   rw[decide_eq_decide]
   exact⟨aef,fun h=>by rw[h]⟩
  rw[e]
  exact h)
 quiet:=fun hk h=>(nestedKind P w).quiet hk h
abbrev RI(h:Heap)(r:Rw)(a:Addr):Prop:=NestedIs h (nk r) (.ref a)/\(nk r).depth<=8
theorem Vj{h h':Heap}{r:Rw}{a:Addr}(x:RI h r a)(k:∀c o,h.get? c=some o->h'.get? c=some o):RI h' r a:=⟨NestedIs.at (fun b o _ _ e _=>k b o e) _ _ x.1,x.2⟩
theorem ZM{h h':Heap}{r:Rw}{a d:Addr}{o:Obj}{es:Array (Int×Value)}{ep:Nat}{t:SetTable}(x:RI h r a)(ho:h.get? d=some o)(hd:o.data=.set es ep t)(sb:Heap.SameBut d h h'):RI h' r a:=by
 refine⟨NestedIs.at (fun b ob vs n hb hc=>(sb.2 b fun e=>?_).trans hb) _ _ x.1,x.2⟩
 subst e
 obtain rfl:ob=o:=ari (hb.symm.trans ho)
 rw[hd]at hc
 cases hc
theorem Jc{h:Heap}{i:Int}{v:Value}(x:NestedIs h (.num i) v)(n:Nat):ofAClassStatement n v=pure false/\hashByValue n v=pure true:=by
 cases x with
 |bool _=>cases n <;> exact⟨rfl,rfl⟩
 |int _ t=>cases n <;> exact⟨rfl,rfl⟩
theorem YF{h:Heap}:∀(l:List Int) (vs:List Value),NestedAll h (l.map .num) vs->∀v∈vs,∃i,NestedIs h (.num i) v
 |[],_,x,v,hv=>by
  cases x
  cases hv
 |i::l,_,x,v,hv=>by
  rw[aqZ]at x
  cases x with
  |cons x1 x2=>
   rcases ara.mp hv with e|hv
   ·exact⟨i,by rw[e];exact x1⟩
   ·exact YF l _ x2 v hv
theorem aaM{n:Nat}{a:Addr}{o:Obj}{vs:Array Value}{m:Nat}(ho:s.heap.get? a=some o)(hc:o.cls=.type "tuple")(hd:o.data=.seq vs m)(hq:∀v∈vs.toList,∀(E:Value->Shared->Prop) (Q:Bool->Shared->Prop),Q false s->wpAny (model P w) A (ofAClassStatement n v) Q E s){Q:Bool->Shared->Prop}(q:Q false s) :
  wpAny (model P w) A (ofAClassStatement (n+1) (.ref a)) Q E s:=by
 have hT:s.TypeIs (.ref a) "tuple":=⟨o,ho,hc⟩
 unfold ofAClassStatement
 refine wpAny_bind (wpAny_typeOf hT ?_)
 dsimp only
 have eq1:(("tuple" : String)=="tuple")=true:=by decide
 simp only[eq1,if_true,Bool.not_true,arp,if_false]
 try refine wpAny_bind (wpAny_pure ?_)
 try simp only[Bool.not_true,arp,if_false]
 refine wpAny_bind (wpAny_seqItems ho hd ?_)
 dsimp only
 refine wpAny_bind ?_
 rw[←Array.forIn_toList]
 refine wpAny_forIn_list _ (fun left r u=>r.1=none/\u=s/\∀v∈left,v∈vs.toList) _ ?_ ?_ _ _ ⟨rfl,rfl,fun v hv=>hv⟩
 ·rintro v left r u ⟨hr,rfl,hall⟩
  refine wpAny_bind (hq v (hall v aq1) _ _ ?_)
  simp only[arp,if_false]
  exact wpAny_pure ⟨rfl,rfl,fun y hy=>hall y (aq0 _ hy)⟩
 ·rintro⟨r1,r2⟩ u ⟨hr,rfl,_⟩
  simp only at hr
  subst hr
  exact wpAny_pure q
theorem ZF{n:Nat}{a:Addr}{o:Obj}{vs:Array Value}{m:Nat}(ho:s.heap.get? a=some o)(hc:o.cls=.type "tuple")(hd:o.data=.seq vs m)(hq:∀v∈vs.toList,∀(E:Value->Shared->Prop) (Q:Bool->Shared->Prop),Q true s->wpAny (model P w) A (hashByValue n v) Q E s){Q:Bool->Shared->Prop}(q:Q true s) :
  wpAny (model P w) A (hashByValue (n+1) (.ref a)) Q E s:=by
 have hT:s.TypeIs (.ref a) "tuple":=⟨o,ho,hc⟩
 unfold hashByValue
 refine wpAny_bind (wpAny_specialOf hT PySem.F.slot_tuple_hash.lookup ?_)
 show wpAny _ _ (seqItems? (.ref a) >>= _) _ _ s
 refine wpAny_bind (wpAny_seqItems ho hd ?_)
 refine wpAny_bind ?_
 show wpAny _ _ (forIn vs _ _) _ _ s
 rw[←Array.forIn_toList]
 refine wpAny_forIn_list _ (fun left r u=>r.1=none/\u=s/\∀v∈left,v∈vs.toList) _ ?_ ?_ _ _ ⟨rfl,rfl,fun v hv=>hv⟩
 ·rintro v left r u ⟨hr,rfl,hall⟩
  refine wpAny_bind (hq v (hall v aq1) _ _ ?_)
  simp only[Bool.not_true,arp,if_false]
  exact wpAny_pure ⟨rfl,rfl,fun y hy=>hall y (aq0 _ hy)⟩
 ·rintro⟨r1,r2⟩ u ⟨hr,rfl,_⟩
  simp only at hr
  subst hr
  exact wpAny_pure q
theorem Jt{r:Rw}{a:Addr}(x:RI s.heap r a):(∀{Q:Bool->Shared->Prop},Q false s->wpAny (model P w) A (ofAClassStatement 8 (.ref a)) Q E s)/\∀{Q:Bool->Shared->Prop},Q true s->wpAny (model P w) A (hashByValue 8 (.ref a)) Q E s:=by
 obtain⟨x,_⟩:=x
 unfold nk at x
 cases x with
 | @tup _ o vs m _ ho hc hd x=>
  have items:∀v∈vs.toList,(∃i,NestedIs s.heap (.num i) v)∨∃b,v=.ref b/\∃o us k,s.heap.get? b=some o/\o.cls=.type "tuple"/\o.data=.seq us k/\∀u∈us.toList,∃i,NestedIs s.heap (.num i) u:=by
   generalize vs.toList=l at x
   cases x with
   |cons x1 x=>
    cases x with
    |cons x2 x=>
     cases x
     intro v hv
     rcases ara.mp hv with e|hv
     ·exact Or.inl ⟨_,by rw[e];exact x1⟩
     ·have e:=aq2.mp hv
      cases x2 with
      |tup k1 k2 k3 k4=>exact Or.inr ⟨_,e,_,_,_,k1,k2,k3,YF _ _ k4⟩
  refine⟨fun q=>aaM ho hc hd (fun v hv E' Q' q'=>?_) q,fun q=>ZF ho hc hd (fun v hv E' Q' q'=>?_) q⟩
  ·rcases items v hv with⟨i,y⟩|⟨b,rfl,o',us,k,k1,k2,k3,k4⟩
   ·rw[(Jc y 7).1]
    exact wpAny_pure q'
   ·refine aaM k1 k2 k3 (fun u hu E2 Q2 q2=>?_) q'
    obtain⟨i,y⟩:=k4 u hu
    rw[(Jc y 6).1]
    exact wpAny_pure q2
  ·rcases items v hv with⟨i,y⟩|⟨b,rfl,o',us,k,k1,k2,k3,k4⟩
   ·rw[(Jc y 7).2]
    exact wpAny_pure q'
   ·refine ZF k1 k2 k3 (fun u hu E2 Q2 q2=>?_) q'
    obtain⟨i,y⟩:=k4 u hu
    rw[(Jc y 6).2]
    exact wpAny_pure q2
end
abbrev Ent:Type:=Addr×Rw
section
variable{P:Program}{w:World}{A:Around}{E:Value->Shared->Prop}{s:Shared}
def ents(hf:Rw->Int)(L:List Ent):List (Int×Value):=L.map fun p=>(hf p.2,Value.ref p.1)
structure qH(hf:Rw->Int)(w:World)(h:Heap)(a:Addr)(L:List Ent)(es:Array (Int×Value))(ep:Nat)(t:SetTable):Prop where
 ob:∃o,h.get? a=some o/\o.ExactSet/\o.data=.set es ep t
 en:es.toList=ents hf L
 tab:TabOk t (L.map fun p=>hf p.2)
 nd:(L.map Prod.snd).Nodup
 ky:∀p∈L,RI h p.2 p.1
 pl:t.plain=true
 ld:w.params.followText "set-order"=true∨t.led=true
 free:L.length * 5 < t.mask * 3
 few:L.length<=76
variable{hf:Rw->Int}{a:Addr}{L:List Ent}{es:Array (Int×Value)}{ep:Nat}{t:SetTable}
theorem zJ(h:es.toList=ents hf L):es.size=L.length:=by
 rw[←arD,h]
 exact aq7 _
theorem M6(h:es.toList=ents hf L){i:Nat}{p:Ent}(g:L[i]?=some p):es[i]?=some (hf p.2,Value.ref p.1):=by
 rw[←arO,h]
 unfold ents
 rw[aq9,g]
 rfl
theorem fits_of(h1:t.place.size=es.size)(h2:t.dummies=#[])(h3:es.size<=t.mask):t.fits es.size=true:=by
 unfold SetTable.fits SetTable.fill
 rw[h2,aqW,beq_iff_eq,decide_eq_true_eq]
 exact⟨h1,by show t.place.size+0<=t.mask;omega⟩
theorem qH.fits(R:qH hf w s.heap a L es ep t):t.fits es.size=true:=by
 have l1:=zJ R.en
 have l2:=R.tab.sz
 rw[aq7]at l2
 have l3:=R.free
 exact fits_of (by omega) R.tab.dm (by omega)
theorem qH.sound(R:qH hf w s.heap a L es ep t):¬t.gaveWay=true:=by
 unfold SetTable.gaveWay
 rw[mask_odd R.tab.mok]
 decide
theorem ajq{r:Rw}{b:Addr}{Q:Bool->Shared->Prop}(hx:RI s.heap r b){ys:List Value}(hy:∀y∈ys,∃q c,y=Value.ref c/\RI s.heap q c)(q:Q false s):wpAny (model P w) A (searchCouldBeSeen (.ref b) ys) Q E s:=by
 unfold searchCouldBeSeen
 refine wpAny_bind ?_
 refine wpAny_forIn_list _ (fun left r u=>r.1=none/\u=s/\∀y∈left,∃q c,y=Value.ref c/\RI s.heap q c) _ ?_ ?_ _ _ ⟨rfl,rfl,hy⟩
 ·rintro v left r u ⟨hr,rfl,hall⟩
  obtain⟨q',c,rfl,hc⟩:=hall v aq1
  have more:∀y∈left,∃q c,y=Value.ref c/\RI u.heap q c:=fun y m=>hall y (aq0 _ m)
  dsimp only
  by_cases hv:(b==c || (carriedByValue (.ref b)&&carriedByValue (.ref c)))=true
  ·exact wp_if_pos hv (wpAny_pure ⟨rfl,rfl,more⟩)
  ·refine wp_if_neg hv ?_
   refine wpAny_bind ((ou P w).quiet hx ?_)
   simp only[Bool.not_true,arp,if_false]
   refine wpAny_bind ((ou P w).quiet hc ?_)
   simp only[Bool.not_true,arp,if_false]
   refine wpAny_bind ((Jt hx).1 ?_)
   simp only[arp,if_false]
   refine wpAny_bind ((Jt hc).1 ?_)
   simp only[arp,if_false]
   exact wpAny_pure ⟨rfl,rfl,more⟩
 ·rintro⟨r1,r2⟩ u ⟨hr,rfl,_⟩
  simp only at hr
  subst hr
  exact wpAny_pure q
abbrev uN(m:Nat)(h:Int)(c:Nat):SetTable.Probe:=nth m (runAt m (SetTable.bits h % (m+1)) (SetTable.bits h)) c
theorem aau(m:Nat)(h:Int)(c:Nat):(uN m h c).dummy=none:=by
 have all:∀(n:Nat) (p:SetTable.Probe),p.dummy=none->(nth m p n).dummy=none:=by
  intro n
  induction n with
  |zero=>exact fun p k=>k
  |succ n ih=>
   intro p k
   refine ih (adv m p) ?_
   unfold adv
   split <;> exact k
 exact all c _ rfl
theorem Vs(m:Nat)(h:Int)(c d:Nat):nth m (uN m h c) d=uN m h (c+d):=(nth_add m c _ d).symm
theorem seek(R:qH hf w s.heap a L es ep t){x:Addr}{r:Rw}(hx:RI s.heap r x){h:Int}(hh:hf r=h)(hu:(ou P w).room A){N:Nat}(hN:N < 10 * SetTable.turns t.mask)(out:way t.mask (h) N∉t.place.toList)(inn:∀c,c < N->way t.mask (h) c∈t.place.toList){Q:SetFound->Shared->Prop}
  (yes:r∈L.map Prod.snd->Q (.there none) s) (no:r∉L.map Prod.snd->Q (.free (way t.mask (h) N) false) s) :
  ∀(f c:Nat) (st:Option SetTable.Probe),st.getD (t.probeStart (h))=uN t.mask (h) c->c<=N->N - c < f->
   (∀(i:Nat) (p:Ent),L[i]?=some p->p.2=r->∃d,c<=d/\d < N/\t.place.toList[i]?=some (way t.mask (h) d))->
   wpAny (model P w) A (setSearchFrom a (.ref x) (h) true f st) Q E s:=by
 intro f
 induction f with
 |zero=>exact fun _ _ _ _ hfl _=>absurd hfl (Nat.not_lt_zero _)
 |succ f ih=>
  intro c st hst hc hfl left
  obtain⟨o,ho,hex,hd⟩:=R.ob
  rw[setSearchFrom_succ]
  refine wpAny_bind (wpAny_setState_of ho hd R.fits ?_)
  dsimp only
  refine wp_if_neg R.sound ?_
  try refine wpAny_bind (wpAny_pure ?_)
  have jAt:∀d,(nth t.mask (uN t.mask h c) d).j=way t.mask h (c+d):=fun d=>congrArg SetTable.Probe.j (Vs t.mask h c d)
  have hashOf:∀(i:Nat) (p:Ent),L[i]?=some p->(es[i]?.map (·.1)).getD 0=hf p.2:=fun i p g=>by
   rw[M6 R.en g]
   rfl
  have spec:=go_spec t R.tab.ris R.tab.dm (fun i=>(es[i]?.map (·.1)).getD 0) h (10 * SetTable.turns t.mask) (N - c) (uN t.mask h c) (aau _ _ _) (by omega) (fun d hdn=>by rw[jAt];exact inn (c+d) (by omega)) (by rw[jAt,asf hc];exact out)
  rcases spec with⟨d,i,hdn,hi,hhi,hno,hpr⟩|⟨hno,hpr⟩
  ·have hpr':t.probe (fun i=>(es[i]?.map (·.1)).getD 0) h (st.getD (t.probeStart h))=some (.candidate (way t.mask h (c+d)) i (uN t.mask h (c+(d+1)))):=by
    rw[hst,←jAt,←Vs]
    exact hpr
   rw[hpr']
   dsimp only
   rw[jAt]at hi
   have hil:i < L.length:=by
    have k1:=(aqX.mp hi).1
    have k2:=R.tab.sz
    rw[aq7]at k2
    rw[arD]at k1
    omega
   obtain⟨p,hp⟩:∃p,L[i]?=some p:=⟨_,aqY hil⟩
   have pm:=aq3 hp
   have go:wpAny (model P w) A (searchRest a (.ref x) h true f es t (way t.mask h (c+d)) i (uN t.mask h (c+(d+1)))) Q E s:=by
    unfold searchRest
    rw[M6 R.en hp]
    dsimp only
    refine wpAny_bind (wpAny_holding ((ou P w).eqBool hu (R.ky p pm) hx ?_))
    refine wpAny_bind (wpAny_setState_of ho hd R.fits ?_)
    dsimp only
    by_cases same:p.2=r
    ·exact wp_if_pos (by simp[same]) (wpAny_pure (yes (aq8.mpr ⟨p,pm,same⟩)))
    ·refine wp_if_neg (by simp[same]) ?_
     try refine wpAny_bind (wpAny_pure ?_)
     rw[sameMem]
     dsimp only
     have live:t.slot (way t.mask h (c+d))=.live i:=slot_live R.tab.ris hi
     simp only[if_true,live,M6 R.en hp]
     refine wpAny_bind (wpAny_isSame_ref_self (wpAny_bind (wpAny_pure ?_)))
     simp only[if_true]
     refine wp_if_neg (by simp[same]) ?_
     refine ih (c+(d+1)) _ rfl (by omega) (by omega) fun i0 p0 g0 e0=>?_
     obtain⟨d0,a1,a2,a3⟩:=left i0 p0 g0 e0
     refine⟨d0,?_,a2,a3⟩
     by_cases c1:d0 < c+d
     ·exact absurd ((hashOf i0 p0 g0).trans ((congrArg hf e0).trans hh)) (hno (d0 - c) i0 (by omega) (by rw[jAt,asf a1];exact a3))
     ·by_cases c2:d0=c+d
      ·rw[c2]at a3
       have live0:=slot_live R.tab.ris a3
       rw[live]at live0
       injection live0 with ei
       rw[←ei,hp]at g0
       exact absurd ((congrArg Prod.snd (ari g0)).trans e0) same
      ·omega
   by_cases hl:t.led=true
   ·refine wp_if_neg (by simp[hl]) ?_
    try refine wpAny_bind (wpAny_pure ?_)
    exact go
   ·refine wp_if_pos (by simp[hl]) ?_
    refine wpAny_bind (ajq hx (fun y hy=>?_) ?_)
    ·obtain⟨e,he,ee⟩:=aq8.mp hy
     have h1:e∈es/\e.1=h:=by simpa using he
     have h2:e∈es.toList:=by simpa using h1.1
     rw[R.en]at h2
     obtain⟨p2,hp2,e2⟩:=aq8.mp h2
     exact⟨p2.2,p2.1,by rw[←ee,←e2],R.ky p2 hp2⟩
    ·refine wp_if_neg (by decide) ?_
     try refine wpAny_bind (wpAny_pure ?_)
     exact go
  ·have hpr':t.probe (fun i=>(es[i]?.map (·.1)).getD 0) h (st.getD (t.probeStart h))=some (.empty (way t.mask h N) none):=by
    have e2:way t.mask h N=(nth t.mask (uN t.mask h c) (N - c)).j:=by rw[jAt,asf hc]
    rw[hst,e2]
    exact hpr
   rw[hpr']
   dsimp only
   refine wpAny_pure (no fun hm=>?_)
   obtain⟨p0,m0,e0⟩:=aq8.mp hm
   obtain⟨i0,hi0,e1⟩:=List.getElem_of_mem m0
   have g0:L[i0]?=some p0:=by rw[aqY hi0,e1]
   obtain⟨d0,a1,a2,a3⟩:=left i0 p0 g0 e0
   exact hno (d0 - c) i0 (by omega) (by rw[jAt,asf a1];exact a3) ((hashOf i0 p0 g0).trans ((congrArg hf e0).trans hh))
theorem look(R:qH hf w s.heap a L es ep t){x:Addr}{r:Rw}(hx:RI s.heap r x)(hu:(ou P w).room A){Q:SetFound->Shared->Prop}(yes:r∈L.map Prod.snd->Q (.there none) s)
  (no:∀N,r∉L.map Prod.snd->way t.mask (hf r) N∉t.place.toList->(∀c,c < N->way t.mask (hf r) c∈t.place.toList)->Q (.free (way t.mask (hf r) N) false) s):wpAny (model P w) A (setSearch a (.ref x) (hf r) true) Q E s:=by
 have hfree:=R.free
 obtain⟨N,hN,out,inn⟩:=R.tab.first (by rw[aq7];omega) (hf r)
 have small:N < 100000:=by
  have:10 * SetTable.turns t.mask<=1420:=by
   unfold SetTable.turns
   rcases R.tab.mok with e|e|e <;> omega
  omega
 unfold setSearch
 refine seek R hx rfl hu hN out inn yes (fun hn=>no N hn out inn) 100000 0 none rfl (arK _) (by omega) fun i p g e=>?_
 have hi:(L.map fun p=>hf p.2)[i]?=some (hf r):=by
  rw[aq9,g,←e]
  rfl
 have hil:i < t.place.toList.length:=by
  have k1:=(aqX.mp g).1
  have k2:=R.tab.sz
  rw[aq7]at k2
  rw[arD]
  omega
 obtain⟨c,hc,ec⟩:=R.tab.before out hi (aqY hil)
 exact⟨c,arK _,hc,by rw[aqY hil,ec]⟩
end
section
variable{P:Program}{w:World}{A:Around}{E:Value->Shared->Prop}{s:Shared}{hf:Rw->Int}{a:Addr}{L:List Ent}{es:Array (Int×Value)}{ep:Nat}{t:SetTable}
theorem afE(L:List Ent)(n:Nat)(x:Addr)(r:Rw):ents hf (L.take n++(x,r)::L.drop n)=(ents hf L).take n++(hf r,Value.ref x)::(ents hf L).drop n:=by
 unfold ents
 rw[arC,aqZ,List.map_take,List.map_drop]
theorem range_all(L:List Ent):(List.range L.length).filterMap (fun i=>L[i]?)=L:=by
 have part:∀n,n<=L.length->(List.range n).filterMap (fun i=>L[i]?)=L.take n:=by
  intro n
  induction n with
  |zero=>exact fun _=>rfl
  |succ n ih=>
   intro hn
   rw[List.range_succ,List.filterMap_append,ih (by omega),List.take_add_one,aqY (show n < L.length by omega)]
   congr 1
   rw[List.filterMap_cons_some (aqY (show n < L.length by omega))]
   rfl
 rw[part _ (aro _),List.take_length]
theorem adw(h:es.toList=ents hf L){order:Array Nat}(hp:order.toList.Perm (List.range L.length)) :
  ∃M:List Ent,(order.filterMap (es[·]?)).toList=ents hf M/\M.Perm L/\(M.map fun p=>hf p.2)=order.toList.map fun i=>(es.map (·.1)).getD i 0:=by
 have inside:∀i∈order.toList,i < L.length:=fun i hi=>List.mem_range.mp (hp.mem_iff.mp hi)
 refine⟨order.toList.filterMap (fun i=>L[i]?),?_,?_,?_⟩
 ·have e1:(order.filterMap (es[·]?)).toList=order.toList.filterMap (fun i=>es[i]?):=by
   first | rw[Array.toList_filterMap] | simp
  rw[e1]
  unfold ents
  rw[List.map_filterMap]
  congr 1
  funext i
  rw[←arO,h]
  unfold ents
  rw[aq9]
 ·have:=hp.filterMap (fun i=>L[i]?)
  rw[range_all]at this
  exact this
 ·generalize order.toList=l at inside
  induction l with
  |nil=>rfl
  |cons i l ih=>
   have hi:=inside i aq1
   have e5:(es.map (·.1))[i]?=some (hf (L[i]).2):=by
    rw[Array.getElem?_map,M6 h (aqY hi)]
    rfl
   rw[List.filterMap_cons_some (aqY hi),aqZ,aqZ,ih fun j hj=>inside j (aq0 _ hj),Array.getD_eq_getD_getElem?,e5]
   rfl
theorem al5{o:Obj}(ho:s.heap.get? a=some o)(hex:o.ExactSet)(hd:o.data=.set es ep t)(he:es.toList=ents hf L)(hsz:t.place.size=es.size)(hdm:t.dummies=#[])(hfl:es.size<=t.mask)(nd:(L.map Prod.snd).Nodup)(ky:∀p∈L,RI s.heap p.2 p.1)(pl:t.plain=true)
  (ld:w.params.followText "set-order"=true∨t.led=true) (few:L.length<=76) {wanted M:Nat} (hw:SetTable.sizeAbove wanted - 1=M) (hM:MaskOk M) (hw2:SetTable.sizeAbove wanted<=128) (hn:L.length * 5 < M * 3) {Q:Unit->Shared->Prop}
  (q:∀h' K es' ep' t',Heap.SameBut a s.heap h'->qH hf w h' a K es' ep' t'->K.Perm L->Q () { s with heap:=h' }):wpAny (model P w) A (setRelay a wanted) Q E s:=by
 have len:=zJ he
 obtain⟨t',order,e,hp,T,em,el,epl,ed⟩:=relaid_ok t (hs:=es.map (·.1)) (wanted:=wanted) hw hM (by rw[Array.size_map,len];omega)
 rw[Array.size_map,len]at hp
 obtain⟨K,k1,k2,k3⟩:=adw he hp
 rw[←k3]at T
 have ks:(order.filterMap (es[·]?)).size=es.size:=by
  rw[zJ k1,k2.length_eq,len]
 rw[setRelay_eq]
 refine wpAny_bind (wpAny_setState_of ho hd (fits_of hsz hdm hfl) ?_)
 dsimp only
 refine wp_if_neg (by rw[sizeLine_eq];omega) ?_
 try refine wpAny_bind (wpAny_pure ?_)
 rw[e]
 dsimp only
 refine wpAny_bind ?_
 refine wp_if_neg (by rw[ks];simp) ?_
 try refine wpAny_bind (wpAny_pure ?_)
 refine wpAny_pure ?_
 dsimp only
 refine wpAny_storeSet_of ho hd ?_ (by rw[ks,len,sizeLine_eq];omega)
 have sb:Heap.SameBut a s.heap (s.heap.update a (Obj.putSet (order.filterMap (es[·]?)) t')):=Heap.SameBut.update ..
 refine q _ K (order.filterMap (es[·]?)) (ep+1) t' sb ⟨⟨_,store_at ho hd,⟨hex.1,hex.2.1,hex.2.2⟩,rfl⟩,k1,T,(k2.map Prod.snd).nodup_iff.mpr nd,fun p hp=>ZM (ky p (k2.mem_iff.mp hp)) ho hd sb,by rw[epl];exact pl,by rw[el];exact ld,?_,by rw[k2.length_eq];exact few⟩ k2
 rw[k2.length_eq,em]
 exact hn
theorem ait(R:qH hf w s.heap a L es ep t){x:Addr}{r:Rw}(hx:RI s.heap r x)(hu:(ou P w).room A)(hfew:r∉L.map Prod.snd->L.length+1<=76){Q:Bool->Shared->Prop}
  (q:∀b h' K es' ep' t',Heap.SameBut a s.heap h'->qH hf w h' a K es' ep' t'->(r∈L.map Prod.snd->K=L)->(r∉L.map Prod.snd->K.Perm ((x,r)::L))->Q b { s with heap:=h' }):wpAny (model P w) A (setAddHashed a (.ref x) (hf r)) Q E s:=by
 obtain⟨o,ho,hex,hd⟩:=R.ob
 have len:=zJ R.en
 have hfree:=R.free
 unfold setAddHashed
 refine wpAny_holding ?_
 rw[show(100000:Nat)=99999+1 from rfl,setAddHashedIn_succ]
 refine wpAny_bind (wpAny_setState_of ho hd R.fits ?_)
 dsimp only
 refine wp_if_neg (by simp[byScan,Value.scannable]) ?_
 try refine wpAny_bind (wpAny_pure ?_)
 refine wpAny_bind (look R hx hu (fun hm=>?_) fun N hm out inn=>?_)
 ·dsimp only
  exact wpAny_pure (q false s.heap L es ep t (Heap.SameBut.refl a s.heap) R (fun _=>rfl) fun z=>absurd hm z)
 have few1:=hfew hm
 dsimp only
 refine wpAny_bind (wpAny_setState_of ho hd R.fits ?_)
 dsimp only
 obtain⟨q1,q2,q3,q4,q5,q6,q7,q8,q9⟩:=R.tab.put out inn
 have pl1:(t.put (way t.mask (hf r) N)).1.plain=true:=by rw[q6];exact R.pl
 generalize hpt:t.put (way t.mask (hf r) N)=pt at q1 q3 q4 q5 q6 q7 q8 q9 pl1 ⊢
 obtain⟨t1,n⟩:=pt
 dsimp only at q1 q3 q4 q5 q6 q7 q8 q9 pl1 ⊢
 subst q1
 first
  |(refine wpAny_bind ?_;refine wp_if_pos pl1 ?_;refine(Jt hx).2 ?_)
  |refine wp_if_pos pl1 (wpAny_bind ((Jt hx).2 ?_))
 simp only[if_true]
 have ein:(SetTable.insertAt es (SetTable.below t.place (way t.mask (hf r) N)) (hf r,Value.ref x)).toList=ents hf (L.take (SetTable.below t.place (way t.mask (hf r) N))++(x,r)::L.drop (SetTable.below t.place (way t.mask (hf r) N))):=by
  rw[SetTable.toList_insertAt,afE,R.en]
 generalize hnn:SetTable.below t.place (way t.mask (hf r) N)=n at q2 q3 ein ⊢
 have pm:=put_perm L n (x,r)
 have hs1:(L.take n++(x,r)::L.drop n).map (fun p=>hf p.2)=(L.map fun p=>hf p.2).take n++hf r::(L.map fun p=>hf p.2).drop n:=by
  rw[arC,aqZ,List.map_take,List.map_drop]
 rw[←hs1]at q3
 have nd1:((L.take n++(x,r)::L.drop n).map Prod.snd).Nodup:=by
  refine(pm.map Prod.snd).nodup_iff.mpr ?_
  rw[aqZ]
  exact asi.mpr ⟨hm,R.nd⟩
 have len1:(SetTable.insertAt es n (hf r,Value.ref x)).size=L.length+1:=by
  rw[zJ ein,pm.length_eq]
  rfl
 generalize SetTable.insertAt es n (hf r,Value.ref x)=es1 at ein len1 ⊢
 have lenM:(L.take n++(x,r)::L.drop n).length=L.length+1:=pm.length_eq
 generalize L.take n++(x,r)::L.drop n=M at pm q3 nd1 ein lenM
 refine wpAny_bind (wpAny_storeSet_of ho hd ?_ (by rw[len1,sizeLine_eq];omega))
 have sb:Heap.SameBut a s.heap (s.heap.update a (Obj.putSet es1 t1)):=Heap.SameBut.update ..
 have ho1:=store_at (es':=es1) (t':=t1) ho hd
 generalize s.heap.update a (Obj.putSet es1 t1)=h1 at sb ho1 ⊢
 have ky1:∀p∈M,RI h1 p.2 p.1:=fun p hp=>by
  rcases ara.mp (pm.mem_iff.mp hp) with e|m
  ·rw[e];exact ZM hx ho hd sb
  ·exact ZM (R.ky p m) ho hd sb
 have ld1:w.params.followText "set-order"=true∨t1.led=true:=by rw[q5];exact R.ld
 have full:t1.tooFull=true↔(L.length+1) * 5 ≥ t1.mask * 3:=by
  unfold SetTable.tooFull
  rw[decide_eq_true_eq,q9,aq7]
 by_cases hfu:t1.tooFull=true
 ·first
   |(refine wpAny_bind ?_;refine wp_if_pos (by simp[hfu]) ?_)
   |(refine wp_if_pos (by simp[hfu]) ?_;refine wpAny_bind ?_)
  have over:=full.mp hfu
  rw[len]
  have psz:t1.place.size=es1.size:=by
   have:=q3.sz
   rw[aq7,lenM]at this
   rw[this,len1]
  have which:(t.mask=7/\L.length=4)∨(t.mask=31/\L.length=18):=by
   rcases R.tab.mok with e|e|e
   ·rw[q4,e]at over;rw[e]at hfree;exact Or.inl ⟨e,by omega⟩
   ·rw[q4,e]at over;rw[e]at hfree;exact Or.inr ⟨e,by omega⟩
   ·rw[q4,e]at over;omega
  have go:∀m,SetTable.sizeAbove (SetTable.grown (L.length+1)) - 1=m->MaskOk m->SetTable.sizeAbove (SetTable.grown (L.length+1))<=128->(L.length+1) * 5 < m * 3->
    wpAny (model P w) A (setRelay a (SetTable.grown (L.length+1))) (fun _ u=>wpAny (model P w) A (pure true) Q E u) E { s with heap:=h1 }:=fun m g1 g2 g3 g4=>
   al5 (s:={ s with heap:=h1 }) ho1 ⟨hex.1,hex.2.1,hex.2.2⟩ rfl ein psz q3.dm (by rw[len1,q4];rcases which with⟨e,e2⟩|⟨e,e2⟩ <;> omega) nd1 ky1 pl1 ld1 (by rw[lenM];exact few1) g1 g2 g3 (by rw[lenM];exact g4)
    fun h2 K es2 ep2 t2 sb2 R2 pm2=>wpAny_pure (q true h2 K es2 ep2 t2 (sb.trans sb2) R2 (fun z=>absurd z hm) fun _=>pm2.trans pm)
  rcases which with⟨_,e2⟩|⟨_,e2⟩
  ·exact go 31 (by rw[e2,size_20]) (.inr (.inl rfl)) (by rw[e2,size_20];decide) (by omega)
  ·exact go 127 (by rw[e2,size_76]) (.inr (.inr rfl)) (by rw[e2,size_76];decide) (by omega)
 ·first
   |refine wp_if_neg (by simp[hfu]) ?_
   |(refine wpAny_bind ?_;refine wp_if_neg (by simp[hfu]) ?_;refine wpAny_pure ?_)
  have under:¬(L.length+1) * 5 ≥ t1.mask * 3:=fun z=>hfu (full.mpr z)
  exact wpAny_pure (q true h1 M es1 (ep+1) t1 sb ⟨⟨_,ho1,⟨hex.1,hex.2.1,hex.2.2⟩,rfl⟩,ein,q3,nd1,ky1,pl1,ld1,by rw[lenM];omega,by rw[lenM];exact few1⟩ (fun z=>absurd z hm) fun _=>pm)
end
theorem CT{α:Type}[DecidableEq α]:∀(l D:List α),l.Nodup->(∀x∈l,x∈D)->l.length<=D.length
 |[],_,_,_=>arK _
 |x::l,D,hn,hs=>by
  obtain⟨h1,h2⟩:=asi.mp hn
  have mx:=hs x aq1
  have ih:=CT l (D.erase x) h2 fun y hy=>(List.mem_erase_of_ne (fun e=>h1 (by rw[←e];exact hy))).2 (hs y (aq0 _ hy))
  have e:=List.length_erase_of_mem mx
  have hp:=List.length_pos_of_mem mx
  rw[arb]
  omega
structure Has(ks:List Ent)(i:Nat)(L:List Ent):Prop where
 sub:∀p∈L,p∈ks.take i
 all:∀p∈ks.take i,p.2∈L.map Prod.snd
theorem Eh{α:Type}{l:List α}{i:Nat}{x:α}(h:l[i]?=some x):l.take (i+1)=l.take i++[x]:=by
 rw[List.take_add_one,h]
 rfl
theorem Has.next{ks L K:List Ent}{i:Nat}{x:Ent}(g:Has ks i L)(h:ks[i]?=some x)(h1:x.2∈L.map Prod.snd->K=L)(h2:x.2∉L.map Prod.snd->K.Perm (x::L)):Has ks (i+1) K:=by
 by_cases c:x.2∈L.map Prod.snd
 ·rw[h1 c]
  refine⟨fun p hp=>?_,fun p hp=>?_⟩
  ·rw[Eh h]
   exact arG _ (g.sub p hp)
  ·rw[Eh h]at hp
   rcases aq5.mp hp with m|m
   ·exact g.all p m
   ·rw[aq2.mp m]
    exact c
 ·have pm:=h2 c
  refine⟨fun p hp=>?_,fun p hp=>?_⟩
  ·rw[Eh h]
   rcases ara.mp (pm.mem_iff.mp hp) with e|m
   ·exact arH _ (aq2.mpr e)
   ·exact arG _ (g.sub p m)
  ·rw[(pm.map Prod.snd).mem_iff,aqZ]
   rw[Eh h]at hp
   rcases aq5.mp hp with m|m
   ·exact aq0 _ (g.all p m)
   ·rw[aq2.mp m]
    exact aq1
def Ae(w:World):Obj:={ cls:=.type "set",dict:=none,data:=.set #[] 0 (.fresh 0 0 (!w.params.followText "set-order")) }
section
variable{P:Program}{w:World}{A:Around}{E:Value->Shared->Prop}{s:Shared}{hf:Rw->Int}
theorem qH.stay{h h':Heap}{a:Addr}{L:List Ent}{es:Array (Int×Value)}{ep:Nat}{t:SetTable}(R:qH hf w h a L es ep t)(ha:∀o,h.get? a=some o->h'.get? a=some o)(hk:∀p∈L,RI h' p.2 p.1):qH hf w h' a L es ep t:=by
 obtain⟨o,ho,r⟩:=R.ob
 exact⟨⟨o,ha o ho,r⟩,R.en,R.tab,R.nd,hk,R.pl,R.ld,R.free,R.few⟩
theorem afv{h:Heap}{a:Addr}(ho:h.get? a=some (Ae w)):qH hf w h a [] #[] 0 (.fresh 0 0 (!w.params.followText "set-order")):=by
 refine⟨⟨_,ho,⟨rfl,rfl,rfl⟩,rfl⟩,rfl,⟨List.Pairwise.nil,rfl,rfl,.inl rfl,fun x hx=>(by cases hx),fun i h j hi=>(by simp at hi)⟩,List.nodup_nil,fun p hp=>(by cases hp),rfl,?_,(show 0 * 5 < 7 * 3 by decide),arK _⟩
 show _∨(!w.params.followText "set-order")=true
 cases w.params.followText "set-order"
 ·exact .inr rfl
 ·exact .inl rfl
theorem aib(hhf:∀r,(ou P w).hash r=hf r){I:Addr}{fp wr:List Addr}{G:Array GenState->Array GenState->Prop}{n:Nat}{Pv:Nat->Value->Prop}{St:Nat->Shared->Prop}{R:Result->Shared->Prop}(W:WalksS P w A.in1 I fp wr G n Pv St)(S:Addr)(hSf:S∉fp)(ks:List Ent)(hn:n=ks.length)
  (D:List Rw) (hD:D.length<=76) (hkD:∀p∈ks,p.2∈D) (hval:∀i v,Pv i v->∃p,ks[i]?=some p/\v=.ref p.1) (h0:Heap) (hk:∀p∈ks,RI h0 p.2 p.1) (hS0:h0.get? S=none) (hw0:∀b∈wr,h0.get? b=none) (hu:(ou P w).room A.in1) :
  ∀(m i:Nat) (s:Shared),n - i=m->i<=n->St i s->(∀b o,h0.get? b=some o->s.heap.get? b=some o)->(∃L es ep t,qH hf w s.heap S L es ep t/\Has ks i L)->
   (∀u L es ep t,Moved (S::wr) G s u->qH hf w u.heap S L es ep t->Has ks n L->(∀b o,h0.get? b=some o->u.heap.get? b=some o)->R (.ok (.ret .none)) u)->
   codeAny (model P w) A (.builtin "set.update.loop" ⟨[.ref S,.ref I],[]⟩) R s:=by
 have Sw:S∉wr:=fun h=>hSf (W.sub _ h)
 have wS:∀b∈wr,b∈S::wr:=fun b hb=>aq0 _ hb
 have old:∀{s u:Shared},Moved wr G s u->(∀b o,h0.get? b=some o->s.heap.get? b=some o)->∀b o,h0.get? b=some o->u.heap.get? b=some o:=fun hm hkp b o e=>hm.heap b o (fun hb=>by rw[hw0 b hb]at e;cases e) (hkp b o e)
 intro m
 induction m with
 |zero=>
  intro i s hm0 hi hst hkp ⟨L,es,ep,t,hS,g⟩ hR
  obtain rfl:i=n:=by omega
  refine codeAny_builtin PyProof.Rows.F.entry_set_update_loop ?_
  rw[Around.under_plainId PyProof.Rows.F.plain_set_update_loop _]
  refine wpAny_bind (W.done s _ _ hst fun u hm=>?_)
  have kept:=old hm hkp
  exact wpAny_pure (hR u L es ep t (hm.mono wS) (hS.stay (fun o e=>hm.heap S o Sw e) fun p hp=>Vj (hk p (arU (g.sub p hp))) kept) g kept)
 |succ m ih=>
  intro i s hm0 hi hst hkp ⟨L,es,ep,t,hS,g⟩ hR
  have hlt:i < n:=by omega
  refine codeAny_builtin PyProof.Rows.F.entry_set_update_loop ?_
  rw[Around.under_plainId PyProof.Rows.F.plain_set_update_loop _]
  refine wpAny_bind (W.item i s _ _ hlt hst fun v u hP hst' hm=>?_)
  obtain⟨p,hp,rfl⟩:=hval i v hP
  have kept:=old hm hkp
  have hS':qH hf w u.heap S L es ep t:=hS.stay (fun o e=>hm.heap S o Sw e) fun q hq=>Vj (hk q (arU (g.sub q hq))) kept
  have hx:RI u.heap p.2 p.1:=Vj (hk p (aq3 hp)) kept
  refine wpAny_bind (wpAny_holding ?_)
  unfold setAdd
  refine wpAny_holding ?_
  refine wpAny_bind ((ou P w).pyHash hu hx ?_)
  rw[hhf]
  have inD:∀y∈L.map Prod.snd,y∈D:=fun y hy=>by
   obtain⟨q,hq,e⟩:=aq8.mp hy
   rw[←e]
   exact hkD q (arU (g.sub q hq))
  refine ait (s:={ u with toks:=u.toks+(ou P w).draws p.2 }) hS' hx hu (fun hnew=>?_) fun b h' K es' ep' t' sb hS2 c1 c2=>?_
  ·have:=CT (p.2::L.map Prod.snd) D (asi.mpr ⟨hnew,hS.nd⟩) fun y hy=>by
    rcases ara.mp hy with e|hy
    ·rw[e];exact hkD p (aq3 hp)
    ·exact inD y hy
   rw[arb,aq7]at this
   omega
  have kept2:∀b o,h0.get? b=some o->h'.get? b=some o:=fun b o e=>(sb.2 b (fun z=>by rw[z,hS0]at e;cases e)).trans (kept b o e)
  refine wpAny_pure ⟨plainId_quiet PyProof.Rows.F.plain_set_update_loop _,ih (i+1) _ (by omega) hlt (W.frame _ u _ _ hst' (Nat.le_add_right _ _) fun b hb o e=>?_) kept2 ⟨K,es',ep',t',hS2,g.next hp c1 c2⟩ fun v L2 es2 ep2 t2 hm2 hS3 g3 k3=>?_⟩
  ·rw[sb.2 b (fun h:b=S=>hSf (by rw[←h];exact hb))];exact e
  ·refine hR v L2 es2 ep2 t2 (Moved.trans W.gtrans ((hm.mono wS).then_heap (Nat.le_add_right _ _) fun b o hb e=>?_) hm2) hS3 g3 k3
   rw[sb.2 b (fun h:b=S=>hb (by rw[h];exact aq1))];exact e
set_option maxHeartbeats 4000000 in
theorem aay(hhf:∀r,(ou P w).hash r=hf r){l:Addr}{items:Array Value}(ks:List Ent)(D:List Rw)(hD:D.length<=76)(hkD:∀p∈ks,p.2∈D){Q:Value->Shared->Prop}(hh:A.handled=none)(hl:s.heap.IsList l items)(hit:items.toList=ks.map fun p=>Value.ref p.1)
  (hk:∀p∈ks,RI s.heap p.2 p.1) (hu:A.units+3+8 < cLine)
  (h:∀(h':Heap) (tk:Nat) L es ep t,qH hf w h' s.heap.objs.size L es ep t->Has ks ks.length L->(∀b o,s.heap.get? b=some o->h'.get? b=some o)->Q (.ref s.heap.objs.size) { s with heap:=h',toks:=tk }) :
  wpAny (model P w) A (call (.type "set") [.ref l]) Q E s:=by
 have isz:items.size=ks.length:=by
  rw[←arD,hit,aq7]
 obtain⟨cc,tl,hmro⟩:=PySem.F.called_set.mro
 have hmade:=PySem.F.called_set.made
 have hsub:=PySem.F.called_set.sub
 refine wpAny_call (codeAny_of_tree ?_)
 show wpAny _ _ (callAny (.type "set") _) _ _ _
 refine wpAny_pure ⟨Code.quiet_builtin _ (by decide +kernel),codeAny_builtin PySem.F.entry_type_call ?_⟩
 rw[Around.under_plain (weight_type_call_type "set" [.ref l] []) rfl]
 have nt:=PySem.F.called_set.notType
 have cr:=PySem.F.called_set.canCreate
 have hct:=PySem.F.typeCall_set_1 (.ref l)
 (repeat (any_goals first | assumption | wp_step))
 refine codeAny_mono (code_set_led1 (.ref l) (E:=E) (Q₁:=fun v u=>v=.ref s.heap.objs.size/\u={ s with heap:=s.heap.push (Ae w) }) ⟨rfl,rfl⟩) fun r u hr=>?_
 cases r with
 |error e=>exact hr
 |ok fl=>
  cases fl with
  |ret v=>
   obtain⟨rfl,rfl⟩:=hr
   have hS:(s.heap.push (Ae w)).get? s.heap.objs.size=some (Ae w):=Heap.get?_push_size _ rfl
   have hT:Shared.TypeIs { s with heap:=s.heap.push (Ae w) } (.ref s.heap.objs.size) "set":=⟨_,hS,rfl⟩
   have hli:=PySem.F.called_set.init.lookup
   have hbi:=PySem.F.called_set.init.bind (.ref s.heap.objs.size)
   (repeat (any_goals first | assumption | wp_step))
   refine codeAny_mono (codeAny_call_builtin (R:=wants (fun r u=>r=.none/\∃h' tk L es ep t,u={ s with heap:=h',toks:=tk }/\qH hf w h' s.heap.objs.size L es ep t/\Has ks ks.length L/\∀b o,s.heap.get? b=some o->h'.get? b=some o) E) PySem.F.called_set.init.plain PySem.F.entry_set_init (check_set_init_1 hT ?_)) fun r₂ u₂ hr₂=>?_
   ·obtain⟨ol,hol,hcl,nl,hdl⟩:=hl
    obtain⟨ocls,odict,odata,oslots⟩:=ol
    simp only at hcl hdl
    subst hcl;subst hdl
    have hol':(s.heap.push (Ae w)).get? l=some { cls:=.type "list",dict:=odict,data:=.seq items nl,slots:=oslots }:=Heap.get?_push_of_some _ hol
    have sl1:=PySem.F.sub_list_set
    have sl2:=PySem.F.sub_list_frozenset
    have nd:(Value.type "list"==Value.type "dict")=false:=by decide
    have hl1:(s.heap.push (Ae w)).IsList l items:=⟨_,hol',rfl,nl,rfl⟩
    unfold Builtin.«set.__init__» noKeywords Builtin.Frozenset.updateFrom
    generalize hPI:pyIter=PI
    wp_walk
    subst hPI
    refine wpAny_pyIter_list hl1 ?_
    refine wpAny_bind (wpAny_runValue ?_)
    have lS:l < s.heap.objs.size:=Heap.lt_size hol
    have h3:A.in1.in1.in1.handled=none:=by simp[hh]
    have sz1:(s.heap.push (Ae w)).objs.size=s.heap.objs.size+1:=Heap.size_push ..
    have lI:l≠(s.heap.push (Ae w)).objs.size:=by rw[sz1];exact arE (arV lS)
    have Sf:s.heap.objs.size∉[(s.heap.push (Ae w)).objs.size,l]:=by
     rw[sz1]
     simp only[ara,arB,or_false,not_or]
     exact⟨arE (Nat.lt_succ_self _),Nat.ne_of_gt lS⟩
    have hval:∀(i:Nat) (v:Value),items[i]?=some v->∃p,ks[i]?=some p/\v=.ref p.1:=fun i v hv=>by
     rw[←arO,hit,aq9]at hv
     obtain⟨p,g1,g2⟩:=arF.mp hv
     exact⟨p,g1,g2.symm⟩
    have fresh:∀b,s.heap.objs.size<=b->s.heap.get? b=none:=fun b hb=>by
     cases q:s.heap.get? b with
     |none=>rfl
     |some o=>exact absurd (Heap.lt_size q) (Nat.not_lt_of_le hb)
    refine aib hhf ((Walks.list h3 _ l lI items).toS) s.heap.objs.size Sf ks isz D hD hkD hval s.heap hk (fresh _ (aro _)) (fun b hb=>fresh b (by rw[aq2.mp hb,sz1];exact Nat.le_succ _)) hu (items.size - 0) 0 _ (by omega) (arK _)
     ⟨⟨_,Heap.get?_push_size _ rfl,rfl,rfl⟩,(hl1.push _)⟩ (fun b o e=>Heap.get?_push_of_some _ (Heap.get?_push_of_some _ e)) ⟨[],#[],0,_,afv (Heap.get?_push_of_some _ hS),⟨fun p hp=>(by cases hp),fun p hp=>(by simp at hp)⟩⟩ fun u L es ep t hm hS' g' kp=>?_
    obtain⟨h',g2,d',tk',os'⟩:=u
    have eg:g2=s.gens:=hm.gens
    have ed:d'=s.drawn:=hm.drawn
    have eo:os'=s.os:=hm.os
    subst eg;subst ed;subst eo
    refine wpAny_pure ?_
    rw[isz]at g'
    exact wpAny_pure ⟨rfl,h',tk',L,es,ep,t,rfl,hS',g',kp⟩
   ·cases r₂ with
    |error e=>exact hr₂
    |ok fl₂=>
     cases fl₂ with
     |ret r=>
      obtain⟨rfl,h',tk,L,es,ep,t,rfl,hS',g',hk'⟩:=hr₂
      (repeat (any_goals first | assumption | wp_step))
      exact h _ _ _ _ _ _ hS' g' hk'
     |_=>exact hr₂.elim
  |_=>exact hr.elim
end
def acg(w:World)(h:Heap)(a:Addr)(L:List Ent):Prop:=∃(hf:Rw->Int) (es:Array (Int×Value)) (ep:Nat) (t:SetTable),(∃o,h.get? a=some o/\o.ExactSet/\o.data=.set es ep t)/\es.toList=ents hf L/\t.fits es.size=true/\Ris t.place.toList/\(w.params.followText "set-order"=true∨t.led=true)
def M4(w:World)(a:Addr)(L:List Ent):HO:=.ext fun h=>acg w h a L
section
variable{X:Cx}
theorem Wj{P:Program}{w:World}{h:Heap}:∀(l:List Int) (us:List Value),Vals (l.map V.int) us->NestedAll h (l.map .num) us
 |[],_,.nil=>.nil
 |i::l,_,.cons r t=>by
  obtain⟨tk,rfl⟩:=r
  exact .cons (.int i tk) (Wj (P:=P) (w:=w) l _ t)
theorem Vt:∀{ks:List Ent} {us:List Value},Vals (ks.map fun p=>V.ref p.1) us->us=ks.map fun p=>Value.ref p.1
 |[],_,.nil=>rfl
 |p::ks,_,.cons r t=>by
  cases r
  rw[Vt t]
  rfl
theorem WL{L:List Ent}:∀(out:List Value) (M:List Rw),PySem.W.EachIs (fun v (r:Rw)=>∃p∈L,v=Value.ref p.1/\r=p.2) out M->∃ys:List V,Vals ys out/\fB (fun v (r:Rw)=>∃p∈L,v=V.ref p.1/\r=p.2) ys M
 |[],[],.nil=>⟨[],.nil,fB.nil⟩
 |_::out,_::M,.cons ⟨p,hp,e1,e2⟩ k=>by
  obtain⟨ys,h1,h2⟩:=WL out M k
  subst e1 e2
  refine⟨.ref p.1::ys,.cons rfl h1,by rw[arb,arb,h2.1],fun j u y g1 g2=>?_⟩
  cases j with
  |zero=>
   cases g1
   cases g2
   exact⟨p,hp,rfl,rfl⟩
  |succ j=>exact h2.2 j u y g1 g2
end
def gF(da dc:Addr):List (Str×V):=putF ("circles" : Str) (.ref dc) (putF ("allowances" : Str) (.ref da) [])
structure ae2(C:Addr)(H:Hp)(p da dc:Addr)(al:List Int)(ci:List (List Int)):Prop where
 ob:∃dx,H p=some (.ins C dx (gF da dc))
 la:H da=some (.lst (al.map V.int))
 lc:∃us,H dc=some (.lst us)/\fB (Jf H) us ci
 ne:da≠dc
theorem ae2.mono{C:Addr}{H H':Hp}(e:Ex H H'){p da dc:Addr}{al:List Int}{ci:List (List Int)}(g:ae2 C H p da dc al ci):ae2 C H' p da dc al ci:=by
 obtain⟨⟨dx,ob⟩,la,⟨us,h1,h2⟩,ne⟩:=g
 exact⟨⟨dx,e _ _ ob⟩,e _ _ la,⟨us,e _ _ h1,h2.imp fun _ _ r=>r.mono e⟩,ne⟩
end Ear
namespace Rf
open PySem PySem.Spec PyProof.Rows L2 Evl
abbrev obj(h:Nat):Dat:=PyData.dict [(PyData.none,PyData.int (Int.ofNat h))]
inductive jr where
 |dat (d:Dat)|lst (n:Nat) (xs:List Dat)|dic (n:Bool) (kvs:List (Dat×Dat))
structure aR where
 f:Str->Option Addr
 fl:Str->List Str
 w:World
instance:CoeFun aR fun _=>Str->Option Addr:=⟨aR.f⟩
structure Inst where
 cls:Str
 fs:List (Str×jr)
abbrev Mo:=List Inst
inductive Cell where
 |dat (d:Dat)|mut (xs:List Dat)
abbrev Env:=List (Option Cell)
structure eE where
 cls:Str
 fs:List (Str×Dat)
inductive Out(α:Type) where
 |ok (a:α)|exc (x:eE)|bad
inductive aZ(α:Type) where
 |ok (a:α) (M:Mo)|exc (x:eE) (M:Mo)|bad
inductive u9 where
 |next (ρ:Env) (M:Mo)|ret (d:Dat) (M:Mo)|brk (ρ:Env) (M:Mo)|cont (ρ:Env) (M:Mo)|exc (x:eE) (ρ:Env) (M:Mo)|bad
structure Gh where
 tbl:List Addr
 ow:Addr->Option (Nat×Str)
 Lc:Addr->Prop
 Lo:Addr->Prop
def Gh.W(g:Gh)(a:Addr):Prop:=a∈g.tbl∨g.ow a≠none
def Gh.A(g:Gh)(a:Addr):Prop:=g.W a∨g.Lc a∨g.Lo a
def Iz:HO->Prop
 |.tup _=>False
 |.frz _ _=>False
 |_=>True
def amZ(K:aqV)(a:Addr)(xs:List V):Prop:=∃(o:Obj) (its:Array Value) (n:Nat),K.lookup a=some o/\o.cls=.type "list"/\o.dict=none/\o.data=.seq its n/\its.size<=sizeLine/\Vals xs its.toList
def Pj(K:aqV)(g:Gh)(H:Hp)(a:Addr)(xs:List V):Prop:=(Rd H a (.lst xs)/\¬g.A a)∨amZ K a xs
theorem Pj.sq{K:aqV}{g:Gh}{H:Hp}{a:Addr}{xs:List V}(h:Pj K g H a xs):SqL K H a xs:=h.elim (fun z=>.inl z.1) .inr
mutual
inductive Rep(K:aqV)(g:Gh)(H:Hp):V->Dat->Prop
 |non:Rep K g H .non .none
 |bl (b:Bool):Rep K g H (.bl b) (.bool b)
 |int (i:Int):Rep K g H (.int i) (.int i)
 |str (x:Str):Rep K g H (.str x) (.str x)
 |tup {a:Addr} {xs:List V} {ds:List Dat}:SqT K H a xs->aM K g H xs ds->Rep K g H (.ref a) (.tuple ds)
 |lst {a:Addr} {xs:List V} {ds:List Dat}:Pj K g H a xs->aM K g H xs ds->Rep K g H (.ref a) (.list ds)
 |obj {a:Addr} {h:Nat}:g.tbl[h]?=some a->Rep K g H (.ref a) (obj h)
inductive aM(K:aqV)(g:Gh)(H:Hp):List V->List Dat->Prop
 |nil:aM K g H [] []
 |cons {v:V} {vs:List V} {d:Dat} {ds:List Dat}:Rep K g H v d->aM K g H vs ds->aM K g H (v::vs) (d::ds)
end
structure Kd(g:Gh)(H:Hp):Prop where
 ob:∀a,g.A a->∃o,H a=some o/\Iz o
 lo:∀a,g.Lo a->¬g.W a
 lc:∀a,g.Lc a->¬g.W a/\¬g.Lo a
structure Gr(q:Bool)(g g':Gh)(H H':Hp):Prop where
 keep:∀a o,H a=some o->¬g.W a->¬g.Lo a->H' a=some o
 keepW:q=true->∀a o,H a=some o->g.W a->H' a=some o
 dom:∀a,H' a=none->H a=none
 tbl:∃more,g'.tbl=g.tbl++more
 W:∀a,g.W a->g'.W a
 nW:∀a,g'.W a->g.W a∨H a=none
 qg:q=true->g'.tbl=g.tbl/\g'.ow=g.ow
 Lc:g'.Lc=g.Lc
 Lo:∀a,g.Lo a->g'.Lo a
 nLo:∀a,g'.Lo a->g.Lo a∨H a=none
section
variable{K:aqV}{q:Bool}{g g' g2:Gh}{H H' H2:Hp}{v:V}{d:Dat}
theorem Gr.refl:Gr q g g H H:=⟨fun _ _ h _ _=>h,fun _ _ _ h _=>h,fun _ h=>h,⟨[],by simp⟩,fun _ h=>h,fun _ h=>.inl h,fun _=>⟨rfl,rfl⟩,rfl,fun _ h=>h,fun _ h=>.inl h⟩
theorem yr(e:Ex H H'):∀a,H' a=none->H a=none:=fun a h=>by
 cases h1:H a with
 |none=>rfl
 |some o=>
  rw[e a o h1]at h
  cases h
theorem Gr.ex(e:Ex H H'):Gr q g g H H':=⟨fun a o h _ _=>e a o h,fun _ a o h _=>e a o h,yr e,⟨[],by simp⟩,fun _ h=>h,fun _ h=>.inl h,fun _=>⟨rfl,rfl⟩,rfl,fun _ h=>h,fun _ h=>.inl h⟩
theorem Gr.trans(a:Gr q g g' H H')(b:Gr q g' g2 H' H2):Gr q g g2 H H2 where
 keep:=fun x o h nw nl=>by
  have h1:=a.keep x o h nw nl
  refine b.keep x o h1 (fun z=>?_) (fun z=>?_)
  ·rcases a.nW x z with z|z
   ·exact nw z
   ·rw[h]at z
    cases z
  ·rcases a.nLo x z with z|z
   ·exact nl z
   ·rw[h]at z
    cases z
 keepW:=fun hq x o h w=>b.keepW hq x o (a.keepW hq x o h w) (a.W x w)
 dom:=fun x h=>a.dom x (b.dom x h)
 tbl:=by
  obtain⟨m1,e1⟩:=a.tbl
  obtain⟨m2,e2⟩:=b.tbl
  exact⟨m1++m2,by rw[e2,e1,List.append_assoc]⟩
 W:=fun x h=>b.W x (a.W x h)
 nW:=fun x h=>by
  rcases b.nW x h with z|z
  ·exact a.nW x z
  ·exact .inr (a.dom x z)
 qg:=fun hq=>by
  obtain⟨e1,e2⟩:=a.qg hq
  obtain⟨f1,f2⟩:=b.qg hq
  exact⟨f1.trans e1,f2.trans e2⟩
 Lc:=b.Lc.trans a.Lc
 Lo:=fun x h=>b.Lo x (a.Lo x h)
 nLo:=fun x h=>by
  rcases b.nLo x h with z|z
  ·exact a.nLo x z
  ·exact .inr (a.dom x z)
theorem Gr.loud(a:Gr q g g' H H'):Gr false g g' H H':=⟨a.keep,(fun h=>nomatch h),a.dom,a.tbl,a.W,a.nW,(fun h=>nomatch h),a.Lc,a.Lo,a.nLo⟩
theorem Gr.nA(r:Gr q g g' H H'){a:Addr}{o:HO}(h:H a=some o)(n:¬g.A a):¬g'.A a:=fun z=>by
 rcases z with z|z|z
 ·rcases r.nW a z with z|z
  ·exact n (.inl z)
  ·rw[h]at z
   cases z
 ·rw[r.Lc]at z
  exact n (.inr (.inl z))
 ·rcases r.nLo a z with z|z
  ·exact n (.inr (.inr z))
  ·rw[h]at z
   cases z
theorem Gr.rd(r:Gr q g g' H H'){a:Addr}{o:HO}(h:Rd H a o)(n:¬g.A a):Rd H' a o/\¬g'.A a:=by
 rcases h with h|⟨z,h⟩
 ·exact⟨.inl (r.keep a _ h (fun w=>n (.inl w)) fun w=>n (.inr (.inr w))),r.nA h n⟩
 ·exact⟨.inr ⟨z,r.keep a _ h (fun w=>n (.inl w)) fun w=>n (.inr (.inr w))⟩,r.nA h n⟩
theorem Kd.tup(k:Kd g H){a:Addr}{xs:List V}(h:Rd H a (.tup xs)):¬g.A a:=fun z=>by
 obtain⟨o,e,m⟩:=k.ob a z
 rcases h with h|⟨y,h⟩ <;> (rw[h]at e;cases e;exact m)
theorem Gr.sqT(r:Gr q g g' H H')(k:Kd g H){a:Addr}{xs:List V}(h:SqT K H a xs):SqT K H' a xs:=by
 rcases h with h|h
 ·exact .inl (r.rd h (k.tup h)).1
 ·exact .inr h
theorem Gr.ls(r:Gr q g g' H H'){a:Addr}{xs:List V}(h:Pj K g H a xs):Pj K g' H' a xs:=by
 rcases h with⟨h,n⟩|h
 ·exact .inl (r.rd h n)
 ·exact .inr h
theorem Gr.tb(r:Gr q g g' H H'){h:Nat}{a:Addr}(e:g.tbl[h]?=some a):g'.tbl[h]?=some a:=by
 obtain⟨m,em⟩:=r.tbl
 rw[em,aq6 (aqX.mp e).1]
 exact e
mutual
theorem Rep.gr(r:Gr q g g' H H')(k:Kd g H):∀{v:V} {d:Dat},Rep K g H v d->Rep K g' H' v d
 |_,_,.non=>.non
 |_,_,.bl b=>.bl b
 |_,_,.int i=>.int i
 |_,_,.str x=>.str x
 |_,_,.tup h t=>.tup (r.sqT k h) (aM.gr r k t)
 |_,_,.lst h t=>.lst (r.ls h) (aM.gr r k t)
 |_,_,.obj h=>.obj (r.tb h)
theorem aM.gr(r:Gr q g g' H H')(k:Kd g H):∀{vs:List V} {ds:List Dat},aM K g H vs ds->aM K g' H' vs ds
 |_,_,.nil=>.nil
 |_,_,.cons h t=>.cons (Rep.gr r k h) (aM.gr r k t)
end
mutual
theorem Rep.less(e:g'.tbl=g.tbl)(n:∀a,g'.A a->g.A a):∀{v:V} {d:Dat},Rep K g H v d->Rep K g' H v d
 |_,_,.non=>.non
 |_,_,.bl b=>.bl b
 |_,_,.int i=>.int i
 |_,_,.str x=>.str x
 |_,_,.tup h t=>.tup h (aM.less e n t)
 |_,_,.lst h t=>.lst (h.elim (fun z=>.inl ⟨z.1,fun y=>z.2 (n _ y)⟩) .inr) (aM.less e n t)
 |_,_,.obj h=>.obj (by rw[e];exact h)
theorem aM.less(e:g'.tbl=g.tbl)(n:∀a,g'.A a->g.A a):∀{vs:List V} {ds:List Dat},aM K g H vs ds->aM K g' H vs ds
 |_,_,.nil=>.nil
 |_,_,.cons h t=>.cons (Rep.less e n h) (aM.less e n t)
end
mutual
def lf:Dat->Bool
 |.list _=>false
 |.tuple ds=>lfs ds
 |.dict _=>true
 |.none=>true
 |.bool _=>true
 |.int _=>true
 |.str _=>true
def lfs:List Dat->Bool
 |[]=>true
 |d::ds=>lf d&&lfs ds
end
mutual
theorem Rep.free(e:g'.tbl=g.tbl):∀{v:V} {d:Dat},lf d=true->Rep K g H v d->Rep K g' H v d
 |_,_,_,.non=>.non
 |_,_,_,.bl b=>.bl b
 |_,_,_,.int i=>.int i
 |_,_,_,.str x=>.str x
 |_,_,f,.tup h t=>.tup h (aM.free e (by rw[lf]at f;exact f) t)
 |_,_,f,.lst h t=>by rw[lf]at f;cases f
 |_,_,_,.obj h=>.obj (by rw[e];exact h)
theorem aM.free(e:g'.tbl=g.tbl):∀{vs:List V} {ds:List Dat},lfs ds=true->aM K g H vs ds->aM K g' H vs ds
 |_,_,_,.nil=>.nil
 |_,_,f,.cons h t=>.cons (Rep.free e (by rw[lfs,aqW]at f;exact f.1) h) (aM.free e (by rw[lfs,aqW]at f;exact f.2) t)
end
theorem aM.length:∀{vs:List V} {ds:List Dat},aM K g H vs ds->vs.length=ds.length
 |_,_,.nil=>rfl
 |_,_,.cons _ t=>congrArg (· + 1) t.length
theorem aM.get:∀{vs:List V} {ds:List Dat} {i:Nat} {d:Dat},aM K g H vs ds->ds[i]?=some d->∃v,vs[i]?=some v/\Rep K g H v d
 |_,_,_,_,.nil,e=>by simp at e
 |_,_,0,_,.cons h _,e=>by simp at e;subst e;exact⟨_,rfl,h⟩
 |_,_,i+1,_,.cons _ t,e=>by simpa using t.get (i:=i) (by simpa using e)
theorem aM.get':∀{vs:List V} {ds:List Dat} {i:Nat} {v:V},aM K g H vs ds->vs[i]?=some v->∃d,ds[i]?=some d/\Rep K g H v d
 |_,_,_,_,.nil,e=>by simp at e
 |_,_,0,_,.cons h _,e=>by simp at e;subst e;exact⟨_,rfl,h⟩
 |_,_,i+1,_,.cons _ t,e=>by simpa using t.get' (i:=i) (by simpa using e)
theorem aM.append:∀{vs ws:List V} {ds es:List Dat},aM K g H vs ds->aM K g H ws es->aM K g H (vs++ws) (ds++es)
 |_,_,_,_,.nil,t=>t
 |_,_,_,_,.cons h r,t=>.cons h (r.append t)
theorem aM.take:∀{vs:List V} {ds:List Dat} (n:Nat),aM K g H vs ds->aM K g H (vs.take n) (ds.take n)
 |_,_,0,_=>.nil
 |_,_,_+1,.nil=>.nil
 |_,_,n+1,.cons h t=>.cons h (t.take n)
theorem aM.drop:∀{vs:List V} {ds:List Dat} (n:Nat),aM K g H vs ds->aM K g H (vs.drop n) (ds.drop n)
 |_,_,0,t=>t
 |_,_,_+1,.nil=>.nil
 |_,_,n+1,.cons _ t=>t.drop n
theorem aM.set{v:V}{d:Dat}(r:Rep K g H v d):∀{vs:List V} {ds:List Dat} (i:Nat),aM K g H vs ds->aM K g H (vs.set i v) (ds.set i d)
 |_,_,_,.nil=>.nil
 |_,_,0,.cons _ t=>.cons r t
 |_,_,i+1,.cons h t=>.cons h (t.set r i)
theorem Gr.upd{l:Addr}{o o':HO}(k:Kd g H)(h:H l=some o)(w:(g.W l/\q=false)∨g.Lo l):Gr q g g H (L2.upd H l o') where
 keep:=fun a u e nw nl=>by
  rw[upd_ne (fun z=>by subst z;exact w.elim (fun w=>nw w.1) nl)]
  exact e
 keepW:=fun hq a u e wa=>by
  rcases w with w|w
  ·rw[hq]at w
   cases w.2
  ·rw[upd_ne (fun z=>by subst z;exact k.lo _ w wa)]
   exact e
 dom:=fun a e=>by
  by_cases z:a=l
  ·subst z
   rw[upd_same]at e
   cases e
  ·rw[upd_ne z]at e
   exact e
 tbl:=⟨[],by simp⟩
 W:=fun _ h=>h
 nW:=fun _ h=>.inl h
 qg:=fun _=>⟨rfl,rfl⟩
 Lc:=rfl
 Lo:=fun _ h=>h
 nLo:=fun _ h=>.inl h
theorem Kd.ex(k:Kd g H)(e:Ex H H'):Kd g H':=⟨fun a z=>let ⟨o,h,m⟩:=k.ob a z;⟨o,e a o h,m⟩,k.lo,k.lc⟩
theorem Kd.upd(k:Kd g H){l:Addr}{o:HO}(m:Iz o):Kd g (L2.upd H l o):=⟨fun a z=>by
 by_cases e:a=l
 ·subst e
  exact⟨o,upd_same,m⟩
 ·rw[upd_ne e]
  exact k.ob a z,k.lo,k.lc⟩
theorem Rep.ex(e:Ex H H')(k:Kd g H)(h:Rep K g H v d):Rep K g H' v d:=h.gr (Gr.ex (q:=true) e) k
theorem aM.ex{vs:List V}{ds:List Dat}(e:Ex H H')(k:Kd g H)(h:aM K g H vs ds):aM K g H' vs ds:=h.gr (Gr.ex (q:=true) e) k
end
def keyD:Key->Dat
 |.inl i=>.int i
 |.inr x=>.str x
def iT(l:Addr)(o:Obj):HO:=.ext fun h=>h.get? l=some o
abbrev m9:Type:=NestedKey×Addr×Value
def adQ(w:World)(x:m9):DictEntry:=⟨x.1.hash w,.ref x.2.1,x.2.2⟩
structure lK(w:World)(l:Addr)(o:Obj)(xs:List m9):Prop where
 sys:(l==sysModules)=false
 ex:o.ExactDict
 ent:∃es ep,o.data=.dict es ep/\es.toList=xs.map (adQ w)
 nd:(xs.map (·.1)).Nodup
 len:xs.length<=sizeLine
 dep:∀x∈xs,x.1.depth<=8
def jH(K:aqV)(aj:aR)(g:Gh)(H:Hp)(l:Addr):Bool->List (Dat×Dat)->Prop
 |false,kvs=>∃kv:List (Key×V),H l=some (.dK kv)/\kvs.map (·.1)=kv.map (fun p=>keyD p.1)/\aM K g H (kv.map (·.2)) (kvs.map (·.2))
 |true,kvs=>∃(o:Obj) (xs:List m9) (vs:List V),H l=some (iT l o)/\lK aj.w l o xs/\kvs.map (·.1)=xs.map (fun x=>x.1.data)/\aM K g H (xs.map fun x=>V.ref x.2.1) (kvs.map (·.1))/\Vals vs (xs.map (·.2.2))/\aM K g H vs (kvs.map (·.2))
def dZ(K:aqV)(aj:aR)(g:Gh)(H:Hp)(h:Nat)(f:Str)(v:V):jr->Prop
 |.dat d=>Rep K g H v d
 |.lst n xs=>∃l us,v=.ref l/\H l=some (.lst us)/\g.ow l=some (h,f)/\aM K g H us xs/\g.tbl[n]?=some l
 |.dic n kvs=>∃l,v=.ref l/\g.ow l=some (h,f)/\jH K aj g H l n kvs
inductive cM(K:aqV)(aj:aR)(g:Gh)(H:Hp)(h:Nat):List (Str×V)->List (Str×jr)->Prop
 |nil:cM K aj g H h [] []
 |cons {f:Str} {v:V} {fl:jr} {fs:List (Str×V)} {gs:List (Str×jr)}:dZ K aj g H h f v fl->cM K aj g H h fs gs->cM K aj g H h ((f,v)::fs) ((f,fl)::gs)
structure gj(K:aqV)(aj:aR)(g:Gh)(H:Hp)(M:Mo):Prop where
 len:g.tbl.length=M.length
 inj:∀(h k:Nat) (a:Addr),g.tbl[h]?=some a->g.tbl[k]?=some a->h=k
 ins:∀(h:Nat) (a:Addr) (i:Inst),g.tbl[h]?=some a->M[h]?=some i->i.cls≠""->∃C dx fs,aj i.cls=some C/\H a=some (.ins C dx fs)/\cM K aj g H h fs i.fs
 nd:∀(h:Nat) (i:Inst),M[h]?=some i->(i.fs.map (·.1)).Nodup
 fd:∀(h:Nat) (i:Inst),M[h]?=some i->∀f∈i.fs.map (·.1),f∈aj.fl i.cls
 tw:∀(h:Nat) (a:Addr) (i:Inst),g.tbl[h]?=some a->M[h]?=some i->i.cls≠""->g.ow a=none
 dm:∀(h:Nat) (i:Inst),M[h]?=some i->i.cls=""->i.fs=[]
 nc:aj ""=none
structure SInv(K:aqV)(aj:aR)(σ:L2.St)(H:Hp)(g:Gh)(ρ:Env)(M:Mo):Prop where
 kd:Kd g H
 wok:gj K aj g H M
 len:σ.length=ρ.length
 dat:∀(i:Nat) (d:Dat),ρ[i]?=some (some (.dat d))->∃v,σ[i]?=some (some v)/\Rep K g H v d
 own:∀(i:Nat) (xs:List Dat),ρ[i]?=some (some (.mut xs))->∃l us,σ[i]?=some (some (.ref l))/\H l=some (.lst us)/\g.Lo l/\aM K g H us xs
 sep:∀(i j:Nat) (xs ys:List Dat) (l:Addr),i≠j->ρ[i]?=some (some (.mut xs))->ρ[j]?=some (some (.mut ys))->σ[i]?=some (some (.ref l))->σ[j]?≠some (some (.ref l))
section
variable{K:aqV}{aj:aR}{q:Bool}{g g' g2:Gh}{H H' H2:Hp}{v:V}{d:Dat}{σ:L2.St}{ρ:Env}{M:Mo}
theorem jH.ex{l:Addr}:∀{n:Bool} {kvs:List (Dat×Dat)} (e:Ex H H') (k:Kd g H) (h:jH K aj g H l n kvs),jH K aj g H' l n kvs
 |false,_,e,k,⟨kv,h1,h2,h3⟩=>⟨kv,e _ _ h1,h2,h3.ex e k⟩
 |true,_,e,k,⟨o,xs,vs,h1,h2,h3,h4,h5,h6⟩=>⟨o,xs,vs,e _ _ h1,h2,h3,h4.ex e k,h5,h6.ex e k⟩
theorem dZ.ex{h:Nat}{f:Str}(e:Ex H H')(k:Kd g H):∀{fl:jr},dZ K aj g H h f v fl->dZ K aj g H' h f v fl
 |.dat _,r=>Rep.ex e k r
 |.lst _ _,⟨l,us,h1,h2,h3,h4,h5⟩=>⟨l,us,h1,e _ _ h2,h3,h4.ex e k,h5⟩
 |.dic _ _,⟨l,h1,h2,h3⟩=>⟨l,h1,h2,h3.ex e k⟩
theorem cM.ex{h:Nat}(e:Ex H H')(k:Kd g H):∀{fs:List (Str×V)} {gs:List (Str×jr)},cM K aj g H h fs gs->cM K aj g H' h fs gs
 |_,_,.nil=>.nil
 |_,_,.cons r t=>.cons (dZ.ex e k r) (cM.ex e k t)
theorem gj.ex(e:Ex H H')(k:Kd g H)(w:gj K aj g H M):gj K aj g H' M:=⟨w.len,w.inj,fun h a i ha hi hc=>by
 obtain⟨C,dx,fs,c1,c2,c3⟩:=w.ins h a i ha hi hc
 exact⟨C,dx,fs,c1,e _ _ c2,c3.ex e k⟩,w.nd,w.fd,w.tw,w.dm,w.nc⟩
theorem SInv.ex(e:Ex H H')(I:SInv K aj σ H g ρ M):SInv K aj σ H' g ρ M:=⟨I.kd.ex e,I.wok.ex e I.kd,I.len,fun i d h=>by
 obtain⟨v,h1,h2⟩:=I.dat i d h
 exact⟨v,h1,h2.ex e I.kd⟩,fun i xs h=>by
 obtain⟨l,us,h1,h2,h3,h4⟩:=I.own i xs h
 exact⟨l,us,h1,e _ _ h2,h3,h4.ex e I.kd⟩,I.sep⟩
theorem cM.get{h:Nat}{f:Str}{fl:jr}:∀{fs:List (Str×V)} {gs:List (Str×jr)},cM K aj g H h fs gs->gs.lookup f=some fl->∃v,fs.lookup f=some v/\dZ K aj g H h f v fl
 |_,_,.nil,e=>nomatch e
 |_,_,.cons (f:=f') (v:=v) (fl:=fl') r t,e=>by
  rw[aru]at e
  rw[aru]
  cases hb:f==f' with
  |true=>
   rw[hb]at e
   cases e
   have ef:f=f':=by simpa using hb
   subst ef
   exact⟨v,rfl,r⟩
  |false=>
   rw[hb]at e
   exact t.get e
theorem cM.no{h:Nat}{f:Str}:∀{fs:List (Str×V)} {gs:List (Str×jr)},cM K aj g H h fs gs->gs.lookup f=none->fs.lookup f=none
 |_,_,.nil,_=>rfl
 |_,_,.cons (f:=f') (v:=v) (fl:=fl') r t,e=>by
  rw[aru]at e
  rw[aru]
  cases hb:f==f' with
  |true=>
   rw[hb]at e
   cases e
  |false=>
   rw[hb]at e
   exact t.no e
end
def Out.bind{α β:Type}(o:Out α)(k:α->Out β):Out β:=
 match o with
 |.ok a=>k a
 |.exc x=>.exc x
 |.bad=>.bad
def Out.sat{α:Type}(o:Out α)(P:α->Prop)(E:eE->Prop):Prop:=
 match o with
 |.ok a=>P a
 |.exc x=>E x
 |.bad=>False
@[simp]theorem Out.zH {α β:Type} (a:α) (k:α->Out β):(Out.ok a).bind k=k a:=rfl
@[simp]theorem Out.afR {α β:Type} (x:eE) (k:α->Out β):(Out.exc x:Out α).bind k=.exc x:=rfl
@[simp]theorem Out.afB {α β:Type} (k:α->Out β):(Out.bad:Out α).bind k=.bad:=rfl
theorem Out.sat.bnd{α β:Type}{o:Out α}{k:α->Out β}{P:β->Prop}{E:eE->Prop}(h:(o.bind k).sat P E):o.sat (fun a=>(k a).sat P E) E:=by
 cases o <;> exact h
theorem Out.sat.mono{α:Type}{o:Out α}{P P':α->Prop}{E E':eE->Prop}(h:o.sat P E)(hp:∀a,P a->P' a)(he:∀x,E x->E' x):o.sat P' E':=by
 cases o
 ·exact hp _ h
 ·exact he _ h
 ·exact h
def Out.when{α:Type}(b:Bool)(o:Out α):Out α:=if b=true then o else .bad
@[simp]theorem Out.VF {α:Type} (o:Out α):Out.when true o=o:=rfl
@[simp]theorem Out.alC {α:Type} (o:Out α):Out.when false o=.bad:=rfl
theorem Out.sat.pC{α:Type}{b:Bool}{o:Out α}{P:α->Prop}{E:eE->Prop}(h:(Out.when b o).sat P E):b=true/\o.sat P E:=by
 cases b
 ·exact False.elim h
 ·exact⟨rfl,h⟩
inductive lF(K:aqV)(g:Gh)(H:Hp):List (Str×V)->List (Str×Dat)->Prop
 |nil:lF K g H [] []
 |cons {f:Str} {v:V} {d:Dat} {fs:List (Str×V)} {gs:List (Str×Dat)}:Rep K g H v d->lF K g H fs gs->lF K g H ((f,v)::fs) ((f,d)::gs)
def qO(K:aqV)(aj:aR)(g:Gh)(H:Hp)(x:eE)(c:Value)(dd:Option Addr):Prop:=
 ∃C,aj x.cls=some C/\c=.ref C/\((x.fs=[]/\dd=none)∨∃a fs,dd=some a/\H a=some (.xd fs)/\lF K g H fs x.fs)
abbrev QF:=Mo->Env->Out Dat
abbrev QT:=Mo->Env->Out Bool
abbrev QA:=Mo->Env->Out (List Dat)
section
variable(K:aqV)(aj:aR)(W:WX)
def qD(g:Gh)(H:Hp)(σ:L2.St)(x:eE):Prop:=∀H' c dd,Ex H H'->qO K aj g H' x c dd->W c dd σ H'
def tQ(f:QF):TE:=fun σ H Q=>∃g ρ M,SInv K aj σ H g ρ M/\(f M ρ).sat (fun d=>∀v H',Ex H H'->Rep K g H' v d->Q v H') (qD K aj W g H σ)
def jC(f:QT):TT:=fun σ H Q=>∃g ρ M,SInv K aj σ H g ρ M/\(f M ρ).sat (fun b=>∀H',Ex H H'->Q b H') (qD K aj W g H σ)
def Oh(f:QA):TA:=fun σ H Q=>∃g ρ M,SInv K aj σ H g ρ M/\(f M ρ).sat (fun ds=>∀vs H',Ex H H'->aM K g H' vs ds->Q vs H') (qD K aj W g H σ)
end
section
variable{K:aqV}{aj:aR}{W:WX}{g:Gh}{H H1:Hp}{σ:L2.St}{ρ:Env}{M:Mo}
theorem qD.ex{x:eE}(e:Ex H H1)(h:qD K aj W g H σ x):qD K aj W g H1 σ x:=fun H' c dd e' r=>h H' c dd (e.trans e') r
theorem tQ.go{f:QF}{k:Dat->Prop}{Q:VK}(I:SInv K aj σ H g ρ M)(h:(f M ρ).sat k (qD K aj W g H σ))(hk:∀d v H',k d->Ex H H'->Rep K g H' v d->Q v H'):tQ K aj W f σ H Q:=
 ⟨g,ρ,M,I,h.mono (fun d hd v H' e r=>hk d v H' hd e r) fun _ z=>z⟩
theorem jC.go{f:QT}{k:Bool->Prop}{Q:Bool->Hp->Prop}(I:SInv K aj σ H g ρ M)(h:(f M ρ).sat k (qD K aj W g H σ))(hk:∀b H',k b->Ex H H'->Q b H'):jC K aj W f σ H Q:=
 ⟨g,ρ,M,I,h.mono (fun d hd H' e=>hk d H' hd e) fun _ z=>z⟩
theorem Oh.go{f:QA}{k:List Dat->Prop}{Q:List V->Hp->Prop}(I:SInv K aj σ H g ρ M)(h:(f M ρ).sat k (qD K aj W g H σ))(hk:∀ds vs H',k ds->Ex H H'->aM K g H' vs ds->Q vs H'):Oh K aj W f σ H Q:=
 ⟨g,ρ,M,I,h.mono (fun d hd v H' e r=>hk d v H' hd e r) fun _ z=>z⟩
end
def QE(aj:aR)(X:Cx)(W:WX)(e:Expr)(f:QF):Prop:=PE X e (tQ X.K aj W f)
def tK(aj:aR)(X:Cx)(W:WX)(e:Expr)(f:QT):Prop:=PT X e (jC X.K aj W f)
def Hw(aj:aR)(X:Cx)(W:WX)(es:List Expr)(f:QA):Prop:=PA X es (Oh X.K aj W f)
theorem PE.weak{X:Cx}{e:Expr}{t t':TE}(h:PE X e t)(k:∀σ H Q,t' σ H Q->t σ H Q):PE X e t':=⟨fun pins s σ H Q I q=>h.run pins s σ H Q I (k σ H Q q)⟩
theorem PT.weak{X:Cx}{e:Expr}{t t':TT}(h:PT X e t)(k:∀σ H Q,t' σ H Q->t σ H Q):PT X e t':=⟨fun pins s σ H Q I q=>h.run pins s σ H Q I (k σ H Q q)⟩
theorem PA.weak{X:Cx}{e:List Expr}{t t':TA}(h:PA X e t)(k:∀σ H Q,t' σ H Q->t σ H Q):PA X e t':=⟨fun pos pins s σ H Q I q=>h.run pos pins s σ H Q I (k σ H Q q)⟩
def aq(i:Nat):QF:=fun _ ρ=>match ρ[i]? with
 |some (some (.dat d))=>.ok d
 |_=>.bad
def qC(d:Dat):QF:=fun _ _=>.ok d
def aA(o:Dat->Dat->Out Dat)(a b:QF):QF:=fun M ρ=>(a M ρ).bind fun x=>(b M ρ).bind fun y=>o x y
def dH(o:Dat->Out Dat)(a:QF):QF:=fun M ρ=>(a M ρ).bind o
def au:QA:=fun _ _=>.ok []
def ak(a:QF)(r:QA):QA:=fun M ρ=>(a M ρ).bind fun x=>(r M ρ).bind fun xs=>.ok (x::xs)
def bL(r:QA):QF:=fun M ρ=>(r M ρ).bind fun xs=>Out.when (decide (xs.length<=100000)) (.ok (.tuple xs))
def yE(r:QA):QF:=fun M ρ=>(r M ρ).bind fun xs=>Out.when (decide (xs.length<=100000)) (.ok (.list xs))
section
variable{X:Cx}{aj:aR}{W:WX}{a b:Expr}{fa fb:QF}{pos:Pos}
theorem ajg{i:Nat}{x:Str}(hN:X.N[i]?=some x)(hv:Vis X.env.scope x)(hd:(x==("__debug__" : Str))=false)(hcd:(x==("__classdict__" : Str))=false):QE aj X W (.Name x pos) (aq i):=
 PE.weak (pe_var hN hv hd hcd) fun σ H Q ⟨g,ρ,M,I,h⟩=>by
  unfold aq at h
  split at h
  ·next d e=>
   obtain⟨v,h1,h2⟩:=I.dat i d e
   exact⟨v,h1,h v H (Ex.refl H) h2⟩
  ·exact False.elim h
theorem akL{i:Int}{j:Nat}:QE aj X W (.Constant (.int i) j pos) (qC (.int i)):=PE.weak pe_int fun σ H Q ⟨g,ρ,M,I,h⟩=>h _ H (Ex.refl H) (.int i)
theorem aiB{x:Str}{j:Nat}:QE aj X W (.Constant (.str x) j pos) (qC (.str x)):=PE.weak pe_str fun σ H Q ⟨g,ρ,M,I,h⟩=>h _ H (Ex.refl H) (.str x)
theorem alS{x:Bool}{j:Nat}:QE aj X W (.Constant (.bool x) j pos) (qC (.bool x)):=PE.weak pe_bl fun σ H Q ⟨g,ρ,M,I,h⟩=>h _ H (Ex.refl H) (.bl x)
theorem aiC{j:Nat}:QE aj X W (.Constant .none j pos) (qC .none):=PE.weak pe_non fun σ H Q ⟨g,ρ,M,I,h⟩=>h _ H (Ex.refl H) .non
theorem ake:Hw aj X W [] au:=PA.weak pa_nil fun σ H Q ⟨g,ρ,M,I,h⟩=>h [] H (Ex.refl H) .nil
theorem ahV{es:List Expr}{fr:QA}(ha:QE aj X W a fa)(hr:Hw aj X W es fr)(hs:starEach (a::es) X.env=(false,eval a X.env)::starEach es X.env):Hw aj X W (a::es) (ak fa fr):=
 PA.weak (pa_cons ha hr hs) fun σ H Q ⟨g,ρ,M,I,h⟩=>by
  refine tQ.go I h.bnd fun d v H1 h1 e1 r1=>?_
  refine Oh.go (I.ex e1) (h1.bnd.mono (fun _ z=>z) fun _ z=>z.ex e1) fun ds vs H2 h2 e2 r2=>?_
  exact h2 (v::vs) H2 (e1.trans e2) (.cons (r1.ex e2 (I.kd.ex e1)) r2)
theorem ajA{es:List Expr}{fr:QA}{k:Nat}(h:Hw aj X W es fr):QE aj X W (.Tuple es k pos) (bL fr):=
 PE.weak (pe_tup h) fun σ H Q ⟨g,ρ,M,I,h⟩=>by
  refine Oh.go I h.bnd fun ds vs H1 h1 e1 r1=>?_
  obtain⟨hz,h1⟩:=h1.pC
  have hl:vs.length<=100000:=by
   rw[r1.length]
   exact of_decide_eq_true hz
  refine⟨sz_of hl,fun p np=>h1 (.ref p) _ (e1.trans (Ex.new np)) (.tup (st_of upd_same) (r1.ex (Ex.new np) (I.kd.ex e1)))⟩
theorem Kd.fresh{g:Gh}{H:Hp}(k:Kd g H){p:Addr}(n:H p=none):¬g.A p:=fun z=>by
 obtain⟨o,e,_⟩:=k.ob p z
 rw[n]at e
 cases e
theorem ajR{es:List Expr}{fr:QA}(h:Hw aj X W es fr):QE aj X W (.List es pos) (yE fr):=
 PE.weak (pe_lst h) fun σ H Q ⟨g,ρ,M,I,h⟩=>by
  refine Oh.go I h.bnd fun ds vs H1 h1 e1 r1=>?_
  obtain⟨hz,h1⟩:=h1.pC
  have hl:vs.length<=100000:=by
   rw[r1.length]
   exact of_decide_eq_true hz
  refine⟨sz_of hl,fun p np=>h1 (.ref p) _ (e1.trans (Ex.new np)) (.lst (.inl ⟨.inl upd_same,(I.kd.ex e1).fresh np⟩) (r1.ex (Ex.new np) (I.kd.ex e1)))⟩
end
def eG(K:aqV)(g:Gh)(H:Hp)(v:V):Dat->Prop
 |.list ds=>∃a us,v=.ref a/\SqL K H a us/\aM K g H us ds
 |d=>Rep K g H v d
section
variable{K:aqV}{g:Gh}{H H':Hp}{v:V}{d:Dat}
theorem Rep.weak(h:Rep K g H v d):eG K g H v d:=by
 cases h with
 |lst a t=>exact⟨_,_,rfl,a.sq,t⟩
 |non=>exact .non
 |bl b=>exact .bl b
 |int i=>exact .int i
 |str x=>exact .str x
 |tup a t=>exact .tup a t
 |obj a=>exact .obj a
theorem eG.ex(e:Ex H H')(k:Kd g H)(h:eG K g H v d):eG K g H' v d:=by
 cases d with
 |list ds=>
  obtain⟨a,us,h1,h2,h3⟩:=h
  exact⟨a,us,h1,ex_l e h2,h3.ex e k⟩
 |_=>exact Rep.ex e k h
theorem cH{i:Int}(h:eG K g H v (.int i)):v=.int i:=by cases h;rfl
theorem jZ{x:Str}(h:eG K g H v (.str x)):v=.str x:=by cases h;rfl
theorem DP{b:Bool}(h:eG K g H v (.bool b)):v=.bl b:=by cases h;rfl
theorem HD(h:eG K g H v .none):v=.non:=by cases h;rfl
theorem lC{ds:List Dat}(h:eG K g H v (.tuple ds)):∃a us,v=.ref a/\SqT K H a us/\aM K g H us ds:=by
 cases h with
 |tup a t=>exact⟨_,_,rfl,a,t⟩
theorem iU{ds:List Dat}(h:eG K g H v (.list ds)):∃a us,v=.ref a/\SqL K H a us/\aM K g H us ds:=h
theorem Km{n:Nat}(h:eG K g H v (obj n)):∃a,v=.ref a/\g.tbl[n]?=some a:=by
 cases h with
 |obj a=>exact⟨_,rfl,a⟩
end
section
variable(K:aqV)(aj:aR)(W:WX)
def tW(f:QF):TE:=fun σ H Q=>∃g ρ M,SInv K aj σ H g ρ M/\(f M ρ).sat (fun d=>∀v H',Ex H H'->eG K g H' v d->Q v H') (qD K aj W g H σ)
end
theorem tW.go{K:aqV}{aj:aR}{W:WX}{g:Gh}{H:Hp}{σ:L2.St}{ρ:Env}{M:Mo}{f:QF}{k:Dat->Prop}{Q:VK}(I:SInv K aj σ H g ρ M)(h:(f M ρ).sat k (qD K aj W g H σ))(hk:∀d v H',k d->Ex H H'->eG K g H' v d->Q v H'):tW K aj W f σ H Q:=
 ⟨g,ρ,M,I,h.mono (fun d hd v H' e r=>hk d v H' hd e r) fun _ z=>z⟩
def QW(aj:aR)(X:Cx)(W:WX)(e:Expr)(f:QF):Prop:=PE X e (tW X.K aj W f)
theorem QE.w{aj:aR}{X:Cx}{W:WX}{e:Expr}{f:QF}(h:QE aj X W e f):QW aj X W e f:=
 PE.weak h fun σ H Q ⟨g,ρ,M,I,z⟩=>⟨g,ρ,M,I,z.mono (fun _ k v H' e r=>k v H' e r.weak) fun _ y=>y⟩
def ao(i:Nat):QF:=fun _ ρ=>match ρ[i]? with
 |some (some (.dat d))=>.ok d
 |some (some (.mut xs))=>.ok (.list xs)
 |_=>.bad
def qw(aj:aR)(K:aqV)(W:WX)(o:Dat->Dat->Out Dat)(r:R2):Prop:=∀(σ:L2.St) (g:Gh) (H:Hp) (x y:V) (d e:Dat) (Q:VK),Kd g H->eG K g H x d->eG K g H y e->
 (o d e).sat (fun z=>∀v H',Ex H H'->Rep K g H' v z->Q v H') (qD K aj W g H σ)->r x y H Q
section
variable{X:Cx}{aj:aR}{W:WX}{a b c:Expr}{fa fb fc:QF}{pos:Pos}
theorem ajz{i:Nat}{x:Str}(hN:X.N[i]?=some x)(hv:Vis X.env.scope x)(hd:(x==("__debug__" : Str))=false)(hcd:(x==("__classdict__" : Str))=false):QW aj X W (.Name x pos) (ao i):=
 PE.weak (pe_var hN hv hd hcd) fun σ H Q ⟨g,ρ,M,I,h⟩=>by
  unfold ao at h
  split at h
  ·next d e=>
   obtain⟨v,h1,h2⟩:=I.dat i d e
   exact⟨v,h1,h v H (Ex.refl H) h2.weak⟩
  ·next xs e=>
   obtain⟨l,us,h1,h2,h3,h4⟩:=I.own i xs e
   exact⟨.ref l,h1,h _ H (Ex.refl H) ⟨l,us,rfl,sq_of h2,h4⟩⟩
  ·exact False.elim h
theorem QK{o:Dat->Dat->Out Dat}{r:R2}(ho:qw aj X.K W o r)(σ:L2.St)(H:Hp)(Q:VK)(h:tQ X.K aj W (aA o fa fb) σ H Q):tOp r (tW X.K aj W fa) (tW X.K aj W fb) σ H Q:=by
 obtain⟨g,ρ,M,I,h⟩:=h
 refine tW.go I h.bnd fun d v H1 h1 e1 r1=>?_
 refine tW.go (I.ex e1) (h1.bnd.mono (fun _ z=>z) fun _ z=>z.ex e1) fun d2 v2 H2 h2 e2 r2=>?_
 refine ho σ g H2 v v2 d d2 Q ((I.kd.ex e1).ex e2) (r1.ex e2 (I.kd.ex e1)) r2 (h2.mono (fun z hz u H' e' r'=>hz u H' ((e1.trans e2).trans e') r') fun _ z=>(z.ex e1).ex e2)
theorem akh{op:Operator}{r:R2}{o:Dat->Dat->Out Dat}(hr:OpR X (binaryOp op) r)(ho:qw aj X.K W o r)(ha:QW aj X W a fa)(hb:QW aj X W b fb):QE aj X W (.BinOp a op b pos) (aA o fa fb):=
 PE.weak (pe_op hr ha hb) fun σ H Q h=>QK ho σ H Q h
theorem agM{op:CmpOp}{r:R2}{o:Dat->Dat->Out Dat}(hr:OpR X (compareOp op) r)(ho:qw aj X.K W o r)(ha:QW aj X W a fa)(hb:QW aj X W b fb)(hm:behindInMarks op b=false):QE aj X W (.Compare a [op] [b] pos) (aA o fa fb):=
 PE.weak (pe_cmpR hr ha hb hm) fun σ H Q h=>QK ho σ H Q h
end
instance:DecidableRel CMul:=fun i j=>by unfold CMul;infer_instance
instance:DecidableRel CDiv:=fun i j=>by unfold CDiv;infer_instance
instance:DecidableRel CPow:=fun i j=>by unfold CPow;infer_instance
def gK:Dat->Dat->Out Dat
 |.int i,.int j=>.ok (.int (i+j))
 |.str x,.str y=>Out.when (decide (x.length+y.length<=100000)) (.ok (.str (x++y)))
 |.list xs,.list ys=>Out.when (decide (xs.length+ys.length<=100000)) (.ok (.list (xs++ys)))
 |.tuple xs,.tuple ys=>Out.when (decide (xs.length+ys.length<=100000)) (.ok (.tuple (xs++ys)))
 |_,_=>.bad
def pB:Dat->Dat->Out Dat
 |.int i,.int j=>.ok (.int (i - j))
 |_,_=>.bad
def Bv:Dat->Dat->Out Dat
 |.int i,.int j=>Out.when (decide (CMul i j)) (.ok (.int (i * j)))
 |_,_=>.bad
def zK:Dat->Dat->Out Dat
 |.int i,.int j=>Out.when (decide (CDiv i j)) (.ok (.int (i / j)))
 |_,_=>.bad
def jx:Dat->Dat->Out Dat
 |.int i,.int j=>Out.when (decide (0 < j)) (.ok (.int (i % j)))
 |_,_=>.bad
def Zr:Dat->Dat->Out Dat
 |.int i,.int j=>Out.when (decide (CPow i j)) (.ok (.int (i ^ j.toNat)))
 |_,_=>.bad
def rCatS(K:aqV):R2:=fun x y H Q=>∃l b xs zs,x=.ref l/\y=.ref b/\SqL K H l xs/\SqL K H b zs/\xs.length+zs.length<=sizeLine/\∀p,H p=none->Q (.ref p) (upd H p (.lst (xs++zs)))
theorem ahM{X:Cx}:OpR X (binaryOp .Add) (rCatS X.K):=by
 intro pins s σ H x y v u Q I rx ry h
 obtain⟨l,b,xs,zs,rfl,rfl,hH,hB,hz,q⟩:=h
 cases rx
 cases ry
 obtain⟨its,r,⟨⟨c1,d1,da1,s1⟩,n,e,hc,hd,hs⟩,_⟩:=I.list hH
 obtain⟨its2,r2,⟨⟨c2,d2,da2,s2⟩,n2,e2,hc2,hd2,hs2⟩,_⟩:=I.list hB
 simp only at hc hd hs hc2 hd2 hs2
 subst hc hd hs hc2 hd2 hs2
 have l1:=r.length
 have l2:=r2.length
 have ea:its.toArray++its2.toArray=(its++its2).toArray:=by simp
 refine concat_meets ⟨_,e,rfl⟩ ⟨_,e2,rfl⟩ noFill_list_add seq_list_add PySem.F.slot_list_add PySem.F.entry_list_add (PySem.F.args_list_add_2 _ _) (list_addW l b its.toArray its2.toArray n n2 none none s1 s2 (by rw[List.size_toArray,List.size_toArray];omega)) ⟨e,e2,?_⟩
 rw[ea]
 exact⟨.ref _,_,I.lnew (t':=s.toks) (r.append r2) (by rw[arP];omega),rfl,q _ I.fresh⟩
def agu(K:aqV):R2:=fun x y H Q=>rI0 (fun i j=>.int (i+j)) x y H Q∨(∃i j,x=.str i/\y=.str j/\i.length+j.length<=sizeLine/\Q (.str (i++j)) H)∨rCatS K x y H Q∨rCatA K x y H Q
theorem agF{X:Cx}:OpR X (binaryOp .Add) (agu X.K):=by
 intro pins s σ H x y v u Q I rx ry h
 rcases h with h|h|h|h
 ·exact op_add pins s σ H x y v u Q I rx ry h
 ·exact op_add_str pins s σ H x y v u Q I rx ry h
 ·exact ahM pins s σ H x y v u Q I rx ry h
 ·exact op_catA pins s σ H x y v u Q I rx ry h
section
variable{K:aqV}{aj:aR}{W:WX}
theorem ajM:qw aj K W gK (agu K):=fun σ g H x y d e Q k rx ry h=>by
 unfold gK at h
 split at h
 ·exact .inl ⟨_,_,cH rx,cH ry,h _ H (Ex.refl H) (.int _)⟩
 ·obtain⟨hz,h⟩:=h.pC
  exact .inr (.inl ⟨_,_,jZ rx,jZ ry,sz_of (of_decide_eq_true hz),h _ H (Ex.refl H) (.str _)⟩)
 ·obtain⟨hz,h⟩:=h.pC
  obtain⟨l,us,e1,s1,t1⟩:=iU rx
  obtain⟨l2,us2,e2,s2,t2⟩:=iU ry
  have hl:=of_decide_eq_true hz
  rw[←t1.length,←t2.length]at hl
  refine .inr (.inr (.inl ⟨l,l2,us,us2,e1,e2,s1,s2,sz_of hl,fun p np=>h _ _ (Ex.new np) (.lst (.inl ⟨.inl upd_same,k.fresh np⟩) ((t1.append t2).ex (Ex.new np) k))⟩))
 ·obtain⟨hz,h⟩:=h.pC
  obtain⟨l,us,e1,s1,t1⟩:=lC rx
  obtain⟨l2,us2,e2,s2,t2⟩:=lC ry
  have hl:=of_decide_eq_true hz
  rw[←t1.length,←t2.length]at hl
  refine .inr (.inr (.inr ⟨l,l2,us,us2,e1,e2,s1,s2,sz_of hl,fun z=>?_,fun _ z=>?_,fun _ _ p np=>h _ _ (Ex.new np) (.tup (st_of upd_same) ((t1.append t2).ex (Ex.new np) k))⟩))
  ·subst z
   cases t1
   exact h _ H (Ex.refl H) (.tup s2 t2)
  ·subst z
   cases t2
   rw[arM]at h
   exact h _ H (Ex.refl H) (.tup s1 t1)
 ·exact False.elim h
theorem aiJ:qw aj K W pB (rI0 fun i j=>.int (i - j)):=fun σ g H x y d e Q k rx ry h=>by
 unfold pB at h
 split at h
 ·exact⟨_,_,cH rx,cH ry,h _ H (Ex.refl H) (.int _)⟩
 ·exact False.elim h
theorem ajn:qw aj K W Bv (rI CMul fun i j=>.int (i * j)):=fun σ g H x y d e Q k rx ry h=>by
 unfold Bv at h
 split at h
 ·obtain⟨hz,h⟩:=h.pC
  exact⟨_,_,cH rx,cH ry,of_decide_eq_true hz,h _ H (Ex.refl H) (.int _)⟩
 ·exact False.elim h
theorem aj1:qw aj K W zK (rI CDiv fun i j=>.int (i / j)):=fun σ g H x y d e Q k rx ry h=>by
 unfold zK at h
 split at h
 ·obtain⟨hz,h⟩:=h.pC
  exact⟨_,_,cH rx,cH ry,of_decide_eq_true hz,h _ H (Ex.refl H) (.int _)⟩
 ·exact False.elim h
theorem ajB:qw aj K W jx (rI (fun _ j=>0 < j) fun i j=>.int (i % j)):=fun σ g H x y d e Q k rx ry h=>by
 unfold jx at h
 split at h
 ·obtain⟨hz,h⟩:=h.pC
  exact⟨_,_,cH rx,cH ry,of_decide_eq_true hz,h _ H (Ex.refl H) (.int _)⟩
 ·exact False.elim h
theorem aiA:qw aj K W Zr (rI CPow fun i j=>.int (i ^ j.toNat)):=fun σ g H x y d e Q k rx ry h=>by
 unfold Zr at h
 split at h
 ·obtain⟨hz,h⟩:=h.pC
  exact⟨_,_,cH rx,cH ry,of_decide_eq_true hz,h _ H (Ex.refl H) (.int _)⟩
 ·exact False.elim h
end
mutual
def okd:Nat->Dat->Bool
 |_,.none=>true
 |_,.bool _=>true
 |_,.int _=>true
 |_,.str x=>PyData.strOk x
 |n+1,.list ds=>jT n ds
 |n+1,.tuple ds=>jT n ds
 |0,.list _=>false
 |0,.tuple _=>false
 |_,.dict _=>false
def jT:Nat->List Dat->Bool
 |_,[]=>true
 |n,d::ds=>okd n d&&jT n ds
end
mutual
theorem Vi:∀(n:Nat) (d:Dat),okd n d=true->d.canLay0=true/\d.depth<=n
 |n,.none,_=>⟨by simp[PyData.canLay0],by simp[PyData.depth]⟩
 |n,.bool _,_=>⟨by simp[PyData.canLay0],by simp[PyData.depth]⟩
 |n,.int _,_=>⟨by simp[PyData.canLay0],by simp[PyData.depth]⟩
 |n,.str x,h=>⟨by rw[okd]at h;simp[PyData.canLay0,h],by simp[PyData.depth]⟩
 |n+1,.list ds,h=>by
  rw[okd]at h
  obtain⟨h1,h2⟩:=Qm n ds h
  exact⟨by simp[PyData.canLay0,h1],by simp[PyData.depth];omega⟩
 |n+1,.tuple ds,h=>by
  rw[okd]at h
  obtain⟨h1,h2⟩:=Qm n ds h
  exact⟨by simp[PyData.canLay0,h1],by simp[PyData.depth];omega⟩
 |0,.list _,h=>by rw[okd]at h;cases h
 |0,.tuple _,h=>by rw[okd]at h;cases h
 |n,.dict _,h=>by rw[okd]at h;cases h
theorem Qm:∀(n:Nat) (ds:List Dat),jT n ds=true->PyData.canLayAll0 ds=true/\PyData.depthAll ds<=n
 |n,[],_=>⟨by simp[PyData.canLayAll0],by simp[PyData.depthAll]⟩
 |n,d::ds,h=>by
  rw[jT,aqW]at h
  obtain⟨h1,h2⟩:=Vi n d h.1
  obtain⟨h3,h4⟩:=Qm n ds h.2
  exact⟨by simp[PyData.canLayAll0,h1,h3],by simp[PyData.depthAll];omega⟩
end
mutual
theorem Rep.dp{K:aqV}{g:Gh}{H:Hp}:∀{n:Nat} {v:V} {d:Dat},okd n d=true->Rep K g H v d->Dp K H v d
 |_,_,_,_,.non=>.non
 |_,_,_,_,.bl b=>.bl b
 |_,_,_,_,.int i=>.int i
 |_,_,_,_,.str x=>.str x
 |n+1,_,_,f,.tup h t=>.tup h (aM.dp (n:=n) (by rw[okd]at f;exact f) t)
 |n+1,_,_,f,.lst h t=>.lst h.sq (aM.dp (n:=n) (by rw[okd]at f;exact f) t)
 |0,_,_,f,.tup h t=>by rw[okd]at f;cases f
 |0,_,_,f,.lst h t=>by rw[okd]at f;cases f
 |_,_,_,f,.obj h=>by rw[okd]at f;cases f
theorem aM.dp{K:aqV}{g:Gh}{H:Hp}:∀{n:Nat} {vs:List V} {ds:List Dat},jT n ds=true->aM K g H vs ds->DpAll K H vs ds
 |_,_,_,_,.nil=>.nil
 |n,_,_,f,.cons h t=>.cons (Rep.dp (n:=n) (by rw[jT,aqW]at f;exact f.1) h) (aM.dp (n:=n) (by rw[jT,aqW]at f;exact f.2) t)
end
theorem eG.dp{K:aqV}{g:Gh}{H:Hp}{n:Nat}{v:V}{d:Dat}(f:okd n d=true)(h:eG K g H v d):Dp K H v d:=by
 cases d with
 |list ds=>
  obtain⟨a,us,rfl,h2,h3⟩:=h
  cases n with
  |zero=>rw[okd]at f;cases f
  |succ n=>
   rw[okd]at f
   exact .lst h2 (h3.dp f)
 |_=>exact Rep.dp f h
theorem Ce{n:Nat}{d:Dat}(h:okd n d=true)(hn:n<=64):SeqAt.shaped d=true:=by
 obtain⟨h1,h2⟩:=Vi n d h
 unfold SeqAt.shaped
 rw[h1,Bool.true_and]
 exact decide_eq_true (ars h2 hn)
def eqB:Dat->Dat->Out Bool
 |.int i,.int j=>.ok (i==j)
 |.str x,.str y=>.ok (x==y)
 |.bool x,.bool y=>.ok (x==y)
 |.none,.none=>.ok true
 |d,e=>Out.when (okd 12 d&&okd 12 e) (.ok (PyData.eqv d e))
def cG(d e:Dat):Out Dat:=(eqB d e).bind fun b=>.ok (.bool b)
def yO(d e:Dat):Out Dat:=(eqB d e).bind fun b=>.ok (.bool (!b))
def ajE(K:aqV):R2:=fun x y H Q=>rEq x y H Q∨rEqD K x y H Q
def aiL(K:aqV):R2:=fun x y H Q=>rNe x y H Q∨rNeD K x y H Q
theorem ajh{X:Cx}(hu:X.A.units+64 < cLine):OpR X (compareOp .Eq) (ajE X.K):=fun pins s σ H x y v u Q I rx ry h=>h.elim (fun h=>op_eq pins s σ H x y v u Q I rx ry h) (fun h=>op_eqD hu pins s σ H x y v u Q I rx ry h)
theorem akm{X:Cx}(hu:X.A.units+64 < cLine):OpR X (compareOp .NotEq) (aiL X.K):=fun pins s σ H x y v u Q I rx ry h=>h.elim (fun h=>op_ne pins s σ H x y v u Q I rx ry h) (fun h=>op_neD hu pins s σ H x y v u Q I rx ry h)
section
variable{K:aqV}{aj:aR}{W:WX}{g:Gh}{H:Hp}
theorem adZ{x y:V}{d e:Dat}{P:Bool->Prop}{E:eE->Prop}(rx:eG K g H x d)(ry:eG K g H y e)(h:(eqB d e).sat P E):(scal x y=true/\P (decide (x=y)))∨(∃d e,Dp K H x d/\Dp K H y e/\SeqAt.shaped d=true/\SeqAt.shaped e=true/\P (PyData.eqv d e)):=by
 unfold eqB at h
 split at h
 ·cases cH rx;cases cH ry
  rw[dec_int]
  exact .inl ⟨rfl,h⟩
 ·cases jZ rx;cases jZ ry
  rw[dec_str]
  exact .inl ⟨rfl,h⟩
 ·cases DP rx;cases DP ry
  rw[dec_bl]
  exact .inl ⟨rfl,h⟩
 ·cases HD rx;cases HD ry
  exact .inl ⟨rfl,h⟩
 ·obtain⟨hz,h⟩:=h.pC
  rw[aqW]at hz
  exact .inr ⟨_,_,rx.dp hz.1,ry.dp hz.2,Ce hz.1 (by decide),Ce hz.2 (by decide),h⟩
theorem als:qw aj K W cG (ajE K):=fun σ g H x y d e Q k rx ry h=>by
 rcases adZ rx ry h.bnd with⟨h1,h2⟩|⟨d,e,h1,h2,h3,h4,h5⟩
 ·exact .inl ⟨h1,h2 _ H (Ex.refl H) (.bl _)⟩
 ·exact .inr ⟨d,e,h1,h2,h3,h4,h5 _ H (Ex.refl H) (.bl _)⟩
theorem alM:qw aj K W yO (aiL K):=fun σ g H x y d e Q k rx ry h=>by
 rcases adZ rx ry h.bnd with⟨h1,h2⟩|⟨d,e,h1,h2,h3,h4,h5⟩
 ·exact .inl ⟨h1,h2 _ H (Ex.refl H) (.bl _)⟩
 ·exact .inr ⟨d,e,h1,h2,h3,h4,h5 _ H (Ex.refl H) (.bl _)⟩
end
def KZ:Dat->Dat->Out Dat
 |.int i,.int j=>.ok (.bool (decide (i < j)))
 |.tuple ds,.tuple es=>Out.when (okd 12 (.tuple ds)&&okd 12 (.tuple es)&&PySem.W.alike (.tuple ds) (.tuple es)) (.ok (.bool (PySem.W.dataLt (.tuple ds) (.tuple es))))
 |_,_=>.bad
def rG:Dat->Dat->Out Dat
 |.int i,.int j=>.ok (.bool (decide (i<=j)))
 |_,_=>.bad
def Wz:Dat->Dat->Out Dat
 |.int i,.int j=>.ok (.bool (decide (j < i)))
 |_,_=>.bad
def geD:Dat->Dat->Out Dat
 |.int i,.int j=>.ok (.bool (decide (j<=i)))
 |_,_=>.bad
def akP(K:aqV):R2:=fun x y H Q=>rI0 (fun i j=>.bl (decide (i < j))) x y H Q∨Ear.Ss K x y H Q
theorem ajI{X:Cx}(hu:X.A.units+65 < cLine):OpR X (compareOp .Lt) (akP X.K):=fun pins s σ H x y v u Q I rx ry h=>h.elim (fun h=>op_lt pins s σ H x y v u Q I rx ry h) (fun h=>Ear.afg hu pins s σ H x y v u Q I rx ry h)
section
variable{K:aqV}{aj:aR}{W:WX}{g:Gh}{H:Hp}
theorem alu:qw aj K W KZ (akP K):=fun σ g H x y d e Q k rx ry h=>by
 unfold KZ at h
 split at h
 ·exact .inl ⟨_,_,cH rx,cH ry,h _ H (Ex.refl H) (.bl _)⟩
 ·obtain⟨hz,h⟩:=h.pC
  simp only[aqW]at hz
  refine .inr ?_
  unfold Ear.Ss
  exact⟨_,_,rx.dp hz.1.1,ry.dp hz.1.2,hz.2,(fun z=>nomatch z),ars (Vi _ _ hz.1.1).2 (by decide),h _ H (Ex.refl H) (.bl _)⟩
 ·exact False.elim h
theorem alD:qw aj K W rG (rI0 fun i j=>.bl (decide (i<=j))):=fun σ g H x y d e Q k rx ry h=>by
 unfold rG at h
 split at h
 ·exact⟨_,_,cH rx,cH ry,h _ H (Ex.refl H) (.bl _)⟩
 ·exact False.elim h
theorem alv:qw aj K W Wz (rI0 fun i j=>.bl (decide (j < i))):=fun σ g H x y d e Q k rx ry h=>by
 unfold Wz at h
 split at h
 ·exact⟨_,_,cH rx,cH ry,h _ H (Ex.refl H) (.bl _)⟩
 ·exact False.elim h
theorem alk:qw aj K W geD (rI0 fun i j=>.bl (decide (j<=i))):=fun σ g H x y d e Q k rx ry h=>by
 unfold geD at h
 split at h
 ·exact⟨_,_,cH rx,cH ry,h _ H (Ex.refl H) (.bl _)⟩
 ·exact False.elim h
end
def pA(c:Dat):Dat->Bool
 |.none=>match c with
  |.none=>true
  |_=>false
 |.bool b=>match c with
  |.bool b'=>b==b'
  |_=>false
 |_=>false
def scD:Dat->Option V
 |.none=>some .non
 |.bool b=>some (.bl b)
 |_=>none
theorem aa6{K:aqV}{g:Gh}{H:Hp}{x:V}{d c:Dat}{v:V}(h:eG K g H x d)(hc:scD c=some v):decide (x=v)=pA c d:=by
 cases c with
 |none=>
  cases hc
  cases d with
  |none=>cases HD h;rfl
  |bool b=>cases DP h;rfl
  |int b=>cases cH h;rfl
  |str b=>cases jZ h;rfl
  |list b=>obtain⟨a,us,rfl,_⟩:=iU h;rfl
  |tuple b=>obtain⟨a,us,rfl,_⟩:=lC h;rfl
  |dict b=>cases h;rfl
 |bool c=>
  cases hc
  cases d with
  |none=>cases HD h;rfl
  |bool b=>cases DP h;exact dec_bl
  |int b=>cases cH h;rfl
  |str b=>cases jZ h;rfl
  |list b=>obtain⟨a,us,rfl,_⟩:=iU h;rfl
  |tuple b=>obtain⟨a,us,rfl,_⟩:=lC h;rfl
  |dict b=>cases h;rfl
 |_=>cases hc
def YL(neg:Bool)(v:V):R2:=fun x y H Q=>y=v/\Q (.bl (neg ^^ decide (x=v))) H
theorem aeh{x v:V}{u w:Value}(hv:v=.non∨∃b,v=.bl b)(rx:RelV x u)(rv:RelV v w):(u==w)=decide (x=v):=by
 rcases hv with rfl|⟨b,rfl⟩
 ·cases rv
  exact rx.none_iff
 ·cases rv
  rw[ar0,beq_iff_eq,decide_eq_true_eq]
  constructor
  ·rintro rfl
   cases x with
   |bl c=>cases rx;rfl
   |non=>cases rx
   |ref _=>cases rx
   |ty _=>cases rx
   |_=>obtain⟨t,z⟩:=rx;cases z
  ·rintro rfl
   exact rx
theorem Vn{x v:V}{u w:Value}(hv:v=.non∨∃b,v=.bl b)(rx:RelV x u)(rv:RelV v w):plainIs u w=true:=by
 rcases hv with rfl | ⟨b,rfl⟩ <;> (cases rv;cases x <;> first | (cases rx;rfl) | (obtain⟨t,rfl⟩:=rx;rfl))
theorem aj8{X:Cx}{v:V}(hv:v=.non∨∃b,v=.bl b):OpR X (compareOp .Is) (YL false v):=by
 intro pins s σ H x y u w Q I rx ry h
 obtain⟨rfl,q⟩:=h
 refine wpAny_is_plain (Vn hv rx ry) ?_
 rw[aeh hv rx ry]
 rw[Bool.false_xor]at q
 exact⟨.bl _,H,I,rfl,q⟩
theorem adg{X:Cx}{v:V}(hv:v=.non∨∃b,v=.bl b):OpR X (compareOp .IsNot) (YL true v):=by
 intro pins s σ H x y u w Q I rx ry h
 obtain⟨rfl,q⟩:=h
 refine wpAny_isNot_plain (Vn hv rx ry) ?_
 rw[aeh hv rx ry]
 rw[Bool.true_xor]at q
 exact⟨.bl _,H,I,rfl,q⟩
def yw(neg:Bool)(c:Dat)(a:QF):QF:=fun M ρ=>(a M ρ).bind fun d=>.ok (.bool (neg ^^ pA c d))
section
variable{X:Cx}{aj:aR}{W:WX}{a b c:Expr}{fa fb fc:QF}{pos:Pos}
theorem alJ{op:CmpOp}{neg:Bool}{d:Dat}{v:V}(hc:scD d=some v)(hr:OpR X (compareOp op) (YL neg v))(ha:QW aj X W a fa)(hb:PE X b (tC v))(hm:behindInMarks op b=false):QE aj X W (.Compare a [op] [b] pos) (yw neg d fa):=
 PE.weak (pe_cmpR hr ha hb hm) fun σ H Q ⟨g,ρ,M,I,h⟩=>by
  refine tW.go I h.bnd fun e x H1 h1 e1 r1=>?_
  refine⟨rfl,?_⟩
  rw[aa6 r1 hc]
  exact h1 _ H1 e1 (.bl _)
end
def R3:Dat->Bool
 |.none=>true
 |.bool _=>true
 |.int _=>true
 |.str _=>true
 |_=>false
def inB:Dat->Dat->Out Bool
 |d,.list ds=>Out.when (okd 12 d&&jT 12 ds) (.ok (ds.any fun z=>PyData.eqv z d))
 |d,.tuple ds=>Out.when (R3 d&&ds.all R3) (.ok (ds.any fun z=>PyData.eqv z d))
 |.str x,.str z=>match x.cps.toList with
  |[c]=>.ok (decide (c∈z.cps.toList))
  |_=>.bad
 |_,_=>.bad
def inD(neg:Bool)(d e:Dat):Out Dat:=(inB d e).bind fun b=>.ok (.bool (neg ^^ b))
section
variable{K:aqV}{g:Gh}{H:Hp}
theorem Zy{v:V}{d:Dat}(f:R3 d=true)(h:Rep K g H v d):flatV v=true:=by
 cases h with
 |tup _ _=>cases f
 |lst _ _=>cases f
 |obj _=>cases f
 |_=>rfl
theorem Wq:∀{vs:List V} {ds:List Dat},ds.all R3=true->aM K g H vs ds->vs.all flatV=true
 |_,_,_,.nil=>rfl
 |_,_,f,.cons h t=>by
  rw[arJ,aqW]at f
  rw[arJ,Zy f.1 h,Wq f.2 t]
  rfl
theorem ain{v w:V}{d e:Dat}(f1:R3 d=true)(f2:R3 e=true)(h1:Rep K g H v d)(h2:Rep K g H w e):eqV v w=PyData.eqv d e:=by
 cases h1 with
 |tup _ _=>cases f1
 |lst _ _=>cases f1
 |obj _=>cases f1
 |non=>cases h2 with
  |tup _ _=>cases f2
  |lst _ _=>cases f2
  |obj _=>cases f2
  |_=>simp[eqV,PyData.eqv]
 |bl b=>cases h2 with
  |tup _ _=>cases f2
  |lst _ _=>cases f2
  |obj _=>cases f2
  |_=>simp[eqV,PyData.eqv]
 |int b=>cases h2 with
  |tup _ _=>cases f2
  |lst _ _=>cases f2
  |obj _=>cases f2
  |_=>simp[eqV,PyData.eqv]
 |str b=>cases h2 with
  |tup _ _=>cases f2
  |lst _ _=>cases f2
  |obj _=>cases f2
  |_=>simp[eqV,PyData.eqv]
theorem aa8{w:V}{e:Dat}(f2:R3 e=true)(h2:Rep K g H w e):∀{vs:List V} {ds:List Dat},ds.all R3=true->aM K g H vs ds->inV w vs=ds.any fun z=>PyData.eqv z e
 |_,_,_,.nil=>rfl
 |v::vs,d::ds,f,.cons h t=>by
  rw[arJ,aqW]at f
  have ih:=aa8 f2 h2 f.2 t
  unfold inV at ih ⊢
  rw[arX,arX,ih,ain f.1 f2 h h2]
theorem aha{v:V}{d:Dat}(f:R3 d=true)(h:eG K g H v d):Rep K g H v d:=by
 cases d with
 |list _=>cases f
 |_=>exact h
end
def Ze(K:aqV)(neg:Bool):R2:=fun x y H Q=>(∃d ds,Dp K H x d/\Dp K H y (.list ds)/\SeqAt.shaped d=true/\SeqAt.shaped (.list ds)=true/\Q (.bl (neg ^^ (ds.any fun z=>PyData.eqv z d))) H)∨
 (∃p xs,y=.ref p/\(SqL K H p xs∨SqT K H p xs)/\flatV x=true/\xs.all flatV=true/\Q (.bl (neg ^^ inV x xs)) H)∨∃(c:Nat) (z:Str),x=.str ⟨#[c]⟩/\y=.str z/\Q (.bl (neg ^^ decide (c∈z.cps.toList))) H
theorem ai6{X:Cx}(hu:X.A.units+65 < cLine):OpR X (compareOp .In) (Ze X.K false):=fun pins s σ H x y v u Q I rx ry h=>by
 unfold Ze at h
 simp only[Bool.false_xor]at h
 rcases h with⟨d,ds,h⟩|⟨p,xs,h⟩|h
 ·exact op_inD hu pins s σ H x y v u Q I rx ry ⟨d,ds,h⟩
 ·exact op_in_seq pins s σ H x y v u Q I rx ry ⟨p,xs,h⟩
 ·exact op_in_sign pins s σ H x y v u Q I rx ry h
theorem aeN{X:Cx}(hu:X.A.units+65 < cLine):OpR X (compareOp .NotIn) (Ze X.K true):=fun pins s σ H x y v u Q I rx ry h=>by
 unfold Ze at h
 simp only[Bool.true_xor]at h
 rcases h with⟨d,ds,h⟩|⟨p,xs,h⟩|h
 ·exact op_notInD hu pins s σ H x y v u Q I rx ry ⟨d,ds,h⟩
 ·exact op_notIn_seq pins s σ H x y v u Q I rx ry ⟨p,xs,h⟩
 ·exact op_notIn_sign pins s σ H x y v u Q I rx ry h
theorem af8{K:aqV}{aj:aR}{W:WX}{neg:Bool}:qw aj K W (inD neg) (Ze K neg):=fun σ g H x y d e Q k rx ry h=>by
 replace h:=Out.sat.bnd h
 unfold inB at h
 split at h
 ·next ds=>
  obtain⟨hz,h⟩:=h.pC
  rw[aqW]at hz
  have e2:okd 13 (.list ds)=true:=by rw[okd];exact hz.2
  exact .inl ⟨_,ds,rx.dp hz.1,ry.dp e2,Ce hz.1 (by decide),Ce e2 (by decide),h _ H (Ex.refl H) (.bl _)⟩
 ·next ds=>
  obtain⟨hz,h⟩:=h.pC
  rw[aqW]at hz
  obtain⟨p,us,rfl,h1,h2⟩:=lC ry
  have rx':=aha hz.1 rx
  refine .inr (.inl ⟨p,us,rfl,.inr h1,Zy hz.1 rx',Wq hz.2 h2,?_⟩)
  rw[aa8 hz.1 rx' hz.2 h2]
  exact h _ H (Ex.refl H) (.bl _)
 ·next xs z=>
  split at h
  ·next c e=>
   refine .inr (.inr ⟨c,z,?_,jZ ry,h _ H (Ex.refl H) (.bl _)⟩)
   rw[jZ rx]
   congr 1
   have:xs.cps=#[c]:=by
    apply Array.toList_inj.mp
    rw[e]
   cases xs
   simp only at this
   rw[this]
  ·exact False.elim h
 ·exact False.elim h
def Vd:Dat->Out Dat
 |.int i=>.ok (.int (-i))
 |_=>.bad
def Jv:Dat->Out Bool
 |.none=>.ok false
 |.bool b=>.ok b
 |.int i=>.ok (i != 0)
 |.str x=>Out.when (decide (x.length<=100000)) (.ok (!x.cps.toList.isEmpty))
 |.list ds=>.ok (!ds.isEmpty)
 |.tuple ds=>.ok (!ds.isEmpty)
 |_=>.bad
def gG(a:QF):QT:=fun M ρ=>(a M ρ).bind Jv
def BP:Dat->Out Bool
 |.bool b=>.ok b
 |_=>.bad
def bA(a:QF):QT:=fun M ρ=>(a M ρ).bind BP
def jy(a:QT):QT:=fun M ρ=>(a M ρ).bind fun b=>.ok (!b)
def jV(a b:QT):QT:=fun M ρ=>(a M ρ).bind fun x=>if x=true then b M ρ else .ok false
def Ml(a b:QT):QT:=fun M ρ=>(a M ρ).bind fun x=>if x=true then .ok true else b M ρ
def Vx(a:QT):QF:=fun M ρ=>(a M ρ).bind fun b=>.ok (.bool b)
def Qy(t:QT)(a b:QF):QF:=fun M ρ=>(t M ρ).bind fun x=>if x=true then a M ρ else b M ρ
theorem RB{K:aqV}{g:Gh}{H:Hp}{us:List V}{ds:List Dat}(h:aM K g H us ds):(!ds.isEmpty)=!us.isEmpty:=by cases h <;> rfl
section
variable{X:Cx}{aj:aR}{W:WX}{a b c:Expr}{fa fb fc:QF}{ta tb:QT}{pos:Pos}
theorem ajP(ha:QW aj X W a fa):QE aj X W (.UnaryOp .USub a pos) (dH Vd fa):=
 PE.weak (pe_un un_neg ha) fun σ H Q ⟨g,ρ,M,I,h⟩=>by
  refine tW.go I h.bnd fun d v H1 h1 e1 r1=>?_
  unfold Vd at h1
  split at h1
  ·exact⟨_,cH r1,h1 _ H1 e1 (.int _)⟩
  ·exact False.elim h1
theorem aj6{g:Gh}{H:Hp}{v:V}{d:Dat}{P:Bool->Prop}{E:eE->Prop}(r:eG X.K g H v d)(h:(Jv d).sat P E):∃k,TruV X.K v H k/\P k:=by
 unfold Jv at h
 split at h
 ·cases HD r;exact⟨_,rfl,h⟩
 ·cases DP r;exact⟨_,rfl,h⟩
 ·cases cH r;exact⟨_,rfl,h⟩
 ·next x=>
  obtain⟨hz,h⟩:=h.pC
  cases jZ r
  refine⟨_,⟨sz_of (of_decide_eq_true hz),?_⟩,h⟩
  have e:x.length=x.cps.toList.length:=by
   rw[arD]
   rfl
  rw[e]
  cases x.cps.toList with
  |nil=>rfl
  |cons y ys=>
   refine Eq.symm (bne_iff_ne.mpr ?_)
   simp
   omega
 ·obtain⟨p,us,rfl,h1,h2⟩:=iU r
  rw[RB h2]at h
  exact⟨_,.inl ⟨us,h1,rfl⟩,h⟩
 ·obtain⟨p,us,rfl,h1,h2⟩:=lC r
  rw[RB h2]at h
  exact⟨_,.inr (.inl ⟨us,h1,rfl⟩),h⟩
 ·exact False.elim h
theorem aiN(ha:QW aj X W a fa)(he:∀whole,isTrue a X.env whole=(do let v ←whole;standAt a.pos;holding [v] (truthy v))):tK aj X W a (gG fa):=
 PT.weak (pt_truth ha he) fun σ H Q ⟨g,ρ,M,I,h⟩=>by
  refine tW.go I h.bnd fun d v H1 h1 e1 r1=>?_
  obtain⟨k,h2,h3⟩:=aj6 r1 h1
  exact⟨k,h2,h3 H1 e1⟩
theorem Eo{g:Gh}{H:Hp}{v:V}{d:Dat}{P:Bool->Prop}{E:eE->Prop}(r:eG X.K g H v d)(h:(BP d).sat P E):∃k,v=.bl k/\P k:=by
 unfold BP at h
 split at h
 ·cases DP r;exact⟨_,rfl,h⟩
 ·exact False.elim h
theorem aji{op:CmpOp}{r:R2}{o:Dat->Dat->Out Dat}(hr:OpR X (compareOp op) r)(ho:qw aj X.K W o r)(ha:QW aj X W a fa)(hb:QW aj X W b fb)(hm:behindInMarks op b=false):tK aj X W (.Compare a [op] [b] pos) (bA (aA o fa fb)):=
 PT.weak (pt_cmpR hr ha hb hm) fun σ H Q ⟨g,ρ,M,I,h⟩=>by
  refine QK ho σ H _ ⟨g,ρ,M,I,h.bnd.mono (fun d h1 v H' e' r'=>?_) fun _ z=>z⟩
  obtain⟨k,h2,h3⟩:=Eo r'.weak h1
  exact⟨k,h2,h3 H' e'⟩
theorem al7{op:CmpOp}{neg:Bool}{d:Dat}{v:V}(hc:scD d=some v)(hr:OpR X (compareOp op) (YL neg v))(ha:QW aj X W a fa)(hb:PE X b (tC v))(hm:behindInMarks op b=false):tK aj X W (.Compare a [op] [b] pos) (bA (yw neg d fa)):=
 PT.weak (pt_cmpR hr ha hb hm) fun σ H Q ⟨g,ρ,M,I,h⟩=>by
  refine tW.go I h.bnd.bnd fun e x H1 h1 e1 r1=>?_
  refine⟨rfl,_,rfl,?_⟩
  rw[aa6 r1 hc]
  exact h1 H1 e1
theorem aiH(ha:tK aj X W a ta):tK aj X W (.UnaryOp .Not a pos) (jy ta):=
 PT.weak (pt_not ha) fun σ H Q ⟨g,ρ,M,I,h⟩=>jC.go I h.bnd fun b H1 h1 e1=>h1 H1 e1
def QWt(aj:aR)(X:Cx)(W:WX)(e:Expr)(f:QT):Prop:=PW X e (jC X.K aj W f)
theorem PW.weak{X:Cx}{e:Expr}{t t':TT}(h:PW X e t)(k:∀σ H Q,t' σ H Q->t σ H Q):PW X e t':=⟨fun wh pins s σ H Q I q=>h.run wh pins s σ H Q I (k σ H Q q)⟩
theorem akT{rest:List Expr}(ha:tK aj X W a ta)(hb:QWt aj X W (.BoolOp .And (b::rest) pos) tb):QWt aj X W (.BoolOp .And (a::b::rest) pos) (jV ta tb):=
 PW.weak (pw_and ha hb) fun σ H Q ⟨g,ρ,M,I,h⟩=>by
  refine jC.go I h.bnd fun x H1 h1 e1=>?_
  cases x with
  |true=>exact⟨g,ρ,M,I.ex e1,h1.mono (fun b k H' e'=>k H' (e1.trans e')) fun _ z=>z.ex e1⟩
  |false=>exact h1 H1 e1
theorem alY{rest:List Expr}(ha:tK aj X W a ta)(hb:QWt aj X W (.BoolOp .Or (b::rest) pos) tb):QWt aj X W (.BoolOp .Or (a::b::rest) pos) (Ml ta tb):=
 PW.weak (pw_or ha hb) fun σ H Q ⟨g,ρ,M,I,h⟩=>by
  refine jC.go I h.bnd fun x H1 h1 e1=>?_
  cases x with
  |true=>exact h1 H1 e1
  |false=>exact⟨g,ρ,M,I.ex e1,h1.mono (fun b k H' e'=>k H' (e1.trans e')) fun _ z=>z.ex e1⟩
def Qz(a:QF):QF:=Vx (jy (bA a))
def yx(a b:QF):QF:=fun M ρ=>(a M ρ).bind fun d=>(BP d).bind fun x=>if x=true then b M ρ else .ok (.bool false)
def afw(a b:QF):QF:=fun M ρ=>(a M ρ).bind fun d=>(BP d).bind fun x=>if x=true then .ok (.bool true) else b M ρ
theorem agD(ha:QW aj X W a fa):QE aj X W (.UnaryOp .Not a pos) (Qz fa):=
 PE.weak (pe_not ha) fun σ H Q ⟨g,ρ,M,I,h⟩=>by
  refine tW.go I h.bnd.bnd.bnd fun d v H1 h1 e1 r1=>?_
  obtain⟨k,h2,h3⟩:=Eo r1 h1
  exact⟨k,h2,h3 _ H1 e1 (.bl _)⟩
theorem ah2{rest:List Expr}(ha:QE aj X W a fa)(hb:QE aj X W (.BoolOp .And (b::rest) pos) fb):QE aj X W (.BoolOp .And (a::b::rest) pos) (yx fa fb):=
 PE.weak (pe_and ha hb) fun σ H Q ⟨g,ρ,M,I,h⟩=>by
  refine tQ.go I h.bnd fun d v H1 h1 e1 r1=>?_
  obtain⟨k,h2,h3⟩:=Eo r1.weak h1.bnd
  refine⟨k,h2,?_⟩
  cases k with
  |true=>exact⟨g,ρ,M,I.ex e1,h3.mono (fun b k v' H' e' r'=>k v' H' (e1.trans e') r') fun _ z=>z.ex e1⟩
  |false=>exact h3 _ H1 e1 (.bl false)
theorem ak2{rest:List Expr}(ha:QE aj X W a fa)(hb:QE aj X W (.BoolOp .Or (b::rest) pos) fb):QE aj X W (.BoolOp .Or (a::b::rest) pos) (afw fa fb):=
 PE.weak (pe_or ha hb) fun σ H Q ⟨g,ρ,M,I,h⟩=>by
  refine tQ.go I h.bnd fun d v H1 h1 e1 r1=>?_
  obtain⟨k,h2,h3⟩:=Eo r1.weak h1.bnd
  refine⟨k,h2,?_⟩
  cases k with
  |false=>exact⟨g,ρ,M,I.ex e1,h3.mono (fun b k v' H' e' r'=>k v' H' (e1.trans e') r') fun _ z=>z.ex e1⟩
  |true=>exact h3 _ H1 e1 (.bl true)
theorem aeU(hc:tK aj X W c ta)(ha:QE aj X W a fa)(hb:QE aj X W b fb):QE aj X W (.IfExp c a b pos) (Qy ta fa fb):=
 PE.weak (pe_ifExp hc ha hb) fun σ H Q ⟨g,ρ,M,I,h⟩=>by
  refine jC.go I h.bnd fun x H1 h1 e1=>?_
  cases x with
  |true=>exact⟨g,ρ,M,I.ex e1,h1.mono (fun b k v' H' e' r'=>k v' H' (e1.trans e') r') fun _ z=>z.ex e1⟩
  |false=>exact⟨g,ρ,M,I.ex e1,h1.mono (fun b k v' H' e' r'=>k v' H' (e1.trans e') r') fun _ z=>z.ex e1⟩
def oY(o o':Dat->Dat->Out Dat)(a b c:QF):QT:=fun M ρ=>(a M ρ).bind fun x=>(b M ρ).bind fun y=>(o x y).bind fun z=>(BP z).bind fun k=>if k=true then(c M ρ).bind fun w=>(o' y w).bind BP else .ok false
theorem Zf{r r':R2}{o o':Dat->Dat->Out Dat}(ho:qw aj X.K W o r)(ho':qw aj X.K W o' r'){σ:L2.St}{H:Hp}{Q:VK}{P:Bool->Hp->Prop}(hP:∀k H',P k H'->Q (.bl k) H')(h:jC X.K aj W (oY o o' fa fb fc) σ H P):tChain r r' (tW X.K aj W fa) (tW X.K aj W fb) (tW X.K aj W fc) σ H Q:=by
 obtain⟨g,ρ,M,I,h⟩:=h
 refine tW.go I h.bnd fun d v H1 h1 e1 r1=>?_
 have I1:=I.ex e1
 refine tW.go I1 (h1.bnd.mono (fun _ z=>z) fun _ z=>z.ex e1) fun d2 v2 H2 h2 e2 r2=>?_
 have I2:=I1.ex e2
 have r1':=r1.ex e2 I1.kd
 refine ho σ g H2 v v2 d d2 _ I2.kd r1' r2 (h2.bnd.mono (fun z hz u H3 e3 r3=>?_) fun _ z=>(z.ex e1).ex e2)
 obtain⟨k,h4,h5⟩:=Eo r3.weak hz.bnd
 refine⟨k,h4,?_⟩
 have I3:=I2.ex e3
 have e13:=(e1.trans e2).trans e3
 cases k with
 |false=>exact hP _ _ (h5 H3 e13)
 |true=>
  refine tW.go I3 (h5.bnd.mono (fun _ z=>z) fun _ z=>z.ex e13) fun d4 v4 H4 h6 e4 r4=>?_
  refine ho' σ g H4 v2 v4 d2 d4 _ (I3.ex e4).kd ((r2.ex e3 I2.kd).ex e4 I3.kd) r4 (h6.bnd.mono (fun z hz u H5 e5 r5=>?_) fun _ z=>(z.ex e13).ex e4)
  obtain⟨k,rfl,h8⟩:=Eo r5.weak hz
  exact hP _ _ (h8 H5 ((e13.trans e4).trans e5))
theorem afu{op op':CmpOp}{r r':R2}{o o':Dat->Dat->Out Dat}(hr:OpR X (compareOp op) r)(hr':OpR X (compareOp op') r')(ho:qw aj X.K W o r)(ho':qw aj X.K W o' r')(ha:QW aj X W a fa)(hb:QW aj X W b fb)(hc:QW aj X W c fc)(hm:lastMarks [op,op'] [b,c]=false) :
  tK aj X W (.Compare a [op,op'] [b,c] pos) (oY o o' fa fb fc):=
 PT.weak (pt_chain hr hr' ha hb hc hm) fun σ H Q h=>Zf ho ho' (fun k H' z=>⟨k,rfl,z⟩) h
theorem afP{op op':CmpOp}{r r':R2}{o o':Dat->Dat->Out Dat}(hr:OpR X (compareOp op) r)(hr':OpR X (compareOp op') r')(ho:qw aj X.K W o r)(ho':qw aj X.K W o' r')(ha:QW aj X W a fa)(hb:QW aj X W b fb)(hc:QW aj X W c fc)(hm:lastMarks [op,op'] [b,c]=false) :
  QE aj X W (.Compare a [op,op'] [b,c] pos) (Vx (oY o o' fa fb fc)):=
 PE.weak (pe_chain hr hr' ha hb hc hm) fun σ H Q ⟨g,ρ,M,I,h⟩=>Zf (P:=fun b H1=>Q (.bl b) H1) ho ho' (fun k H' z=>z) ⟨g,ρ,M,I,h.bnd.mono (fun b h1 H' e'=>h1 _ H' e' (.bl b)) fun _ z=>z⟩
end
def aO:Dat->Dat->Out Dat
 |.list ds,.int i=>match atI ds i with
  |some d=>.ok d
  |none=>.bad
 |.tuple ds,.int i=>match atI ds i with
  |some d=>.ok d
  |none=>.bad
 |.str z,.int i=>Out.when (decide (z.length<=100000)) (match atI z.cps.toList i with
  |some c=>.ok (.str ⟨#[c]⟩)
  |none=>.bad)
 |_,_=>.bad
theorem abt{K:aqV}{g:Gh}{H:Hp}{us:List V}{ds:List Dat}{i:Int}{d:Dat}(h:aM K g H us ds)(e:atI ds i=some d):∃v,atI us i=some v/\Rep K g H v d:=by
 unfold atI at e ⊢
 rw[h.length]
 cases hj:ixN ds.length i with
 |none=>rw[hj]at e;cases e
 |some j=>
  rw[hj]at e
  obtain⟨v,h1,h2⟩:=h.get (i:=j) e
  exact⟨v,h1,h2⟩
def aiP(K:aqV):R2:=fun x y H Q=>rIxL K x y H Q∨rIxT K x y H Q∨rIxS x y H Q
theorem ant{X:Cx}:IxR X (aiP X.K):=fun value slice pins s σ H x y v u Q I rx ry h hs=>by
 rcases h with h|h|h
 ·exact ix_list value slice pins s σ H x y v u Q I rx ry h hs
 ·exact ix_tup value slice pins s σ H x y v u Q I rx ry h hs
 ·exact ix_str value slice pins s σ H x y v u Q I rx ry h hs
theorem alI{K:aqV}{aj:aR}{W:WX}:qw aj K W aO (aiP K):=fun σ g H x y d e Q k rx ry h=>by
 unfold aO at h
 split at h
 ·split at h
  ·next z hz=>
   obtain⟨p,us,rfl,h1,h2⟩:=iU rx
   obtain⟨v,h3,h4⟩:=abt h2 hz
   exact .inl ⟨p,us,_,v,rfl,cH ry,h1,h3,h v H (Ex.refl H) h4⟩
  ·exact False.elim h
 ·split at h
  ·next z hz=>
   obtain⟨p,us,rfl,h1,h2⟩:=lC rx
   obtain⟨v,h3,h4⟩:=abt h2 hz
   exact .inr (.inl ⟨p,us,_,v,rfl,cH ry,h1,h3,h v H (Ex.refl H) h4⟩)
  ·exact False.elim h
 ·obtain⟨hl,h⟩:=h.pC
  split at h
  ·next c hz=>exact .inr (.inr ⟨_,_,c,jZ rx,cH ry,sz_of (of_decide_eq_true hl),hz,h _ H (Ex.refl H) (.str _)⟩)
  ·exact False.elim h
 ·exact False.elim h
def cutD{α:Type}(xs:List α)(lo hi:Option Int):List α:=(xs.drop (HT.sIx xs.length 0 lo)).take (HT.sIx xs.length xs.length hi - HT.sIx xs.length 0 lo)
abbrev QO:=Mo->Env->Out (Option Int)
def xQ:QO:=fun _ _=>.ok none
def Bl:Dat->Out Int
 |.int i=>.ok i
 |_=>.bad
def pN(a:QF):QO:=fun M ρ=>(a M ρ).bind fun d=>(Bl d).bind fun i=>.ok (some i)
def slD(d:Dat)(lo hi:Option Int):Out Dat:=
 match d with
 |.list ds=>.ok (.list (cutD ds lo hi))
 |.tuple ds=>.ok (.tuple (cutD ds lo hi))
 |.str z=>Out.when (decide (z.length<=100000)) (.ok (.str (cutS z lo hi)))
 |_=>.bad
def LK(a:QF)(lo hi:QO):QF:=fun M ρ=>(a M ρ).bind fun d=>(lo M ρ).bind fun l=>(hi M ρ).bind fun h=>slD d l h
def tQO(K:aqV)(aj:aR)(W:WX)(f:QO):TO:=fun σ H Q=>∃g ρ M,SInv K aj σ H g ρ M/\(f M ρ).sat (fun o=>∀H',Ex H H'->Q o H') (qD K aj W g H σ)
def QOe(aj:aR)(X:Cx)(W:WX)(e:Option Expr)(f:QO):Prop:=PO X e (tQO X.K aj W f)
def ajt(K:aqV):V->Option Int->Option Int->Hp->VK->Prop:=fun x lo hi H Q=>rSlL K x lo hi H Q∨rSlA K x lo hi H Q∨rSlS x lo hi H Q
theorem am2{X:Cx}:SlR X (ajt X.K):=fun pins s σ H x v vl vu lo hi sl Q I rx hs pl pu h=>by
 rcases h with h|h|h
 ·exact sl_list pins s σ H x v vl vu lo hi sl Q I rx hs pl pu h
 ·exact sl_tupA pins s σ H x v vl vu lo hi sl Q I rx hs pl pu h
 ·exact sl_str pins s σ H x v vl vu lo hi sl Q I rx hs pl pu h
theorem ama{K:aqV}{g:Gh}{H:Hp}{x:V}{d:Dat}{lo hi:Option Int}{Q:VK}{E:eE->Prop}(k:Kd g H)(rx:eG K g H x d)(h:(slD d lo hi).sat (fun z=>∀v H',Ex H H'->Rep K g H' v z->Q v H') E):ajt K x lo hi H Q:=by
 unfold slD at h
 have hc:∀{us:List V} {ds:List Dat},aM K g H us ds->aM K g H (cutV us lo hi) (cutD ds lo hi):=fun {us ds} t=>by
  unfold cutV cutD
  rw[t.length]
  exact(t.drop _).take _
 split at h
 ·obtain⟨p,us,rfl,h1,h2⟩:=iU rx
  exact .inl ⟨p,us,rfl,h1,fun q nq=>h _ _ (Ex.new nq) (.lst (.inl ⟨.inl upd_same,k.fresh nq⟩) ((hc h2).ex (Ex.new nq) k))⟩
 ·next ds=>
  obtain⟨p,us,rfl,h1,h2⟩:=lC rx
  refine .inr (.inl ⟨p,us,rfl,h1,fun z=>?_,fun _ q nq=>h _ _ (Ex.new nq) (.tup (st_of upd_same) ((hc h2).ex (Ex.new nq) k))⟩)
  have e:cutD ds lo hi=ds:=by
   unfold cutD
   rw[←h2.length,z.1,z.2,h2.length]
   simp
  rw[e]at h
  exact h _ H (Ex.refl H) (.tup h1 h2)
 ·obtain⟨hz,h⟩:=h.pC
  exact .inr (.inr ⟨_,jZ rx,sz_of (of_decide_eq_true hz),h _ H (Ex.refl H) (.str _)⟩)
 ·exact False.elim h
section
variable{X:Cx}{aj:aR}{W:WX}{a b:Expr}{fa fb:QF}{pos p2:Pos}
theorem alq(ha:QW aj X W a fa)(hb:QW aj X W b fb)(hs:PlainIx b):QE aj X W (.Subscript a b pos) (aA aO fa fb):=
 PE.weak (pe_ix ant ha hb hs) fun σ H Q h=>QK alI σ H Q h
theorem PO.weak{X:Cx}{e:Option Expr}{t t':TO}(h:PO X e t)(k:∀σ H Q,t' σ H Q->t σ H Q):PO X e t':=⟨fun pins s σ H Q I q=>h.run pins s σ H Q I (k σ H Q q)⟩
theorem agZ:QOe aj X W none xQ:=PO.weak po_none fun σ H Q ⟨g,ρ,M,I,h⟩=>h H (Ex.refl H)
theorem ahe(ha:QW aj X W a fa):QOe aj X W (some a) (pN fa):=PO.weak (po_some ha) fun σ H Q ⟨g,ρ,M,I,h⟩=>by
 refine tW.go I h.bnd fun d v H1 h1 e1 r1=>?_
 have h1:=h1.bnd
 unfold Bl at h1
 split at h1
 ·exact⟨_,cH r1,h1 H1 e1⟩
 ·exact False.elim h1
theorem amf{lo hi:Option Expr}{fl fh:QO}(ha:QW aj X W a fa)(hl:QOe aj X W lo fl)(hh:QOe aj X W hi fh):QE aj X W (.Subscript a (.Slice lo hi none p2) pos) (LK fa fl fh):=
 PE.weak (pe_slice am2 ha hl hh) fun σ H Q ⟨g,ρ,M,I,h⟩=>by
  refine tW.go I h.bnd fun d v H1 h1 e1 r1=>?_
  have I1:=I.ex e1
  refine⟨g,ρ,M,I1,h1.bnd.mono (fun l h2 H2 e2=>?_) fun _ z=>z.ex e1⟩
  have I2:=I1.ex e2
  refine⟨g,ρ,M,I2,h2.bnd.mono (fun u h3 H3 e3=>?_) fun _ z=>(z.ex e1).ex e2⟩
  exact ama (I2.ex e3).kd ((r1.ex e2 I1.kd).ex e3 I2.kd) (h3.mono (fun z hz v' H' e' r'=>hz v' H' (((e1.trans e2).trans e3).trans e') r') fun _ z=>z)
end
def JV(aj:aR)(K:aqV)(W:WX)(o:Dat->Out Dat)(r:List V->Hp->VK->Prop):Prop:=∀(σ:L2.St) (g:Gh) (H:Hp) (x:V) (d:Dat) (Q:VK),Kd g H->eG K g H x d->
 (o d).sat (fun z=>∀v H',Ex H H'->Rep K g H' v z->Q v H') (qD K aj W g H σ)->r [x] H Q
def Fn2(aj:aR)(K:aqV)(W:WX)(o:Dat->Dat->Out Dat)(r:List V->Hp->VK->Prop):Prop:=∀(σ:L2.St) (g:Gh) (H:Hp) (x y:V) (d e:Dat) (Q:VK),Kd g H->eG K g H x d->eG K g H y e->
 (o d e).sat (fun z=>∀v H',Ex H H'->Rep K g H' v z->Q v H') (qD K aj W g H σ)->r [x,y] H Q
def BV(f:Value)(x:Str):Prop:=bootBuiltins x=some f/\x≠"__name__"/\(x==("__debug__" : Str))=false
def nst:Expr->Bool
 |.Starred _ _=>false
 |_=>true
section
variable{X:Cx}{aj:aR}{W:WX}{a b c:Expr}{fa fb fc:QF}{pos p:Pos}{x:Str}
theorem cD{env:PySem.Env}{a:Expr}(h:nst a=true)(es:List Expr):starEach (a::es) env=(false,eval a env)::starEach es env:=by
 cases a <;> first | rfl | cases h
theorem star_any{env:PySem.Env}{pos:Pos}:∀(es:List Expr),es.all nst=true->(backTo pos (starEach es env)).any (·.1)=false
 |[],_=>by with_unfolding_all rfl
 |a::es,h=>by
  rw[arJ,aqW]at h
  rw[cD h.1]
  have ih:=star_any (env:=env) (pos:=pos) es h.2
  unfold backTo at ih ⊢
  rw[aqZ,arX,ih]
  rfl
theorem agj{f:Value}{id:String}{r:List V->Hp->VK->Prop}{o:Dat->Out Dat}(hf:f=.builtin id∨f=.type id)(hc:CallR X f r)(ho:JV aj X.K W o r)(hg:Gl X x)(hm:X.mg x=none)(hv:BV f x)(ha:QW aj X W a fa)(hs:nst a=true):QE aj X W (.Call (.Name x p) [a] [] pos) (dH o fa):=by
 have h1:=pa_cons ha pa_nil (cD hs [])
 have key:PE X (.Call (.Name x p) [a] [] pos) (tCB r (tCons (tW X.K aj W fa) tNil)):=by
  rcases hf with rfl|rfl
  ·exact pe_callB hc hg hm hv.1 h1 hv.2.1 hv.2.2 (cD hs []) (by with_unfolding_all rfl)
  ·exact pe_callTy hc hg hm hv.1 h1 hv.2.1 hv.2.2 (cD hs []) (by with_unfolding_all rfl)
 refine PE.weak key fun σ H Q ⟨g,ρ,M,I,h⟩=>?_
 refine tW.go I h.bnd fun d v H1 h1 e1 r1=>?_
 exact ho σ g H1 v d Q (I.kd.ex e1) r1 (h1.mono (fun z hz u H' e' r'=>hz u H' (e1.trans e') r') fun _ z=>z.ex e1)
theorem amb{f:Value}{id:String}{r:List V->Hp->VK->Prop}{o:Dat->Dat->Out Dat}(hf:f=.builtin id∨f=.type id)(hc:CallR X f r)(ho:Fn2 aj X.K W o r)(hg:Gl X x)(hm:X.mg x=none)(hv:BV f x)(ha:QW aj X W a fa)(hb:QW aj X W b fb)(hs:nst a=true)(hs2:nst b=true):QE aj X W (.Call (.Name x p) [a,b] [] pos) (aA o fa fb):=by
 have h1:=pa_cons ha (pa_cons hb pa_nil (cD hs2 [])) (cD hs [b])
 have key:PE X (.Call (.Name x p) [a,b] [] pos) (tCB r (tCons (tW X.K aj W fa) (tCons (tW X.K aj W fb) tNil))):=by
  rcases hf with rfl|rfl
  ·exact pe_callB hc hg hm hv.1 h1 hv.2.1 hv.2.2 (cD hs [b]) (star_any [b] (by simp[hs2]))
  ·exact pe_callTy hc hg hm hv.1 h1 hv.2.1 hv.2.2 (cD hs [b]) (star_any [b] (by simp[hs2]))
 refine PE.weak key fun σ H Q ⟨g,ρ,M,I,h⟩=>?_
 refine tW.go I h.bnd fun d v H1 h1 e1 r1=>?_
 have I1:=I.ex e1
 refine tW.go I1 (h1.bnd.mono (fun _ z=>z) fun _ z=>z.ex e1) fun d2 v2 H2 h2 e2 r2=>?_
 exact ho σ g H2 v v2 d d2 Q (I1.ex e2).kd (r1.ex e2 I1.kd) r2 (h2.mono (fun z hz u H' e' r'=>hz u H' ((e1.trans e2).trans e') r') fun _ z=>(z.ex e1).ex e2)
end
def jR:Dat->Out Dat
 |.list ds=>.ok (.int ds.length)
 |.tuple ds=>.ok (.int ds.length)
 |.str x=>Out.when (decide (x.length<=100000)) (.ok (.int x.length))
 |_=>.bad
def O2:Dat->Out Dat
 |.int i=>.ok (.int (if i < 0 then -i else i))
 |_=>.bad
def tL:Dat->Dat->Out Dat
 |.int i,.int j=>.ok (.int (if j > i then j else i))
 |_,_=>.bad
def Jm:Dat->Dat->Out Dat
 |.int i,.int j=>.ok (.int (if j < i then j else i))
 |_,_=>.bad
def intsOf:List Dat->Option (List Int)
 |[]=>some []
 |.int i::r=>(intsOf r).map (i::·)
 |_::_=>none
def qP:List Dat->Option (List Bool)
 |[]=>some []
 |.bool i::r=>(qP r).map (i::·)
 |_::_=>none
theorem Jq{K:aqV}{g:Gh}{H:Hp}:∀{us:List V} {ds:List Dat} {ns:List Int},aM K g H us ds->intsOf ds=some ns->us=ns.map V.int
 |_,_,ns,.nil,e=>by cases e;rfl
 |_,_,ns,.cons (d:=d) (ds:=ds) h t,e=>by
  cases d with
  |int i=>
   rw[intsOf]at e
   cases hr:intsOf ds with
   |none=>rw[hr]at e;cases e
   |some r=>
    rw[hr]at e
    cases e
    cases h
    rw[Jq t hr]
    rfl
  |_=>cases e
theorem Mj{K:aqV}{g:Gh}{H:Hp}:∀{us:List V} {ds:List Dat} {ns:List Bool},aM K g H us ds->qP ds=some ns->us=ns.map V.bl
 |_,_,ns,.nil,e=>by cases e;rfl
 |_,_,ns,.cons (d:=d) (ds:=ds) h t,e=>by
  cases d with
  |bool i=>
   rw[qP]at e
   cases hr:qP ds with
   |none=>rw[hr]at e;cases e
   |some r=>
    rw[hr]at e
    cases e
    cases h
    rw[Mj t hr]
    rfl
  |_=>cases e
@[simp]theorem lQ (ns:List Int):intsOf (ns.map PyData.int)=some ns:=by
 induction ns with
 |nil=>rfl
 |cons n ns ih=>rw[aqZ,intsOf,ih];rfl
@[simp]theorem Bb (ns:List Bool):qP (ns.map PyData.bool)=some ns:=by
 induction ns with
 |nil=>rfl
 |cons n ns ih=>rw[aqZ,qP,ih];rfl
def ZS:Dat->Out Dat
 |.list ds=>match intsOf ds with
  |some ns=>.ok (.int ns.sum)
  |none=>.bad
 |_=>.bad
def Fw:Int->List Int->Int
 |m,[]=>m
 |m,n::ns=>Fw (if n > m then n else m) ns
theorem Ew:∀(ns:List Int) (m:Int),(Fw m ns∈m::ns)/\∀y∈m::ns,y<=Fw m ns
 |[],m=>⟨by simp[Fw],fun y h=>by simp at h;subst h;exact Int.le_refl _⟩
 |n::ns,m=>by
  obtain⟨h1,h2⟩:=Ew ns (if n > m then n else m)
  have hm:m<=(if n > m then n else m):=by split <;> omega
  have hn:n<=(if n > m then n else m):=by split <;> omega
  have h3:=h2 _ aq1
  refine⟨?_,fun y hy=>?_⟩
  ·show Fw (if n > m then n else m) ns∈_
   rcases ara.mp h1 with e|e
   ·rw[e]
    split
    ·exact aq0 _ aq1
    ·exact aq1
   ·exact aq0 _ (aq0 _ e)
  ·show y<=Fw (if n > m then n else m) ns
   rcases ara.mp hy with e|hy
   ·omega
   ·rcases ara.mp hy with e|hy
    ·omega
    ·exact h2 y (aq0 _ hy)
def maxD:Dat->Out Dat
 |.list ds=>match intsOf ds with
  |some (n::ns)=>.ok (.int (Fw n ns))
  |_=>.bad
 |_=>.bad
def Ik:Dat->Out Dat
 |.list ds=>match qP ds with
  |some bs=>.ok (.bool (bs.all id))
  |none=>.bad
 |_=>.bad
def P0:Dat->Out Dat
 |.list ds=>match qP ds with
  |some bs=>.ok (.bool (bs.any id))
  |none=>.bad
 |_=>.bad
def jX:Dat->Out Dat
 |.list ds=>.ok (.tuple ds)
 |.tuple ds=>.ok (.tuple ds)
 |_=>.bad
def Nb:Dat->Out Dat
 |.list ds=>.ok (.list ds)
 |.tuple ds=>.ok (.list ds)
 |_=>.bad
def intD:Dat->Out Dat
 |.int i=>.ok (.int i)
 |.bool k=>.ok (.int (if k then 1 else 0))
 |.str x=>Out.when (decide (x.length<=640)) (match PySem.intText? x with
  |some n=>.ok (.int n)
  |none=>.bad)
 |_=>.bad
def agr(K:aqV):List V->Hp->VK->Prop:=fun xs H Q=>(∃p ys,xs=[.ref p]/\(SqL K H p ys∨SqT K H p ys)/\Q (.int ys.length) H)∨∃z,xs=[.str z]/\z.length<=sizeLine/\Q (.int z.length) H
theorem aiO{X:Cx}:CallR X (.builtin "len") (agr X.K):=fun pins s σ H xs us Q I r h=>h.elim (fun h=>call_len_seq pins s σ H xs us Q I r h) fun h=>call_len_str pins s σ H xs us Q I r h
def af7:List V->Hp->VK->Prop:=fun xs H Q=>((∃i,xs=[.int i]/\Q (.int i) H)∨∃k,xs=[.bl k]/\Q (.int (if k then 1 else 0)) H)∨∃a n,xs=[.str a]/\PySem.intText? a=some n/\a.length<=640/\Q (.int n) H
theorem akr{X:Cx}:CallR X (.type "int") af7:=fun pins s σ H xs us Q I r h=>h.elim (fun h=>call_int1 pins s σ H xs us Q I r h) fun h=>call_int_str pins s σ H xs us Q I r h
section
variable{K:aqV}{aj:aR}{W:WX}
theorem ai4:JV aj K W jR (agr K):=fun σ g H x d Q k rx h=>by
 unfold jR at h
 split at h
 ·obtain⟨p,us,rfl,h1,h2⟩:=iU rx
  rw[←h2.length]at h
  exact .inl ⟨p,us,rfl,.inl h1,h _ H (Ex.refl H) (.int _)⟩
 ·obtain⟨p,us,rfl,h1,h2⟩:=lC rx
  rw[←h2.length]at h
  exact .inl ⟨p,us,rfl,.inr h1,h _ H (Ex.refl H) (.int _)⟩
 ·obtain⟨hz,h⟩:=h.pC
  cases jZ rx
  exact .inr ⟨_,rfl,sz_of (of_decide_eq_true hz),h _ H (Ex.refl H) (.int _)⟩
 ·exact False.elim h
theorem aj7:JV aj K W O2 (fun xs H Q=>∃i,xs=[.int i]/\Q (.int (if i < 0 then -i else i)) H):=fun σ g H x d Q k rx h=>by
 unfold O2 at h
 split at h
 ·cases cH rx
  exact⟨_,rfl,h _ H (Ex.refl H) (.int _)⟩
 ·exact False.elim h
theorem ahC:Fn2 aj K W tL (fun xs H Q=>∃i j,xs=[.int i,.int j]/\Q (.int (if j > i then j else i)) H):=fun σ g H x y d e Q k rx ry h=>by
 unfold tL at h
 split at h
 ·cases cH rx;cases cH ry
  exact⟨_,_,rfl,h _ H (Ex.refl H) (.int _)⟩
 ·exact False.elim h
theorem agQ:Fn2 aj K W Jm (fun xs H Q=>∃i j,xs=[.int i,.int j]/\Q (.int (if j < i then j else i)) H):=fun σ g H x y d e Q k rx ry h=>by
 unfold Jm at h
 split at h
 ·cases cH rx;cases cH ry
  exact⟨_,_,rfl,h _ H (Ex.refl H) (.int _)⟩
 ·exact False.elim h
theorem ajU:JV aj K W ZS (rSum K):=fun σ g H x d Q k rx h=>by
 unfold ZS at h
 split at h
 ·split at h
  ·next ns e=>
   obtain⟨p,us,rfl,h1,h2⟩:=iU rx
   have:=Jq h2 e
   subst this
   exact⟨p,ns,rfl,h1,h _ H (Ex.refl H) (.int _)⟩
  ·exact False.elim h
 ·exact False.elim h
theorem aiE:JV aj K W maxD (rMax K):=fun σ g H x d Q k rx h=>by
 unfold maxD at h
 split at h
 ·split at h
  ·next n ns e=>
   obtain⟨p,us,rfl,h1,h2⟩:=iU rx
   have:=Jq h2 e
   subst this
   obtain⟨m1,m2⟩:=Ew ns n
   refine⟨p,n::ns,rfl,h1,by simp,fun m hm hy=>?_⟩
   have e2:m=Fw n ns:=Int.le_antisymm (m2 m hm) (hy _ m1)
   rw[e2]
   exact h _ H (Ex.refl H) (.int _)
  ·exact False.elim h
 ·exact False.elim h
theorem ajp:JV aj K W Ik (rAll K):=fun σ g H x d Q k rx h=>by
 unfold Ik at h
 split at h
 ·split at h
  ·next ns e=>
   obtain⟨p,us,rfl,h1,h2⟩:=iU rx
   have:=Mj h2 e
   subst this
   exact⟨p,ns,rfl,h1,h _ H (Ex.refl H) (.bl _)⟩
  ·exact False.elim h
 ·exact False.elim h
theorem aiQ:JV aj K W P0 (rAny K):=fun σ g H x d Q k rx h=>by
 unfold P0 at h
 split at h
 ·split at h
  ·next ns e=>
   obtain⟨p,us,rfl,h1,h2⟩:=iU rx
   have:=Mj h2 e
   subst this
   exact⟨p,ns,rfl,h1,h _ H (Ex.refl H) (.bl _)⟩
  ·exact False.elim h
 ·exact False.elim h
theorem afq:JV aj K W jX (fun xs H Q=>∃p ys,xs=[.ref p]/\((SqL K H p ys/\∀l,H l=none->Q (.ref l) (upd H l (.tup ys)))∨(SqT K H p ys/\Q (.ref p) H))):=fun σ g H x d Q k rx h=>by
 unfold jX at h
 split at h
 ·obtain⟨p,us,rfl,h1,h2⟩:=iU rx
  exact⟨p,us,rfl,.inl ⟨h1,fun l nl=>h _ _ (Ex.new nl) (.tup (st_of upd_same) (h2.ex (Ex.new nl) k))⟩⟩
 ·obtain⟨p,us,rfl,h1,h2⟩:=lC rx
  exact⟨p,us,rfl,.inr ⟨h1,h _ H (Ex.refl H) (.tup h1 h2)⟩⟩
 ·exact False.elim h
theorem ahb:JV aj K W Nb (fun xs H Q=>∃p ys,xs=[.ref p]/\(SqL K H p ys∨SqT K H p ys)/\∀l,H l=none->Q (.ref l) (upd H l (.lst ys))):=fun σ g H x d Q k rx h=>by
 unfold Nb at h
 split at h
 ·obtain⟨p,us,rfl,h1,h2⟩:=iU rx
  exact⟨p,us,rfl,.inl h1,fun l nl=>h _ _ (Ex.new nl) (.lst (.inl ⟨.inl upd_same,k.fresh nl⟩) (h2.ex (Ex.new nl) k))⟩
 ·obtain⟨p,us,rfl,h1,h2⟩:=lC rx
  exact⟨p,us,rfl,.inr h1,fun l nl=>h _ _ (Ex.new nl) (.lst (.inl ⟨.inl upd_same,k.fresh nl⟩) (h2.ex (Ex.new nl) k))⟩
 ·exact False.elim h
theorem aiK:JV aj K W intD af7:=fun σ g H x d Q k rx h=>by
 unfold intD at h
 split at h
 ·cases cH rx
  exact .inl (.inl ⟨_,rfl,h _ H (Ex.refl H) (.int _)⟩)
 ·cases DP rx
  exact .inl (.inr ⟨_,rfl,h _ H (Ex.refl H) (.int _)⟩)
 ·obtain⟨hz,h⟩:=h.pC
  split at h
  ·next n e=>
   cases jZ rx
   exact .inr ⟨_,n,rfl,e,of_decide_eq_true hz,h _ H (Ex.refl H) (.int _)⟩
  ·exact False.elim h
 ·exact False.elim h
end
inductive Om where
 |int|bool|str|tuple|list
def Om.name:Om->String
 |.int=>"int"
 |.bool=>"bool"
 |.str=>"str"
 |.tuple=>"tuple"
 |.list=>"list"
def Br(t:Om):Dat->Option Bool
 |.none=>some false
 |.int _=>some (match t with
  |.int=>true
  |_=>false)
 |.bool _=>some (match t with
  |.int=>true
  |.bool=>true
  |_=>false)
 |.str _=>some (match t with
  |.str=>true
  |_=>false)
 |.tuple _=>some (match t with
  |.tuple=>true
  |_=>false)
 |.list _=>some (match t with
  |.list=>true
  |_=>false)
 |.dict _=>none
def xJ(t:Om)(d:Dat):Out Dat:=match Br t d with
 |some b=>.ok (.bool b)
 |none=>.bad
def akQ:Dat->String
 |.none=>"NoneType"
 |.int _=>"int"
 |.bool _=>"bool"
 |.str _=>"str"
 |.tuple _=>"tuple"
 |.list _=>"list"
 |.dict _=>"dict"
theorem ajW{K:aqV}{H:Hp}{a:Addr}{xs:List V}(h:SqL K H a xs):TyX K H (.ref a) (.type "list"):=by
 rcases h with(h|⟨o,h⟩)|⟨o,its,n,h1,h2,_⟩
 ·exact .base (.lst h)
 ·exact .base (.frz h)
 ·exact .kList h1 h2
theorem akn{K:aqV}{H:Hp}{a:Addr}{xs:List V}(h:SqT K H a xs):TyX K H (.ref a) (.type "tuple"):=by
 rcases h with(h|⟨o,h⟩)|⟨o,its,n,h1,h2,_⟩
 ·exact .base (.tup h)
 ·exact .fTuple h
 ·exact .kTuple h1 h2
theorem al8{K:aqV}{g:Gh}{H:Hp}{x:V}{d:Dat}(h:eG K g H x d)(hd:∀kv,d≠.dict kv):TyX K H x (.type (akQ d)):=by
 cases d with
 |none=>cases HD h;exact .base .non
 |bool b=>cases DP h;exact .base (.bl _)
 |int b=>cases cH h;exact .base (.int _)
 |str b=>cases jZ h;exact .base (.str _)
 |list b=>obtain⟨a,us,rfl,h1,_⟩:=iU h;exact ajW h1
 |tuple b=>obtain⟨a,us,rfl,h1,_⟩:=lC h;exact akn h1
 |dict kv=>exact absurd rfl (hd kv)
theorem aat{K:aqV}:PySem.W.kitOne K (.type "int") (.type "int")=some true:=kit_ty (by decide +kernel)
theorem YJ{K:aqV}:PySem.W.kitOne K (.type "int") (.type "bool")=some false:=kit_ty (by decide +kernel)
theorem aaK{K:aqV}:PySem.W.kitOne K (.type "int") (.type "str")=some false:=kit_ty (by decide +kernel)
theorem Xi{K:aqV}:PySem.W.kitOne K (.type "int") (.type "tuple")=some false:=kit_ty (by decide +kernel)
theorem ZX{K:aqV}:PySem.W.kitOne K (.type "int") (.type "list")=some false:=kit_ty (by decide +kernel)
theorem Y9{K:aqV}:PySem.W.kitOne K (.type "bool") (.type "int")=some true:=kit_ty (by decide +kernel)
theorem W9{K:aqV}:PySem.W.kitOne K (.type "bool") (.type "bool")=some true:=kit_ty (by decide +kernel)
theorem Z7{K:aqV}:PySem.W.kitOne K (.type "bool") (.type "str")=some false:=kit_ty (by decide +kernel)
theorem Ut{K:aqV}:PySem.W.kitOne K (.type "bool") (.type "tuple")=some false:=kit_ty (by decide +kernel)
theorem Xc{K:aqV}:PySem.W.kitOne K (.type "bool") (.type "list")=some false:=kit_ty (by decide +kernel)
theorem aaq{K:aqV}:PySem.W.kitOne K (.type "str") (.type "int")=some false:=kit_ty (by decide +kernel)
theorem Yw{K:aqV}:PySem.W.kitOne K (.type "str") (.type "bool")=some false:=kit_ty (by decide +kernel)
theorem aao{K:aqV}:PySem.W.kitOne K (.type "str") (.type "str")=some true:=kit_ty (by decide +kernel)
theorem W4{K:aqV}:PySem.W.kitOne K (.type "str") (.type "tuple")=some false:=kit_ty (by decide +kernel)
theorem YQ{K:aqV}:PySem.W.kitOne K (.type "str") (.type "list")=some false:=kit_ty (by decide +kernel)
theorem Xj{K:aqV}:PySem.W.kitOne K (.type "tuple") (.type "int")=some false:=kit_ty (by decide +kernel)
theorem T6{K:aqV}:PySem.W.kitOne K (.type "tuple") (.type "bool")=some false:=kit_ty (by decide +kernel)
theorem W0{K:aqV}:PySem.W.kitOne K (.type "tuple") (.type "str")=some false:=kit_ty (by decide +kernel)
theorem SJ{K:aqV}:PySem.W.kitOne K (.type "tuple") (.type "tuple")=some true:=kit_ty (by decide +kernel)
theorem UG{K:aqV}:PySem.W.kitOne K (.type "tuple") (.type "list")=some false:=kit_ty (by decide +kernel)
theorem Zb{K:aqV}:PySem.W.kitOne K (.type "list") (.type "int")=some false:=kit_ty (by decide +kernel)
theorem W8{K:aqV}:PySem.W.kitOne K (.type "list") (.type "bool")=some false:=kit_ty (by decide +kernel)
theorem Yv{K:aqV}:PySem.W.kitOne K (.type "list") (.type "str")=some false:=kit_ty (by decide +kernel)
theorem T7{K:aqV}:PySem.W.kitOne K (.type "list") (.type "tuple")=some false:=kit_ty (by decide +kernel)
theorem Xk{K:aqV}:PySem.W.kitOne K (.type "list") (.type "list")=some true:=kit_ty (by decide +kernel)
theorem O6{K:aqV}:PySem.W.kitOne K (.type "NoneType") (.type "int")=some false:=kit_ty (by decide +kernel)
theorem N5{K:aqV}:PySem.W.kitOne K (.type "NoneType") (.type "bool")=some false:=kit_ty (by decide +kernel)
theorem PL{K:aqV}:PySem.W.kitOne K (.type "NoneType") (.type "str")=some false:=kit_ty (by decide +kernel)
theorem La{K:aqV}:PySem.W.kitOne K (.type "NoneType") (.type "tuple")=some false:=kit_ty (by decide +kernel)
theorem NK{K:aqV}:PySem.W.kitOne K (.type "NoneType") (.type "list")=some false:=kit_ty (by decide +kernel)
theorem ahW{K:aqV}{t:Om}{d:Dat}{b:Bool}(h:Br t d=some b):PySem.W.kitOne K (.type (akQ d)) (.type t.name)=some b/\∀kv,d≠.dict kv:=by
 cases d with
 |dict kv=>cases h
 |none=>
  refine⟨?_,fun _ z=>nomatch z⟩
  cases t <;> cases h
  ·exact O6
  ·exact N5
  ·exact PL
  ·exact La
  ·exact NK
 |bool x=>
  refine⟨?_,fun _ z=>nomatch z⟩
  cases t <;> cases h
  ·exact Y9
  ·exact W9
  ·exact Z7
  ·exact Ut
  ·exact Xc
 |int x=>
  refine⟨?_,fun _ z=>nomatch z⟩
  cases t <;> cases h
  ·exact aat
  ·exact YJ
  ·exact aaK
  ·exact Xi
  ·exact ZX
 |str x=>
  refine⟨?_,fun _ z=>nomatch z⟩
  cases t <;> cases h
  ·exact aaq
  ·exact Yw
  ·exact aao
  ·exact W4
  ·exact YQ
 |list x=>
  refine⟨?_,fun _ z=>nomatch z⟩
  cases t <;> cases h
  ·exact Zb
  ·exact W8
  ·exact Yv
  ·exact T7
  ·exact Xk
 |tuple x=>
  refine⟨?_,fun _ z=>nomatch z⟩
  cases t <;> cases h
  ·exact Xj
  ·exact T6
  ·exact W0
  ·exact SJ
  ·exact UG
def wB(t:Om)(a:QF):QF:=dH (xJ t) a
section
variable{X:Cx}{aj:aR}{W:WX}{a b:Expr}{fa:QF}{pos p p2:Pos}{x y:Str}
theorem ai8{t:Om}(hg:Gl X x)(hm:X.mg x=none)(hv:BV (.builtin "isinstance") x)(hg2:Gl X y)(hm2:X.mg y=none)(hv2:BV (.type t.name) y)(ha:QW aj X W a fa)(hs:nst a=true):QE aj X W (.Call (.Name x p) [a,.Name y p2] [] pos) (wB t fa):=by
 have hb:PE X (.Name y p2) (tC (.ty t.name)):=pe_bltn hg2 hm2 hv2.1 rfl hv2.2.1 hv2.2.2
 have h1:=pa_cons ha (pa_cons hb pa_nil (cD (a:=.Name y p2) rfl [])) (cD hs [.Name y p2])
 have key:=pe_callB (pos:=pos) (p:=p) call_isi hg hm hv.1 h1 hv.2.1 hv.2.2 (cD hs [.Name y p2]) (star_any [.Name y p2] rfl)
 refine PE.weak key fun σ H Q ⟨g,ρ,M,I,h⟩=>?_
 refine tW.go I h.bnd fun d v H1 h1 e1 r1=>?_
 unfold xJ at h1
 split at h1
 ·next bb e=>
  obtain⟨k1,k2⟩:=ahW (K:=X.K) e
  exact⟨v,_,_,_,bb,rfl,.ty _,al8 r1 k2,k1,h1 _ H1 e1 (.bl _)⟩
 ·exact False.elim h1
end
inductive Src where
 |lst (a:Addr)|tup (a:Addr)|str (x:Str)
def chars(x:Str):List V:=x.cps.toList.map fun c=>V.str ⟨#[c]⟩
def Src.sq(K:aqV)(H:Hp)(us:List V):Src->Prop
 |.lst a=>SqL K H a us
 |.tup a=>SqT K H a us
 |.str x=>us=chars x
def Src.it(h:Heap)(i:Addr)(n:Nat):Src->Prop
 |.lst a=>h.IsListIter i a n
 |.tup a=>h.IsTupleIter i a n
 |.str x=>∃t,h.IsStrIter i (strIterType x) x t n
def Src.ad:Src->List Addr
 |.lst a=>[a]
 |.tup a=>[a]
 |.str _=>[]
section
variable{X:Cx}{pins:List (Addr×Obj)}{σ:L2.St}{H:Hp}{s:Shared}
theorem Src.inj{S:Src}{us ws:List V}(I:L2.Inv X pins σ H s)(h:S.sq X.K H us)(h':S.sq X.K H ws):us=ws:=by
 cases S with
 |lst a=>exact I.list_inj h h'
 |tup a=>exact I.tuple_inj h h'
 |str x=>exact Eq.trans h (Eq.symm h')
theorem Src.draws{S:Src}{us:List V}{i:Addr}{n:Nat}(I:L2.Inv X pins σ H s)(hA:X.A.handled=none)(hs:S.sq X.K H us)(hi:S.it s.heap i n)(hne:∀a∈S.ad,a≠i) :
  ∃(P:Nat->Value->Prop) (St:Nat->Heap->Prop),Draws X.prog X.w X.A.in1 i (i::S.ad) us.length P St/\St n s.heap/\(∀m h,St m h->S.it h i m)/\∀(m:Nat) (v:Value) (x:V),P m v->us[m]?=some x->RelV x v:=by
 cases S with
 |lst a=>
  obtain⟨its,rv,p,hz⟩:=I.list hs
  have hl:=rv.length
  have D:=Draws.list (prog:=X.prog) (w:=X.w) (A:=X.A.in1) hA i a (hne a (by simp[Src.ad])) its.toArray
  rw[List.size_toArray,←hl]at D
  refine⟨_,_,D,⟨hi,p.isList⟩,fun m h z=>z.1,fun m v x hv hx=>?_⟩
  obtain⟨u,hu,ru⟩:=rv.get hx
  have:v=u:=ari (hv.symm.trans (by simpa using hu))
  rw[this]
  exact ru
 |tup a=>
  obtain⟨its,rv,p,hz⟩:=I.tuple hs
  have hl:=rv.length
  have D:=Draws.tuple (prog:=X.prog) (w:=X.w) (A:=X.A.in1) hA i a (hne a (by simp[Src.ad])) its.toArray
  rw[List.size_toArray,←hl]at D
  refine⟨_,_,D,⟨hi,p⟩,fun m h z=>z.1,fun m v x hv hx=>?_⟩
  obtain⟨u,hu,ru⟩:=rv.get hx
  have:v=u:=ari (hv.symm.trans (by simpa using hu))
  rw[this]
  exact ru
 |str x=>
  obtain⟨t,hi⟩:=hi
  have hl:us.length=x.cps.size:=by
   rw[show us=chars x from hs]
   unfold chars
   rw[aq7,arD]
  have D:=Draws.text (prog:=X.prog) (w:=X.w) (A:=X.A.in1) hA i x t
  rw[←hl]at D
  refine⟨_,_,D,hi,fun m h z=>⟨t,z⟩,fun m v y hv hy=>?_⟩
  obtain⟨c,u,hc,rfl⟩:=hv
  rw[show us=chars x from hs]at hy
  unfold chars at hy
  rw[aq9,arO,hc]at hy
  cases hy
  exact⟨u,rfl⟩
theorem Src.M8{S:Src}{h:Heap}{i:Addr}{n:Nat}(hi:S.it h i n):∃o,h.get? i=some o/\∀v,o.data≠.cell v:=by
 cases S with
 |lst a=>obtain⟨o,e,_,d⟩:=hi;exact⟨o,e,fun v q=>by rw[d]at q;cases q⟩
 |tup a=>obtain⟨o,e,_,d⟩:=hi;exact⟨o,e,fun v q=>by rw[d]at q;cases q⟩
 |str x=>obtain⟨t,o,e,_,d⟩:=hi;exact⟨o,e,fun v q=>by rw[d]at q;cases q⟩
theorem Src.Mx{S:Src}{h h':Heap}{i:Addr}{n:Nat}(hi:S.it h i n)(k:∀o,h.get? i=some o->h'.get? i=some o):S.it h' i n:=by
 cases S with
 |lst a=>exact hi.at k
 |tup a=>exact hi.at k
 |str x=>obtain⟨t,o,e,r⟩:=hi;exact⟨t,o,k o e,r⟩
end
def ItE(K:aqV)(S:Src)(k₀:Int):It:=
 ⟨fun i H=>∃(us:List V) (x:V),S.sq K H us/\us[i]?=some x,fun i H v H'=>∃T x,v=.ref T/\H T=none/\H'=upd H T (.tup [.int (k₀+(i:Int)),x])/\∀us,S.sq K H us->us[i]?=some x,fun i H=>∃us:List V,S.sq K H us/\us.length=i⟩
theorem alV{P:Program}{w:World}{K:aqV}{elts:List Expr}{kk:Nat}{tpos:Pos}(S:Src)(e i0:Addr)(k₀:Int)(hne:e≠i0)(ha:∀a∈S.ad,e≠a/\a≠i0) :
  Turn P w K (.Tuple elts kk tpos) (ItE K S k₀) [e,i0] e (fun i h=>(∃old,IsEnum h e i0 (k₀+(i:Int)) old)/\S.it h i0 i) where
 mem:=by simp
 obj:=fun i h st b hb=>by
  obtain⟨⟨old,he⟩,hi⟩:=st
  have e':b=e∨b=i0:=by simpa using hb
  rcases e' with z|z
  ·rw[z];exact⟨_,he,fun v q=>nomatch q⟩
  ·rw[z];exact Src.M8 hi
 keep:=fun i h h' st k=>let ⟨⟨old,he⟩,hi⟩:=st;⟨⟨old,k e (by simp) _ he⟩,Src.Mx hi fun o q=>k i0 (by simp) o q⟩
 item:=by
  intro X hP hw hK hc i pins s σ H E I hf st hg
  subst hP hw hK
  obtain⟨⟨old,he⟩,hit⟩:=st
  obtain⟨us,x,hq,hx⟩:=hg
  obtain⟨PP,St,D,st0,stI,rel⟩:=Src.draws I (I.ok.hd hc) hq hit fun a z=>(ha a z).2
  have hel:e < s.heap.objs.size:=Heap.lt_size he
  have hil:i0 < s.heap.objs.size:=by obtain⟨_,q,_⟩:=Src.M8 hit;exact Heap.lt_size q
  have hin:i < us.length:=(aqX.mp hx).1
  refine wpAny_pyNext_enum_itemC D he st0 hin hne (fun z=>?_) fun v h' tk hP ho hst' hT hsz hk=>?_
  ·rcases ara.mp z with z|z
   ·exact hne z
   ·exact(ha e z).1 rfl
  have ru:=rel i v x hP hx
  refine⟨_,rfl,wpAny_letOwnedTupleGo_enum (s:={ s with heap:=h',toks:=tk+1 }) ho fun h'' he' sb=>?_⟩
  have hT2:h''.get? s.heap.objs.size=some { cls:=.type "tuple",data:=.seq #[.int (k₀+(i:Int)) tk,v] }:=(sb.2 _ (Nat.ne_of_gt hel)).trans hT
  have new:ObjOk X.prog X.w (upd H s.heap.objs.size (.tup [.int (k₀+(i:Int)),x])) h'' s.heap.objs.size (.tup [.int (k₀+(i:Int)),x]):=
   ⟨by show 2<=sizeLine;decide,[.int (k₀+(i:Int)) tk,v],.cons ⟨_,rfl⟩ (.cons ru .nil),⟨_,hT2,rfl,_,rfl⟩⟩
  have I1:L2.Inv X pins σ (upd H s.heap.objs.size (.tup [.int (k₀+(i:Int)),x])) { s with heap:=h'',toks:=tk+1 }:=
   I.turnedNew (ch:=[e,i0]) (fun b ob hb q=>(sb.2 b (fun z=>hb (by simp[z]))).trans (hk b ob (fun z=>hb (by simp[z])) (fun z=>hb (by simp[z])) q)) hf (aro _) new
  refine⟨.ref s.heap.objs.size,_,I1,rfl,⟨_,x,rfl,I.hok.fresh (aro _),rfl,fun ys hy=>by rw[Src.inj I hy hq];exact hx⟩,⟨⟨v,?_⟩,Src.Mx (stI _ _ hst') fun o q=>(sb.2 i0 (Ne.symm hne)).trans q⟩,fun b hb=>?_⟩
  ·have e1:k₀+((i+1:Nat):Int)=k₀+(i:Int)+1:=by omega
   rw[e1];exact he'
  ·have hb':b < s.heap.objs.size:=by
    have e':b=e∨b=i0:=by simpa using hb
    rcases e' with z|z
    ·rw[z];exact hel
    ·rw[z];exact hil
   rw[upd_ne (arE hb')]
   exact(hf b hb).1
 done:=by
  intro X hP hw hK hc i pins s σ H E I hf st hg
  subst hP hw hK
  obtain⟨⟨old,he⟩,hit⟩:=st
  obtain⟨us,hq,hx⟩:=hg
  obtain⟨PP,St,D,st0,stI,rel⟩:=Src.draws I (I.ok.hd hc) hq hit fun a z=>(ha a z).2
  obtain⟨f0,f1,f2,f3,f4,f5⟩:=hf i0 (by simp)
  rw[←hx]at st0
  exact wpAny_pyNext_enum_endD D he st0 fun h' eb=>⟨rfl,I.turned (t':=s.toks) (fun b o hb q=>eb b o hb q) f0 f1 f3 f4 f5⟩
 self:=fun A i s Q E st h=>let ⟨⟨_,he⟩,_⟩:=st;wpAny_pyIter_enum he h
theorem Src.begins{X:Cx}{pins:List (Addr×Obj)}{σ:L2.St}{H:Hp}{s:Shared}{S:Src}{us:List V}{x:V}{v:Value}(I:L2.Inv X pins σ H s)(hs:S.sq X.K H us)(hx:(∃a,x=.ref a/\S.ad=[a]/\(S=.lst a∨S=.tup a))∨∃y,S=.str y/\x=.str y)(r:RelV x v) :
  ∃(o:Obj) (B:Heap->Prop),Begins v o B/\B s.heap/\(∀h i,h.get? i=some o->S.it h i 0)/\∀a∈S.ad,a < s.heap.objs.size:=by
 rcases hx with⟨a,rfl,ha,h|h⟩|⟨y,h,rfl⟩
 ·subst h
  cases r
  obtain⟨its,rv,p,_⟩:=I.list hs
  obtain⟨o1,ho1,_⟩:=id p.isList
  refine⟨_,_,begins_list a its.toArray,p.isList,fun h i e=>⟨_,e,rfl,rfl⟩,fun b hb=>?_⟩
  rw[ha]at hb
  rw[aq2.mp hb]
  exact Heap.lt_size ho1
 ·subst h
  cases r
  obtain⟨its,rv,p,_⟩:=I.tuple hs
  obtain⟨o1,ho1,_⟩:=id p
  refine⟨_,_,begins_tuple a its.toArray,p,fun h i e=>⟨_,e,rfl,rfl⟩,fun b hb=>?_⟩
  rw[ha]at hb
  rw[aq2.mp hb]
  exact Heap.lt_size ho1
 ·subst h
  obtain⟨t,rfl⟩:=r
  exact⟨_,_,begins_text y t,trivial,fun h i e=>⟨t,_,e,rfl,rfl⟩,fun b hb=>nomatch hb⟩
def srcOf(x:V)(S:Src):Prop:=(∃a,x=.ref a/\S.ad=[a]/\(S=.lst a∨S=.tup a))∨∃y,S=.str y/\x=.str y
def iEn(K:aqV)(ta:TA)(k₀:Int):TI:=fun σ H R=>ta σ H fun vs H1=>∃x S us,vs=[x]/\srcOf x S/\S.sq K H1 us/\R (ItE K S k₀) H1
section
variable{X:Cx}{a b:Expr}{ta tb:TA}{p pos tpos:Pos}{elts:List Expr}{kk:Nat}
theorem akl{pins:List (Addr×Obj)}{σ:L2.St}{H:Hp}{s:Shared}(I:L2.Inv X pins σ H s):∀b∈[s.heap.objs.size+1,s.heap.objs.size],FpOk X pins H b:=fun b hb=>by
 have e':b=s.heap.objs.size+1∨b=s.heap.objs.size:=by simpa using hb
 have hle:s.heap.objs.size<=b:=by
  rcases e' with z|z
  ·rw[z];exact Nat.le_add_right _ _
  ·rw[z];exact aro _
 exact I.fpOk hle (I.hok.fresh hle)
theorem agz{pins:List (Addr×Obj)}{σ:L2.St}{H:Hp}{s:Shared}{S:Src}{us:List V}{x:V}{v:Value}{o:Obj}{k₀:Int}{R:It->Hp->Prop}{h':Heap}(I:L2.Inv X pins σ H s)(hlt:∀a∈S.ad,a < s.heap.objs.size)(hit:∀h i,h.get? i=some o->S.it h i 0)
  (he:IsEnum h' (s.heap.objs.size+1) s.heap.objs.size k₀ .none) (ho:h'.get? s.heap.objs.size=some o) (hk:∀b o,s.heap.get? b=some o->h'.get? b=some o) (q:R (ItE X.K S k₀) H) :
  wpAny (model X.prog X.w) X.A (pyIter (.ref (s.heap.objs.size+1))) (PIE X pins σ (.Tuple elts kk tpos) R) X.xe { s with heap:=h' }:=by
 refine wpAny_pyIter_enum he ?_
 have I2:L2.Inv X pins σ H { s with heap:=h' }:=I.kept (t':=s.toks) hk
 refine⟨s.heap.objs.size+1,[s.heap.objs.size+1,s.heap.objs.size],_,_,H,rfl,I2,alV S (s.heap.objs.size+1) s.heap.objs.size k₀ (Nat.succ_ne_self _) (fun a z=>?_),⟨⟨.none,?_⟩,hit _ _ ho⟩,akl I,q⟩
 ·have:=hlt a z
  exact⟨Nat.ne_of_gt (arV this),arE this⟩
 ·rw[show k₀+((0:Nat):Int)=k₀ by simp]
  exact he
theorem ae9{v:Value}{o:Obj}{B:Heap->Prop}(hB:Begins v o B) :
  Meets (Builtin.«enumerate.__new__» ⟨[.type "enumerate",v],[]⟩) (fun _ R s=>B s.heap/\
   R (.ok (.ret (.ref (s.heap.push o).objs.size))) { s with heap:=(s.heap.push o).push { cls:=.type "enumerate",data:=.fields #[.none,.bool false,.ref s.heap.objs.size,rawInt 0,.none,.none] } }):=
 .of_wp fun prog w A R s hh=>by
  obtain⟨hp,gs,dr,tk,os⟩:=s
  obtain⟨hb,hr⟩:=hh
  have hsub:=sub_enumerate
  have qi:∀{A':Around} {E:Value->Shared->Prop} {Q:Value->Shared->Prop},Q (.ref hp.objs.size) ⟨hp.push o,gs,dr,tk,os⟩->wpAny (model prog w) A' (pyIter v) Q E ⟨hp,gs,dr,tk,os⟩:=fun z=>hB.iter prog w _ _ ⟨hp,gs,dr,tk,os⟩ _ hb z
  wp_walk using qi
  refine wpAny_stack_any fun st=>wpAny_pure ?_
  split
  ·next c _ _ _ _ _=>
   cases(c==Value.type "enumerate") <;> (wp_walk using qi;exact⟨_,rfl,hr⟩)
  ·wp_walk using qi
   exact⟨_,rfl,hr⟩
theorem adH{prog:Program}{w:World}{A:Around}{E:Value->Shared->Prop}{s:Shared}{v:Value}{o:Obj}{B:Heap->Prop}{Q:Value->Shared->Prop}(hB:Begins v o B)(hb:B s.heap)
  (h:∀h',IsEnum h' (s.heap.objs.size+1) s.heap.objs.size 0 .none->h'.get? s.heap.objs.size=some o->(∀b o,s.heap.get? b=some o->h'.get? b=some o)->Q (.ref (s.heap.objs.size+1)) { s with heap:=h' }) :
  wpAny (model prog w) A (call (.type "enumerate") [v]) Q E s:=by
 refine callType_new F.called_enumerate (by decide) (F.typeCall_enumerate_1 _) (F.newCall_enumerate_1 _) (fun ob=>F.args_object_init_2 ob _) F.entry_enumerate_new (ae9 hB) ⟨hb,?_⟩
 have hz:(s.heap.push o).objs.size=s.heap.objs.size+1:=Heap.size_push ..
 have he:=Heap.get?_push_size (s.heap.push o) (o:={ cls:=.type "enumerate",data:=.fields #[.none,.bool false,.ref s.heap.objs.size,rawInt 0,.none,.none] }) rfl
 show _/\_
 rw[hz]at he ⊢
 exact⟨⟨_,he,rfl⟩,h _ he (Heap.get?_push_of_some _ (Heap.get?_push_size _ hB.free)) fun b u z=>Heap.get?_push_of_some _ (Heap.get?_push_of_some _ z)⟩
theorem aml(hg:Gl X "enumerate")(hm:X.mg "enumerate"=none)(ha:PA X [a] ta)(hs:nst a=true):PI X (.Tuple elts kk tpos) (.Call (.Name "enumerate" p) [a] [] pos) (iEn X.K ta 0):=by
 refine⟨fun pins s σ H R I h=>?_⟩
 refine Call_ (ld_blt I hg hm boot_enumerate (PyProof.Rows.callWith_type1 (thn (ha.run pos pins s σ H _ I h) fun us s1 ⟨vs,H1,I1,r1,x,S,us',ev,hx,hq,q⟩=>?_) (cD hs []) (by with_unfolding_all rfl)))
 subst ev
 obtain⟨v,rfl,r⟩:=vals1 r1
 obtain⟨o,B,hB,hb,hit,hlt⟩:=Src.begins I1 hq hx r
 exact adH hB hb fun h' he ho hk=>agz (x:=x) (v:=v) (us:=us') I1 hlt hit he ho hk q
theorem adE{M:Model}{A:Around}{E:Value->Shared->Prop}{s:Shared}{pos:Pos}{T:String}{args:List (Bool×Sem Value)}{kws:List (Option Str×Sem Value)}{Q:Value->Shared->Prop}(h1:args.any (·.1)=false)(h2:kws.any (·.1.isNone)=false)
  (h:wpAny M A (evalArgs (.type T) true args kws) (fun z s₁=>wpAny M A (call (.type T) z.pos z.kw) Q E s₁) E s):wpAny M A (callWith pos (.type T) [] args kws) Q E s:=by
 unfold callWith
 refine wpAny_bind (wpAny_holding (wpAny_mono h (fun z s₁ hz=>wpAny_bind (wpAny_standAt ?_)) fun _ _ y=>y))
 rw[h1,h2]
 refine wpAny_bind (wpAny_pure ?_)
 exact wpAny_bind (wpAny_mono hz (fun r s₂ hr=>wpAny_bind (wpAny_holding (wpAny_point (wpAny_pure hr)))) fun _ _ y=>y)
theorem akI{k₀:Int}{j:Nat}{kp kp2:Pos}(hk0 : -(2 ^ 63)<=k₀)(hk1:k₀ < 2 ^ 63)(hg:Gl X "enumerate")(hm:X.mg "enumerate"=none)(ha:PA X [a] ta)(hs:nst a=true) :
  PI X (.Tuple elts kk tpos) (.Call (.Name "enumerate" p) [a] [⟨some "start",.Constant (.int k₀) j kp,kp2⟩] pos) (iEn X.K ta k₀):=by
 refine⟨fun pins s σ H R I h=>?_⟩
 have hpk:PK X [⟨some "start",.Constant (.int k₀) j kp,kp2⟩] (tCons (tC (.int k₀)) tNil):=pk_cons pe_int pk_nil
 refine wpAny_Call_Name_kw (ld_blt I hg hm boot_enumerate (adE (star_any [a] (by simp[hs])) (by with_unfolding_all rfl) ?_))
 refine PyProof.Rows.evalArgs_kw2 (by with_unfolding_all rfl) (thn (ha.run pos pins s σ H _ I h) fun us s1 ⟨vs,H1,I1,r1,x,S,us',ev,hx,hq,q⟩=>?_) (by first | (rw[cD hs];done) | (rw[cD hs];rfl) | rw[cD hs])
 refine thn (hpk.run pos pins s1 σ H1 (fun zs H2=>zs=[.int k₀]/\H2=H1) I1 ⟨rfl,rfl⟩) fun ws s2 ⟨zs,H2,I2,r2,e1,e2⟩=>?_
 subst ev e1 e2
 obtain⟨v,rfl,r⟩:=vals1 r1
 obtain⟨w,rfl,t,rfl⟩:=vals1 r2
 obtain⟨o,B,hB,hb,hit,hlt⟩:=Src.begins I2 hq hx r
 exact enum_begins_start hB hb hk0 hk1 fun h' he ho _ hk=>agz (x:=x) (v:=v) (us:=us') I2 hlt hit he ho hk q
def ItZ(K:aqV)(S T:Src):It:=
 ⟨fun i H=>∃(us ws:List V) (x y:V),S.sq K H us/\T.sq K H ws/\us[i]?=some x/\ws[i]?=some y,fun i H v H'=>∃U x y,v=.ref U/\H U=none/\H'=upd H U (.tup [x,y])/\(∀us,S.sq K H us->us[i]?=some x)/\∀ws,T.sq K H ws->ws[i]?=some y,
  fun i H=>∃us ws:List V,S.sq K H us/\T.sq K H ws/\i=min us.length ws.length⟩
theorem aly{P:Program}{w:World}{K:aqV}{S T:Src}{N:Addr}(h1:∀a∈S.ad,a < N)(h2:∀a∈T.ad,a < N) :
  Turn P w K (.Tuple elts kk tpos) (ItZ K S T) [N+4,N+2,N+3,N,N+1] (N+4) (fun n h=>IsZip h (N+4) (N+2) (N+3) .none/\IsPair h (N+2) (.ref N) (.ref (N+1))/\(∃x y,IsPair h (N+3) x y)/\S.it h N n/\T.it h (N+1) n) where
 mem:=by simp
 obj:=fun n h q c hc=>by
  obtain⟨gz,gI,⟨x,y,gO⟩,i1,i2⟩:=q
  simp only[ara,arB,or_false]at hc
  rcases hc with rfl|rfl|rfl|rfl|rfl
  ·exact⟨_,gz,fun v q=>nomatch q⟩
  ·exact⟨_,gI,fun v q=>nomatch q⟩
  ·exact⟨_,gO,fun v q=>nomatch q⟩
  ·exact Src.M8 i1
  ·exact Src.M8 i2
 keep:=fun n h h' q k=>by
  obtain⟨gz,gI,⟨x,y,gO⟩,i1,i2⟩:=q
  exact⟨k _ (by simp) _ gz,k _ (by simp) _ gI,⟨x,y,k _ (by simp) _ gO⟩,Src.Mx i1 fun o e=>k _ (by simp) o e,Src.Mx i2 fun o e=>k _ (by simp) o e⟩
 item:=by
  intro X hP hw hK hc n pins s σ H E I hf q hg
  subst hP hw hK
  obtain⟨gz,gI,⟨x0,y0,gO⟩,i1,i2⟩:=q
  obtain⟨us,ws,x,y,qx,qy,hx,hy⟩:=hg
  obtain⟨P1,St1,D1,st1,b1,rel1⟩:=Src.draws I (I.ok.hd hc) qx i1 fun a z=>arE (h1 a z)
  obtain⟨P2,St2,D2,st2,b2,rel2⟩:=Src.draws I (I.ok.hd hc) qy i2 fun a z=>arE (arV (h2 a z))
  have hzl:N+4 < s.heap.objs.size:=Heap.lt_size gz
  refine wpAny_pyNext_zipD2_item (zip_sep2 h1 h2) D1 D2 gz gI gO st1 st2 (aqX.mp hx).1 (aqX.mp hy).1 fun v1 v2 h' tk p1 p2 z' o' s1 s2 hT hsz hk=>?_
  refine⟨_,rfl,wpAny_letOwnedTupleGo_zip (s:={ s with heap:=h',toks:=tk }) z' fun h'' z'' sb=>?_⟩
  have hT2:=(sb.2 _ (Nat.ne_of_gt hzl)).trans hT
  have new:ObjOk X.prog X.w (upd H s.heap.objs.size (.tup [x,y])) h'' s.heap.objs.size (.tup [x,y]):=⟨by show 2<=sizeLine;decide,[v1,v2],.cons (rel1 n v1 x p1 hx) (.cons (rel2 n v2 y p2 hy) .nil),⟨_,hT2,rfl,_,rfl⟩⟩
  have I1:L2.Inv X pins σ (upd H s.heap.objs.size (.tup [x,y])) { s with heap:=h'',toks:=tk }:=by
   refine I.turnedNew (t':=tk) (ch:=[N+4,N+2,N+3,N,N+1]) (fun c o hb e=>?_) hf (aro _) new
   simp only[ara,arB,or_false,not_or]at hb
   exact(sb.2 c hb.1).trans (hk c o hb.1 hb.2.2.1 hb.2.2.2.1 hb.2.2.2.2 e)
  have ne4:∀k,k≠4->N+k≠N+4:=fun k hk z=>hk (ash z)
  refine⟨.ref s.heap.objs.size,_,I1,rfl,⟨_,x,y,rfl,I.hok.fresh (aro _),rfl,fun l hl=>by rw[Src.inj I hl qx];exact hx,fun l hl=>by rw[Src.inj I hl qy];exact hy⟩,⟨z'',?_,⟨v1,v2,?_⟩,?_,?_⟩,fun c hcm=>?_⟩
  ·exact(sb.2 _ (ne4 2 (by decide))).trans (hk _ _ (ne4 2 (by decide)) (fun z=>absurd (ash z) (by decide)) (fun z=>absurd (ash (z.trans (Nat.add_zero N).symm)) (by decide)) (fun z=>absurd (ash z) (by decide)) gI)
  ·exact(sb.2 _ (ne4 3 (by decide))).trans o'
  ·exact Src.Mx (b1 _ _ s1) fun o e=>(sb.2 _ (ne4 0 (by decide))).trans e
  ·exact Src.Mx (b2 _ _ s2) fun o e=>(sb.2 _ (ne4 1 (by decide))).trans e
  ·have hlt:c < s.heap.objs.size:=by
    simp only[ara,arB,or_false]at hcm
    rcases hcm with rfl|rfl|rfl|rfl|rfl
    ·exact hzl
    ·exact Heap.lt_size gI
    ·exact Heap.lt_size gO
    ·obtain⟨_,e1,_⟩:=Src.M8 i1
     exact Heap.lt_size e1
    ·obtain⟨_,e2,_⟩:=Src.M8 i2
     exact Heap.lt_size e2
   rw[upd_ne (arE hlt)]
   exact(hf c hcm).1
 done:=by
  intro X hP hw hK hc n pins s σ H E I hf q hg
  subst hP hw hK
  obtain⟨gz,gI,⟨x0,y0,gO⟩,i1,i2⟩:=q
  obtain⟨us,ws,qx,qy,hn⟩:=hg
  obtain⟨P1,St1,D1,st1,b1,rel1⟩:=Src.draws I (I.ok.hd hc) qx i1 fun a z=>arE (h1 a z)
  obtain⟨P2,St2,D2,st2,b2,rel2⟩:=Src.draws I (I.ok.hd hc) qy i2 fun a z=>arE (arV (h2 a z))
  refine wpAny_pyNext_zipD2_end (zip_sep2 h1 h2) D1 D2 gz gI gO st1 st2 (by omega) (by omega) (by omega) fun h' tk hk=>⟨rfl,?_⟩
  refine I.turnedL (t':=tk) (ch:=[N+4,N+2,N+3,N,N+1]) (fun c o hb e=>?_) hf
  simp only[ara,arB,or_false,not_or]at hb
  exact hk c o hb.1 hb.2.2.1 hb.2.2.2.1 hb.2.2.2.2 e
 self:=fun A n s Q E q h=>wpAny_pyIter_zip q.1 h
def iZp(K:aqV)(ta:TA):TI:=fun σ H R=>ta σ H fun vs H1=>∃x y S T us ws,vs=[x,y]/\srcOf x S/\srcOf y T/\S.sq K H1 us/\T.sq K H1 ws/\R (ItZ K S T) H1
theorem alf(hg:Gl X "zip")(hm:X.mg "zip"=none)(ha:PA X [a,b] ta)(hs:nst a=true)(hs2:nst b=true):PI X (.Tuple elts kk tpos) (.Call (.Name "zip" p) [a,b] [] pos) (iZp X.K ta):=by
 refine⟨fun pins s σ H R I h=>?_⟩
 refine Call_ (ld_blt I hg hm PyProof.Rows.boot_zip (PyProof.Rows.callWith_type1 (thn (ha.run pos pins s σ H _ I h) fun us s1 ⟨vs,H1,I1,r1,x,y,S,T,us',ws',ev,hx,hy,hq,hq2,q⟩=>?_) (cD hs [b]) (star_any [b] (by simp[hs2]))))
 subst ev
 obtain⟨v1,v2,rfl,rv1,rv2⟩:=vals2 r1
 obtain⟨o1,B1,hB1,hb1,hit1,hlt1⟩:=Src.begins I1 hq hx rv1
 obtain⟨o2,B2,hB2,hb2,hit2,hlt2⟩:=Src.begins I1 hq2 hy rv2
 refine zip_begins2 hB1 hB2 hb1 hb2 fun h' hz hTI hTO e1 e2 hsz hk=>wpAny_pyIter_zip hz ?_
 have I2:L2.Inv X pins σ H1 { s1 with heap:=h' }:=I1.kept (t':=s1.toks) hk
 refine⟨s1.heap.objs.size+4,_,_,_,H1,rfl,I2,aly hlt1 hlt2,⟨hz,hTI,⟨_,_,hTO⟩,hit1 _ _ e1,hit2 _ _ e2⟩,fun c hcm=>?_,q⟩
 have hle:s1.heap.objs.size<=c:=by
  simp only[ara,arB,or_false]at hcm
  rcases hcm with rfl | rfl | rfl | rfl | rfl <;> first | exact aro _ | exact Nat.le_add_right _ _
 exact I1.fpOk hle (I1.hok.fresh hle)
end
section
variable{K:aqV}{aj:aR}{q:Bool}{g g':Gh}{H H':Hp}{v:V}{d:Dat}{σ:L2.St}{ρ:Env}{M:Mo}
theorem jH.up{l:Addr}:∀{n:Bool} {kvs:List (Dat×Dat)} (r:Gr true g g' H H') (e:Ex H H') (k:Kd g H) (h:jH K aj g H l n kvs),jH K aj g' H' l n kvs
 |false,_,r,e,k,⟨kv,h1,h2,h3⟩=>⟨kv,e _ _ h1,h2,h3.gr r k⟩
 |true,_,r,e,k,⟨o,xs,vs,h1,h2,h3,h4,h5,h6⟩=>⟨o,xs,vs,e _ _ h1,h2,h3,h4.gr r k,h5,h6.gr r k⟩
theorem dZ.up{h:Nat}{f:Str}(r:Gr true g g' H H')(e:Ex H H')(k:Kd g H):∀{fl:jr},dZ K aj g H h f v fl->dZ K aj g' H' h f v fl
 |.dat _,z=>Rep.gr r k z
 |.lst _ _,⟨l,us,h1,h2,h3,h4,h5⟩=>⟨l,us,h1,e _ _ h2,by rw[(r.qg rfl).2];exact h3,h4.gr r k,r.tb h5⟩
 |.dic _ _,⟨l,h1,h2,h3⟩=>⟨l,h1,by rw[(r.qg rfl).2];exact h2,h3.up r e k⟩
theorem cM.up{h:Nat}(r:Gr true g g' H H')(e:Ex H H')(k:Kd g H):∀{fs:List (Str×V)} {gs:List (Str×jr)},cM K aj g H h fs gs->cM K aj g' H' h fs gs
 |_,_,.nil=>.nil
 |_,_,.cons z t=>.cons (dZ.up r e k z) (cM.up r e k t)
theorem gj.up(r:Gr true g g' H H')(e:Ex H H')(k:Kd g H)(w:gj K aj g H M):gj K aj g' H' M where
 len:=by rw[(r.qg rfl).1];exact w.len
 inj:=by rw[(r.qg rfl).1];exact w.inj
 ins:=fun h a i ha hi hc=>by
  rw[(r.qg rfl).1]at ha
  obtain⟨C,dx,fs,c1,c2,c3⟩:=w.ins h a i ha hi hc
  exact⟨C,dx,fs,c1,e _ _ c2,c3.up r e k⟩
 nd:=w.nd
 fd:=w.fd
 tw:=by rw[(r.qg rfl).1,(r.qg rfl).2];exact w.tw
 dm:=w.dm
 nc:=w.nc
theorem SInv.up(r:Gr true g g' H H')(e:Ex H H')(k':Kd g' H')(I:SInv K aj σ H g ρ M):SInv K aj σ H' g' ρ M where
 kd:=k'
 wok:=I.wok.up r e I.kd
 len:=I.len
 dat:=fun i d h=>by
  obtain⟨v,h1,h2⟩:=I.dat i d h
  exact⟨v,h1,h2.gr r I.kd⟩
 own:=fun i xs h=>by
  obtain⟨l,us,h1,h2,h3,h4⟩:=I.own i xs h
  exact⟨l,us,h1,e _ _ h2,r.Lo l h3,h4.gr r I.kd⟩
 sep:=I.sep
def Gh.add(g:Gh)(D:Addr):Gh:={ g with Lo:=fun a=>g.Lo a∨a=D }
theorem Gh.Dc{D:Addr}(n:H D=none)(e:Ex H H'):Gr true g (g.add D) H H' where
 keep:=fun a o h _ _=>e a o h
 keepW:=fun _ a o h _=>e a o h
 dom:=yr e
 tbl:=⟨[],by simp[Gh.add]⟩
 W:=fun _ h=>h
 nW:=fun _ h=>.inl h
 qg:=fun _=>⟨rfl,rfl⟩
 Lc:=rfl
 Lo:=fun _ h=>.inl h
 nLo:=fun a h=>h.elim .inl fun z=>.inr (by rw[z];exact n)
theorem Gh.aje{D:Addr}{o:HO}(k:Kd g H)(n:H D=none)(e:Ex H H')(hD:H' D=some o)(m:Iz o):Kd (g.add D) H' where
 ob:=fun a z=>by
  rcases z with z|z|z|z
  ·obtain⟨o,h,m⟩:=k.ob a (.inl z);exact⟨o,e a o h,m⟩
  ·obtain⟨o,h,m⟩:=k.ob a (.inr (.inl z));exact⟨o,e a o h,m⟩
  ·obtain⟨o,h,m⟩:=k.ob a (.inr (.inr z));exact⟨o,e a o h,m⟩
  ·rw[z];exact⟨o,hD,m⟩
 lo:=fun a z=>by
  rcases z with z|z
  ·exact k.lo a z
  ·intro w
   subst z
   exact k.fresh n (.inl w)
 lc:=fun a z=>⟨(k.lc a z).1,fun y=>y.elim (k.lc a z).2 fun y=>by subst y;exact k.fresh n (.inr (.inl z))⟩
theorem SInv.add{D:Addr}{o:HO}(I:SInv K aj σ H g ρ M)(n:H D=none)(e:Ex H H')(hD:H' D=some o)(m:Iz o):SInv K aj σ H' (g.add D) ρ M:=
 I.up (Gh.Dc n e) e (Gh.aje I.kd n e hD m)
theorem SInv.set{j:Nat}(I:SInv K aj σ H g ρ M)(r:Rep K g H v d):SInv K aj (σ.set j (some v)) H g (ρ.set j (some (.dat d))) M where
 kd:=I.kd
 wok:=I.wok
 len:=by rw[arq,arq];exact I.len
 dat:=fun i e h=>by
  by_cases z:j=i
  ·subst z
   have hj:j < ρ.length:=by
    have:=(aqX.mp h).1
    rw[arq]at this
    exact this
   rw[arf hj]at h
   cases h
   exact⟨v,by rw[arf (by rw[I.len];exact hj)],r⟩
  ·rw[aq4 z]at h
   obtain⟨u,h1,h2⟩:=I.dat i e h
   exact⟨u,by rw[aq4 z];exact h1,h2⟩
 own:=fun i xs h=>by
  by_cases z:j=i
  ·subst z
   have hj:j < ρ.length:=by
    have:=(aqX.mp h).1
    rw[arq]at this
    exact this
   rw[arf hj]at h
   cases h
  ·rw[aq4 z]at h
   obtain⟨l,us,h1,h2⟩:=I.own i xs h
   exact⟨l,us,by rw[aq4 z];exact h1,h2⟩
 sep:=fun i k xs ys l ne h1 h2 h3=>by
  have nj:∀{i:Nat} {xs:List Dat},(ρ.set j (some (.dat d)))[i]?=some (some (.mut xs))->j≠i:=fun {i xs} h z=>by
   subst z
   have hj:j < ρ.length:=by
    have:=(aqX.mp h).1
    rw[arq]at this
    exact this
   rw[arf hj]at h
   cases h
  have n1:=nj h1
  have n2:=nj h2
  rw[aq4 n1]at h1 h3
  rw[aq4 n2]at h2
  rw[aq4 n2]
  exact I.sep i k xs ys l ne h1 h2 h3
theorem SInv.forget{j:Nat}(I:SInv K aj σ H g ρ M):SInv K aj (σ.set j none) H g (ρ.set j none) M where
 kd:=I.kd
 wok:=I.wok
 len:=by rw[arq,arq];exact I.len
 dat:=fun i e h=>by
  by_cases z:j=i
  ·subst z
   have hj:j < ρ.length:=by
    have:=(aqX.mp h).1
    rw[arq]at this
    exact this
   rw[arf hj]at h
   cases h
  ·rw[aq4 z]at h ⊢
   exact I.dat i e h
 own:=fun i xs h=>by
  by_cases z:j=i
  ·subst z
   have hj:j < ρ.length:=by
    have:=(aqX.mp h).1
    rw[arq]at this
    exact this
   rw[arf hj]at h
   cases h
  ·rw[aq4 z]at h ⊢
   exact I.own i xs h
 sep:=fun i k xs ys l ne h1 h2 h3=>by
  have nj:∀{i:Nat} {xs:List Dat},(ρ.set j none)[i]?=some (some (.mut xs))->j≠i:=fun {i xs} h z=>by
   subst z
   have hj:j < ρ.length:=by
    have:=(aqX.mp h).1
    rw[arq]at this
    exact this
   rw[arf hj]at h
   cases h
  have n1:=nj h1
  have n2:=nj h2
  rw[aq4 n1]at h1 h3
  rw[aq4 n2]at h2
  rw[aq4 n2]
  exact I.sep i k xs ys l ne h1 h2 h3
def bR(ρ:Env):List Nat->Env
 |[]=>ρ
 |j::js=>(bR ρ js).set j none
theorem SInv.wipe(I:SInv K aj σ H g ρ M):∀vs:List Nat,SInv K aj (L2.wipe σ vs) H g (bR ρ vs) M
 |[]=>I
 |j::js=>(SInv.wipe I js).forget
end
abbrev fG:=Dat->Env->Option Env
def aF(j:Nat):fG:=fun d ρ=>some (ρ.set j (some (.dat d)))
def uV:List Nat->List Dat->Env->Option Env
 |[],[],ρ=>some ρ
 |j::js,d::ds,ρ=>uV js ds (ρ.set j (some (.dat d)))
 |_,_,_=>none
def bD(js:List Nat):fG:=fun d ρ=>match d with
 |.tuple ds=>uV js ds ρ
 |_=>none
def sets(σ:L2.St):List Nat->List V->L2.St
 |j::js,v::vs=>sets (σ.set j (some v)) js vs
 |_,_=>σ
def xK(K:aqV)(aj:aR)(js:List Nat)(f:fG):TG:=fun v σ H Q=>∃g ρ M d ρ',SInv K aj σ H g ρ M/\Rep K g H v d/\f d ρ=some ρ'/\∀vs,SInv K aj (sets σ js vs) H g ρ' M->Q (sets σ js vs) H
def QG(aj:aR)(X:Cx)(tg:Expr)(js:List Nat)(f:fG):Prop:=PG X tg (xK X.K aj js f)
theorem PG.weak{X:Cx}{e:Expr}{t t':TG}(h:PG X e t)(k:∀v σ H Q,t' v σ H Q->t v σ H Q):PG X e t':=⟨fun pins s σ H v u Q I r q=>h.run pins s σ H v u Q I r (k v σ H Q q)⟩
section
variable{X:Cx}{aj:aR}{pos:Pos}
theorem Ux{j:Nat}{x:Str}(hN:X.N.Nodup)(hi:X.N[j]?=some x)(hx:Loc X.env.scope x)(hf:X.fn x=true∨X.env.scope.names.lookup x=some .local):QG aj X (.Name x pos) [j] (aF j):=
 PG.weak (pg_name hN hi hx hf) fun v σ H Q ⟨g,ρ,M,d,ρ',I,r,e,q⟩=>by
  cases e
  exact q [v] (I.set r)
def Ro(X:Cx):List Expr->List Nat->Prop
 |[],[]=>True
 |.Name x _::es,j::js=>X.N[j]?=some x/\Loc X.env.scope x/\(X.fn x=true∨X.env.scope.names.lookup x=some .local)/\Ro X es js
 |_,_=>False
theorem afG{es:List Expr}{js:List Nat}(h:Ro X es js):(assignEach es X.env).length=js.length/\(assignEach es X.env).findIdx? (·.1)=none:=by
 induction es generalizing js with
 |nil=>
  cases js with
  |nil=>exact⟨by with_unfolding_all rfl,by with_unfolding_all rfl⟩
  |cons j js=>exact False.elim h
 |cons e es ih=>
  cases js with
  |nil=>cases e <;> exact False.elim h
  |cons j js=>
   cases e with
   |Name x p=>
    obtain⟨h1,h2⟩:=ih h.2.2.2
    have e1:assignEach (.Name x p::es) X.env=(false,assign (.Name x p) X.env)::assignEach es X.env:=by with_unfolding_all rfl
    rw[e1]
    refine⟨by simp[h1],?_⟩
    rw[List.findIdx?_cons,h2]
    rfl
   |_=>exact False.elim h
def gNs(js:List Nat):TGs:=fun vs σ H Q=>vs.length=js.length/\Q (sets σ js vs) H
theorem V8(hN:X.N.Nodup):∀{es:List Expr} {js:List Nat},Ro X es js->PGs X es (gNs js)
 |[],[],_=>⟨fun pins s σ H vs us Q I r h=>by
  obtain⟨e,h⟩:=h
  have:vs=[]:=List.length_eq_zero_iff.mp e
  subst this
  exact pgs_nil.run pins s σ H [] us Q I r ⟨rfl,h⟩⟩
 |.Name x p::es,j::js,h=>by
  have hp:=pgs_cons (pg_name (pos:=p) hN h.1 h.2.1 h.2.2.1) (V8 hN h.2.2.2) (by with_unfolding_all rfl)
  refine⟨fun pins s σ H vs us Q I r hq=>?_⟩
  obtain⟨e,hq⟩:=hq
  cases vs with
  |nil=>cases e
  |cons v vs=>exact hp.run pins s σ H (v::vs) us Q I r ⟨v,vs,rfl,asj e,hq⟩
 |[],_::_,h=>False.elim h
 |.Name _ _::_,[],h=>False.elim h
theorem RL{K:aqV}{g:Gh}{H:Hp}{M:Mo}:∀{js:List Nat} {ds:List Dat} {vs:List V} {σ:L2.St} {ρ ρ':Env},SInv K aj σ H g ρ M->aM K g H vs ds->uV js ds ρ=some ρ'->vs.length=js.length/\SInv K aj (sets σ js vs) H g ρ' M
 |[],_,_,_,_,_,I,.nil,e=>by cases e;exact⟨rfl,I⟩
 |[],_,_,_,_,_,I,.cons _ _,e=>by cases e
 |j::js,_,_,_,_,_,I,.nil,e=>by cases e
 |j::js,_,_,_,_,_,I,.cons r t,e=>by
  obtain⟨h1,h2⟩:=RL (js:=js) (I.set (j:=j) r) t e
  exact⟨by simp[h1],h2⟩
theorem aeA{es:List Expr}{js:List Nat}{k:Nat}(hc:X.calm=true)(hN:X.N.Nodup)(h:Ro X es js):QG aj X (.Tuple es k pos) js (bD js):=by
 obtain⟨h1,h2⟩:=afG h
 refine PG.weak (pg_tup (n:=js.length) hc (V8 hN h) h1 h2) fun v σ H Q ⟨g,ρ,M,d,ρ',I,r,e,q⟩=>?_
 unfold bD at e
 split at e
 ·obtain⟨a,us,rfl,s1,t1⟩:=lC r.weak
  obtain⟨l1,I1⟩:=RL I t1 e
  exact⟨a,us,rfl,s1,l1,l1,q us I1⟩
 ·cases e
theorem w6:∀(js:List Nat) (vs:List V) (σ:L2.St) (ws:List Nat),(∀j∈js,j∈ws)->L2.wipe (sets σ js vs) ws=L2.wipe σ ws
 |[],_,_,_,_=>by unfold sets;rfl
 |_::_,[],_,_,_=>by unfold sets;rfl
 |j::js,v::vs,σ,ws,h=>by
  show L2.wipe (sets (σ.set j (some v)) js vs) ws=_
  rw[w6 js vs _ ws fun k hk=>h k (aq0 _ hk)]
  have hj:j∈ws:=h j aq1
  have key:∀(ws:List Nat) (σ:L2.St),j∈ws->L2.wipe (σ.set j (some v)) ws=L2.wipe σ ws:=by
   intro ws
   induction ws with
   |nil=>intro σ z;cases z
   |cons k ws ih=>
    intro σ z
    show(L2.wipe (σ.set j (some v)) ws).set k none=(L2.wipe σ ws).set k none
    by_cases hk:j∈ws
    ·rw[ih σ hk]
    ·have e:j=k:=by
      rcases ara.mp z with z|z
      ·exact z
      ·exact absurd z hk
     subst e
     have comm:∀(ws:List Nat),j∉ws->L2.wipe (σ.set j (some v)) ws=(L2.wipe σ ws).set j (some v):=by
      intro ws
      induction ws with
      |nil=>intro _;rfl
      |cons m ws ih2=>
       intro hm
       show(L2.wipe (σ.set j (some v)) ws).set m none=((L2.wipe σ ws).set m none).set j (some v)
       rw[ih2 fun z=>hm (aq0 _ z),List.set_comm _ _ (fun z=>hm (by rw[z];exact aq1))]
     rw[comm ws hk,List.set_set]
  exact key ws σ hj
end
structure JT(K:aqV)(J:It)(C:Gh->Hp->Prop)(ds:List Dat):Prop where
 go:∀g i H,C g H->i < ds.length->J.go i H
 yld:∀g i H x H' d,Kd g H->C g H->ds[i]?=some d->J.yld i H x H'->Ex H H'/\Rep K g H' x d
 stop:∀g i H,C g H->i=ds.length->J.stop i H
 ex:∀g H H',Kd g H->C g H->Ex H H'->C g H'
 add:∀g g' H H',Kd g H->C g H->Gr true g g' H H'->Ex H H'->C g' H'
def ab4(C:Gh->Hp->Prop):Prop:=∀q g g' H H',Kd g H->C g H->Gr q g g' H H'->C g' H'
abbrev IF:=Mo->Env->Out (List Dat)
def tI(K:aqV)(aj:aR)(W:WX)(firm:Bool)(f:IF):TI:=fun σ H R=>∃g ρ M,SInv K aj σ H g ρ M/\(f M ρ).sat (fun ds=>∀J C H',Ex H H'->JT K J C ds->C g H'->(firm=true->ab4 C)->R J H') (qD K aj W g H σ)
def QI(aj:aR)(X:Cx)(W:WX)(firm:Bool)(tg e:Expr)(f:IF):Prop:=PI X tg e (tI X.K aj W firm f)
def aah(x:Str):List Dat:=x.cps.toList.map fun c=>.str ⟨#[c]⟩
def oK:Dat->Out (List Dat)
 |.list ds=>.ok ds
 |.tuple ds=>.ok ds
 |.str x=>.ok (aah x)
 |_=>.bad
def cZ(a:QF):IF:=fun M ρ=>(a M ρ).bind oK
def Src.cw(K:aqV)(S:Src)(ds:List Dat)(g:Gh)(H:Hp):Prop:=∃us,S.sq K H us/\aM K g H us ds
def Src.cf(K:aqV)(S:Src)(ds:List Dat)(g:Gh)(H:Hp):Prop:=∃us,(match S with
 |.lst a=>Pj K g H a us
 |.tup a=>SqT K H a us
 |.str x=>us=chars x)/\aM K g H us ds
section
variable{K:aqV}{g g':Gh}{H H':Hp}{ds es:List Dat}{S T:Src}
theorem Src.alH{us:List V}(e:Ex H H')(h:S.sq K H us):S.sq K H' us:=by
 cases S with
 |lst a=>exact ex_l e h
 |tup a=>exact ex_t e h
 |str x=>exact h
theorem Src.abX(h:S.cf K ds g H):S.cw K ds g H:=by
 obtain⟨us,h1,h2⟩:=h
 refine⟨us,?_,h2⟩
 cases S with
 |lst a=>exact Pj.sq h1
 |tup a=>exact h1
 |str x=>exact h1
theorem Src.uU:ab4 (S.cf K ds):=fun q g g' H H' k ⟨us,h1,h2⟩ r=>by
 refine⟨us,?_,h2.gr r k⟩
 cases S with
 |lst a=>exact r.ls h1
 |tup a=>exact r.sqT k h1
 |str x=>exact h1
theorem Src.Kh(k:Kd g H)(h:S.cw K ds g H)(r:Gr true g g' H H')(e:Ex H H'):S.cw K ds g' H':=by
 obtain⟨us,h1,h2⟩:=h
 exact⟨us,Src.alH e h1,h2.gr r k⟩
theorem Src.Xz(k:Kd g H)(h:S.cw K ds g H)(e:Ex H H'):S.cw K ds g H':=Src.Kh k h (Gr.ex e) e
end
section
variable{K:aqV}{ds es:List Dat}{S T:Src}
def ItS(K:aqV):Src->It
 |.lst a=>Itl K a
 |.tup a=>Itt K a
 |.str x=>Its x
theorem Dt{g:Gh}{H:Hp}(x:Str):aM K g H (chars x) (aah x):=by
 unfold chars aah
 induction x.cps.toList with
 |nil=>exact .nil
 |cons c cs ih=>exact .cons (.str _) ih
theorem JT.of{J:It}{C C':Gh->Hp->Prop}(w:JT K J C ds)(h:∀g H,C' g H->C g H)(e:∀g H H',Kd g H->C' g H->Ex H H'->C' g H')(a:∀g g' H H',Kd g H->C' g H->Gr true g g' H H'->Ex H H'->C' g' H'):JT K J C' ds where
 go:=fun g i H c hi=>w.go g i H (h g H c) hi
 yld:=fun g i H x H' d k c e y=>w.yld g i H x H' d k (h g H c) e y
 stop:=fun g i H c e=>w.stop g i H (h g H c) e
 ex:=e
 add:=a
theorem aa9:JT K (ItS K S) (S.cw K ds) ds where
 go:=fun g i H ⟨us,h1,h2⟩ hi=>by
  have hx:us[i]?=some (us[i]'(by rw[h2.length];exact hi)):=aqY _
  cases S with
  |lst a=>exact⟨us,_,h1,hx⟩
  |tup a=>exact⟨us,_,h1,hx⟩
  |str x=>
   show i < x.cps.size
   have:=h2.length
   rw[show us=chars x from h1]at this
   unfold chars at this
   rw[aq7,arD]at this
   omega
 yld:=fun g i H x H' d k ⟨us,h1,h2⟩ e y=>by
  obtain⟨v,hv,rv⟩:=h2.get e
  cases S with
  |lst a=>
   obtain⟨rfl,y⟩:=y
   have:x=v:=ari ((y us h1).symm.trans hv)
   rw[this]
   exact⟨Ex.refl _,rv⟩
  |tup a=>
   obtain⟨rfl,y⟩:=y
   have:x=v:=ari ((y us h1).symm.trans hv)
   rw[this]
   exact⟨Ex.refl _,rv⟩
  |str z=>
   obtain⟨rfl,c,hc,rfl⟩:=y
   rw[show us=chars z from h1]at hv
   unfold chars at hv
   rw[aq9,arO,hc]at hv
   cases hv
   exact⟨Ex.refl _,rv⟩
 stop:=fun g i H ⟨us,h1,h2⟩ e=>by
  have hl:=h2.length
  cases S with
  |lst a=>exact⟨us,h1,by omega⟩
  |tup a=>exact⟨us,h1,by omega⟩
  |str x=>
   show x.cps.size<=i
   rw[show us=chars x from h1]at hl
   unfold chars at hl
   rw[aq7,arD]at hl
   omega
 ex:=fun g H H' k h e=>Src.Xz k h e
 add:=fun g g' H H' k h r e=>Src.Kh k h r e
def tH(k₀:Int)(ds:List Dat):List Dat:=ds.mapIdx fun i d=>.tuple [.int (k₀+(i:Int)),d]
theorem afN{k₀:Int}:JT K (ItE K S k₀) (S.cw K ds) (tH k₀ ds) where
 go:=fun g i H ⟨us,h1,h2⟩ hi=>by
  have hl:i < us.length:=by
   rw[h2.length]
   unfold tH at hi
   rw[List.length_mapIdx]at hi
   exact hi
  exact⟨us,us[i],h1,aqY hl⟩
 yld:=fun g i H x H' d k ⟨us,h1,h2⟩ e y=>by
  unfold tH at e
  rw[arQ]at e
  cases hd:ds[i]? with
  |none=>rw[hd]at e;cases e
  |some d0=>
   rw[hd]at e
   cases e
   obtain⟨v,hv,rv⟩:=h2.get hd
   obtain⟨T,x0,rfl,nT,rfl,y⟩:=y
   have:x0=v:=ari ((y us h1).symm.trans hv)
   subst this
   exact⟨Ex.new nT,.tup (st_of upd_same) (.cons (.int _) (.cons (rv.ex (Ex.new nT) k) .nil))⟩
 stop:=fun g i H ⟨us,h1,h2⟩ e=>by
  unfold tH at e
  rw[List.length_mapIdx,←h2.length]at e
  exact⟨us,h1,e.symm⟩
 ex:=fun g H H' k h e=>Src.Xz k h e
 add:=fun g g' H H' k h r e=>Src.Kh k h r e
def yq(ds es:List Dat):List Dat:=List.zipWith (fun d e=>.tuple [d,e]) ds es
theorem aa4:JT K (ItZ K S T) (fun g H=>S.cw K ds g H/\T.cw K es g H) (yq ds es) where
 go:=fun g i H ⟨⟨us,h1,h2⟩,⟨ws,h3,h4⟩⟩ hi=>by
  unfold yq at hi
  rw[List.length_zipWith,←h2.length,←h4.length]at hi
  exact⟨us,ws,us[i],ws[i],h1,h3,aqY (by omega),aqY (by omega)⟩
 yld:=fun g i H x H' d k ⟨⟨us,h1,h2⟩,⟨ws,h3,h4⟩⟩ e y=>by
  unfold yq at e
  rw[List.getElem?_zipWith]at e
  cases hd:ds[i]? with
  |none=>rw[hd]at e;cases e
  |some d0=>
   cases he:es[i]? with
   |none=>rw[hd,he]at e;cases e
   |some e0=>
    rw[hd,he]at e
    cases e
    obtain⟨v,hv,rv⟩:=h2.get hd
    obtain⟨u,hu,ru⟩:=h4.get he
    obtain⟨U,x0,y0,rfl,nU,rfl,y1,y2⟩:=y
    have:x0=v:=ari ((y1 us h1).symm.trans hv)
    subst this
    have:y0=u:=ari ((y2 ws h3).symm.trans hu)
    subst this
    exact⟨Ex.new nU,.tup (st_of upd_same) (.cons (rv.ex (Ex.new nU) k) (.cons (ru.ex (Ex.new nU) k) .nil))⟩
 stop:=fun g i H ⟨⟨us,h1,h2⟩,⟨ws,h3,h4⟩⟩ e=>by
  unfold yq at e
  rw[List.length_zipWith,←h2.length,←h4.length]at e
  exact⟨us,ws,h1,h3,e⟩
 ex:=fun g H H' k h e=>⟨Src.Xz k h.1 e,Src.Xz k h.2 e⟩
 add:=fun g g' H H' k h r e=>⟨Src.Kh k h.1 r e,Src.Kh k h.2 r e⟩
def fH(lo:Int)(n:Nat):List Dat:=(List.range n).map fun(i:Nat)=>.int (lo+(i:Int))
theorem Vy{lo:Int}{n:Nat}:JT K (Itr lo n) (fun _ _=>True) (fH lo n) where
 go:=fun g i H _ hi=>by
  unfold fH at hi
  rw[aq7,List.length_range]at hi
  exact hi
 yld:=fun g i H x H' d k _ e y=>by
  obtain⟨rfl,rfl⟩:=y
  unfold fH at e
  rw[aq9]at e
  cases hr:(List.range n)[i]? with
  |none=>rw[hr]at e;cases e
  |some j=>
   rw[hr]at e
   cases e
   have:j=i:=by
    obtain⟨h1,h2⟩:=aqX.mp hr
    rw[List.getElem_range]at h2
    exact h2.symm
   subst this
   exact⟨Ex.refl _,.int _⟩
 stop:=fun g i H _ e=>by
  unfold fH at e
  rw[aq7,List.length_range]at e
  show n<=i
  omega
 ex:=fun _ _ _ _ _ _=>trivial
 add:=fun _ _ _ _ _ _ _ _=>trivial
end
section
variable{X:Cx}{aj:aR}{W:WX}{tg a b:Expr}{fa fb:QF}{pos p tpos:Pos}{elts:List Expr}{kk:Nat}
theorem Nt{K:aqV}{g:Gh}{H:Hp}{v:V}{d:Dat}{ds:List Dat}{firm:Bool}(r:if firm=true then Rep K g H v d else eG K g H v d)(h:oK d=.ok ds):∃S,srcOf v S/\S.cw K ds g H/\(firm=true->S.cf K ds g H):=by
 have rw:eG K g H v d:=by
  cases firm with
  |true=>exact Rep.weak r
  |false=>exact r
 cases d with
 |list es=>
  cases h
  obtain⟨l,us,rfl,h1,h2⟩:=iU rw
  refine⟨.lst l,.inl ⟨l,rfl,rfl,.inl rfl⟩,⟨us,h1,h2⟩,fun z=>?_⟩
  subst z
  have r:Rep K g H (.ref l) (.list ds):=r
  cases r with
  |lst h3 h4=>exact⟨_,h3,h4⟩
 |tuple es=>
  cases h
  obtain⟨l,us,rfl,h1,h2⟩:=lC rw
  exact⟨.tup l,.inl ⟨l,rfl,rfl,.inr rfl⟩,⟨us,h1,h2⟩,fun _=>⟨us,h1,h2⟩⟩
 |str x=>
  cases h
  cases jZ rw
  exact⟨.str x,.inr ⟨x,rfl,rfl⟩,⟨_,rfl,Dt x⟩,fun _=>⟨_,rfl,Dt x⟩⟩
 |_=>cases h
def tF(K:aqV)(aj:aR)(W:WX)(firm:Bool)(f:QF):TE:=if firm=true then tQ K aj W f else tW K aj W f
def QF'(aj:aR)(X:Cx)(W:WX)(firm:Bool)(e:Expr)(f:QF):Prop:=PE X e (tF X.K aj W firm f)
theorem tF.go{K:aqV}{firm:Bool}{g:Gh}{H:Hp}{σ:L2.St}{ρ:Env}{M:Mo}{f:QF}{k:Dat->Prop}{Q:VK}(I:SInv K aj σ H g ρ M)(h:(f M ρ).sat k (qD K aj W g H σ))(hk:∀d v H',k d->Ex H H'->(if firm=true then Rep K g H' v d else eG K g H' v d)->Q v H'):tF K aj W firm f σ H Q:=by
 cases firm with
 |true=>exact tQ.go I h hk
 |false=>exact tW.go I h hk
theorem amg{K:aqV}{firm:Bool}{g:Gh}{H H':Hp}{v:V}{d:Dat}(e:Ex H H')(k:Kd g H)(r:if firm=true then Rep K g H v d else eG K g H v d):if firm=true then Rep K g H' v d else eG K g H' v d:=by
 cases firm with
 |true=>exact Rep.ex e k r
 |false=>exact eG.ex e k r
theorem wf{K:aqV}{S:Src}{firm:Bool}{J:It}{ds es:List Dat}{R:It->Hp->Prop}{g:Gh}{H H1:Hp}(h:∀J C H',Ex H H'->JT K J C ds->C g H'->(firm=true->ab4 C)->R J H')(e1:Ex H H1)(w:JT K J (S.cw K es) ds)(hw:S.cw K es g H1)(hf:firm=true->S.cf K es g H1):R J H1:=by
 cases firm with
 |true=>exact h J (S.cf K es) H1 e1 (w.of (fun _ _ z=>Src.abX z) (fun g H H' k c e=>Src.uU true g g H H' k c (Gr.ex e)) fun g g' H H' k c r e=>Src.uU true g g' H H' k c r) (hf rfl) fun _=>Src.uU
 |false=>exact h J (S.cw K es) H1 e1 w hw fun z=>nomatch z
theorem X5{firm:Bool}(ha:QF' aj X W firm a fa):QI aj X W firm tg a (cZ fa):=by
 refine⟨fun pins s σ H R I h=>?_⟩
 obtain⟨g,ρ,M,SI,hs⟩:=h
 have hs:=hs.bnd
 have fin:∀(S:Src) (x:V) (H1:Hp) (ds:List Dat),(∀J C H',Ex H H'->JT X.K J C ds->C g H'->(firm=true->ab4 C)->R J H')->Ex H H1->S.cw X.K ds g H1->(firm=true->S.cf X.K ds g H1)->R (ItS X.K S) H1:=fun S x H1 ds h e1 hw hf=>wf h e1 aa9 hw hf
 cases hfa:fa M ρ with
 |bad=>rw[hfa]at hs;exact False.elim hs
 |exc x=>
  rw[hfa]at hs
  exact(pi_list ha).run pins s σ H R I (tF.go (k:=fun _=>False) SI (by rw[hfa];exact hs) fun d v H' z=>False.elim z)
 |ok d=>
  rw[hfa]at hs
  cases d with
  |list ds=>
   refine(pi_list ha).run pins s σ H R I (tF.go (k:=fun z=>z=.list ds) SI (by rw[hfa];rfl) fun d v H' z e1 r=>?_)
   subst z
   obtain⟨S,hS,hw,hf⟩:=Nt (firm:=firm) r (ds:=ds) rfl
   have rw:eG X.K g H' v (.list ds):=by
    cases firm with
    |true=>exact Rep.weak r
    |false=>exact r
   obtain⟨l,us,rfl,h1,h2⟩:=iU rw
   refine⟨l,rfl,⟨us,h1⟩,?_⟩
   rcases hS with⟨a',e,ha',hl|ht⟩|⟨y,_,e⟩
   ·cases e
    subst hl
    exact fin (.lst l) (.ref l) H' ds hs e1 hw hf
   ·cases e
    subst ht
    refine wf (S:=.lst l) hs e1 (aa9 (S:=.lst l)) ⟨us,h1,h2⟩ fun z=>?_
    subst z
    have r:Rep X.K g H' (.ref l) (.list ds):=r
    cases r with
    |lst h3 h4=>exact⟨_,h3,h4⟩
   ·cases e
  |tuple ds=>
   refine(pi_tup ha).run pins s σ H R I (tF.go (k:=fun z=>z=.tuple ds) SI (by rw[hfa];rfl) fun d v H' z e1 r=>?_)
   subst z
   have rw:eG X.K g H' v (.tuple ds):=by
    cases firm with
    |true=>exact Rep.weak r
    |false=>exact r
   obtain⟨l,us,rfl,h1,h2⟩:=lC rw
   exact⟨l,rfl,⟨us,h1⟩,fin (.tup l) (.ref l) H' ds hs e1 ⟨us,h1,h2⟩ fun _=>⟨us,h1,h2⟩⟩
  |str x=>
   refine(pi_str ha).run pins s σ H R I (tF.go (k:=fun z=>z=.str x) SI (by rw[hfa];rfl) fun d v H' z e1 r=>?_)
   subst z
   have rw:eG X.K g H' v (.str x):=by
    cases firm with
    |true=>exact Rep.weak r
    |false=>exact r
   cases jZ rw
   exact⟨x,rfl,fin (.str x) (.str x) H' _ hs e1 ⟨_,rfl,Dt x⟩ fun _=>⟨_,rfl,Dt x⟩⟩
  |_=>exact False.elim hs
def yZ(a:QF):IF:=fun M ρ=>(a M ρ).bind fun d=>(Bl d).bind fun n=>Out.when (decide (n<=100000/\-100000<=n)) (.ok (fH 0 n.toNat))
def Cr(a b:QF):IF:=fun M ρ=>(a M ρ).bind fun d=>(b M ρ).bind fun e=>(Bl d).bind fun lo=>(Bl e).bind fun n=>Out.when (decide (n<=100000/\-100000<=n/\lo<=100000/\-100000<=lo)) (.ok (fH lo (n - lo).toNat))
def zW(k₀:Int)(a:QF):IF:=fun M ρ=>(a M ρ).bind fun d=>(oK d).bind fun ds=>.ok (tH k₀ ds)
def Fx(a b:QF):IF:=fun M ρ=>(a M ρ).bind fun d=>(b M ρ).bind fun e=>(oK d).bind fun ds=>(oK e).bind fun es=>.ok (yq ds es)
theorem acS{firm:Bool}(hg:Gl X "range")(hm:X.mg "range"=none)(ha:QW aj X W a fa)(hs:nst a=true):QI aj X W firm tg (.Call (.Name "range" p) [a] [] pos) (yZ fa):=by
 refine⟨fun pins s σ H R I h=>?_⟩
 refine(pi_range1 hg hm (pa_cons ha pa_nil (cD hs [])) (cD hs [])).run pins s σ H R I ?_
 obtain⟨g,ρ,M,SI,h⟩:=h
 refine tW.go SI h.bnd fun d v H1 h1 e1 r1=>?_
 have h1:=h1.bnd
 unfold Bl at h1
 split at h1
 ·obtain⟨hz,h1⟩:=h1.pC
  have hz:=of_decide_eq_true hz
  cases cH r1
  exact⟨_,rfl,by omega,by omega,h1 _ _ H1 e1 Vy trivial fun _=>fun _ _ _ _ _ _ _ _=>trivial⟩
 ·exact False.elim h1
theorem aez{firm:Bool}(hg:Gl X "range")(hm:X.mg "range"=none)(ha:QW aj X W a fa)(hb:QW aj X W b fb)(hs:nst a=true)(hs2:nst b=true):QI aj X W firm tg (.Call (.Name "range" p) [a,b] [] pos) (Cr fa fb):=by
 refine⟨fun pins s σ H R I h=>?_⟩
 refine(pi_range2 hg hm (pa_cons ha (pa_cons hb pa_nil (cD hs2 [])) (cD hs [b])) (by rw[cD hs,cD hs2];rfl) (cD hs2 [])).run pins s σ H R I ?_
 obtain⟨g,ρ,M,SI,h⟩:=h
 refine tW.go SI h.bnd fun d v H1 h1 e1 r1=>?_
 refine tW.go (SI.ex e1) (h1.bnd.mono (fun _ z=>z) fun _ z=>z.ex e1) fun d2 v2 H2 h2 e2 r2=>?_
 have h2:=h2.bnd
 unfold Bl at h2
 split at h2
 ·have h2:=Out.sat.bnd h2
  split at h2
  ·obtain⟨hz,h2⟩:=Out.sat.pC h2
   have hz:=of_decide_eq_true hz
   cases cH r1
   cases cH r2
   exact⟨_,_,rfl,⟨by omega,by omega,by omega,by omega⟩,h2 _ _ H2 (e1.trans e2) Vy trivial fun _=>fun _ _ _ _ _ _ _ _=>trivial⟩
  ·exact False.elim h2
 ·exact False.elim h2
theorem agg{firm:Bool}{k₀:Int}(σ:L2.St)(H:Hp)(R:It->Hp->Prop)(h:tI X.K aj W firm (zW k₀ fa) σ H R):iEn X.K (tCons (tF X.K aj W firm fa) tNil) k₀ σ H R:=by
 obtain⟨g,ρ,M,SI,h⟩:=h
 refine tF.go SI h.bnd fun d v H1 h1 e1 r1=>?_
 cases hd:oK d with
 |bad=>rw[hd]at h1;exact False.elim h1
 |exc x=>cases d <;> cases hd
 |ok ds=>
  rw[hd]at h1
  obtain⟨S,hS,hw,hf⟩:=Nt r1 hd
  exact⟨v,S,_,rfl,hS,hw.choose_spec.1,wf h1 e1 afN hw hf⟩
theorem ahw{firm:Bool}(hg:Gl X "enumerate")(hm:X.mg "enumerate"=none)(ha:QF' aj X W firm a fa)(hs:nst a=true):QI aj X W firm (.Tuple elts kk tpos) (.Call (.Name "enumerate" p) [a] [] pos) (zW 0 fa):=
 ⟨fun pins s σ H R I h=>(aml hg hm (pa_cons ha pa_nil (cD hs [])) hs).run pins s σ H R I (agg σ H R h)⟩
theorem afJ{firm:Bool}{k₀:Int}{j:Nat}{kp kp2:Pos}(hk0 : -(2 ^ 63)<=k₀)(hk1:k₀ < 2 ^ 63)(hg:Gl X "enumerate")(hm:X.mg "enumerate"=none)(ha:QF' aj X W firm a fa)(hs:nst a=true):QI aj X W firm (.Tuple elts kk tpos) (.Call (.Name "enumerate" p) [a] [⟨some "start",.Constant (.int k₀) j kp,kp2⟩] pos) (zW k₀ fa):=
 ⟨fun pins s σ H R I h=>(akI hk0 hk1 hg hm (pa_cons ha pa_nil (cD hs [])) hs).run pins s σ H R I (agg σ H R h)⟩
theorem ak5{firm:Bool}(hg:Gl X "zip")(hm:X.mg "zip"=none)(ha:QF' aj X W firm a fa)(hb:QF' aj X W firm b fb)(hs:nst a=true)(hs2:nst b=true):QI aj X W firm (.Tuple elts kk tpos) (.Call (.Name "zip" p) [a,b] [] pos) (Fx fa fb):=by
 refine⟨fun pins s σ H R I h=>(alf hg hm (pa_cons ha (pa_cons hb pa_nil (cD hs2 [])) (cD hs [b])) hs hs2).run pins s σ H R I ?_⟩
 obtain⟨g,ρ,M,SI,h⟩:=h
 refine tF.go SI h.bnd fun d v H1 h1 e1 r1=>?_
 refine tF.go (SI.ex e1) (h1.bnd.mono (fun _ z=>z) fun _ z=>z.ex e1) fun d2 v2 H2 h2 e2 r2=>?_
 cases hd:oK d with
 |bad=>rw[hd]at h2;exact False.elim h2
 |exc x=>cases d <;> cases hd
 |ok ds=>
  cases he:oK d2 with
  |bad=>rw[hd,he]at h2;exact False.elim h2
  |exc x=>cases d2 <;> cases he
  |ok es=>
   rw[hd,he]at h2
   obtain⟨S,hS,hw,hf⟩:=Nt (amg e2 (SI.ex e1).kd r1) hd
   obtain⟨T,hT,hw2,hf2⟩:=Nt r2 he
   refine⟨v,v2,S,T,_,_,rfl,hS,hT,hw.choose_spec.1,hw2.choose_spec.1,?_⟩
   cases firm with
   |true=>exact h2 _ (fun g H=>S.cf X.K ds g H/\T.cf X.K es g H) H2 (e1.trans e2) (aa4.of (fun _ _ z=>⟨Src.abX z.1,Src.abX z.2⟩) (fun g H H' k c e=>⟨Src.uU true g g H H' k c.1 (Gr.ex e),Src.uU true g g H H' k c.2 (Gr.ex e)⟩) fun g g' H H' k c r e=>⟨Src.uU true g g' H H' k c.1 r,Src.uU true g g' H H' k c.2 r⟩) ⟨hf rfl,hf2 rfl⟩ fun _=>fun q g g' H H' k c r=>⟨Src.uU q g g' H H' k c.1 r,Src.uU q g g' H H' k c.2 r⟩
   |false=>exact h2 _ _ H2 (e1.trans e2) aa4 ⟨hw,hw2⟩ fun z=>nomatch z
end
def WF:WX:=fun _ _ _ _=>False
def xY{α:Type}:Out α->Out α
 |.ok a=>.ok a
 |_=>.bad
@[simp]theorem aaf {α:Type} (a:α):xY (.ok a)=.ok a:=rfl
theorem wV{α:Type}{o:Out α}{P:α->Prop}{E E':eE->Prop}(h:(xY o).sat P E):o.sat P E':=by
 cases o
 ·exact h
 ·exact False.elim h
 ·exact h
def cP(tg:fG)(tt:QT)(te:QF)(M:Mo)(ρ:Env):List Dat->Out (List Dat)
 |[]=>.ok []
 |d::ds=>match tg d ρ with
  |none=>.bad
  |some ρ1=>(xY (tt M ρ1)).bind fun b=>if b=true then(xY (te M ρ1)).bind fun y=>(cP tg tt te M ρ ds).bind fun r=>.ok (y::r) else cP tg tt te M ρ ds
def eU(it:IF)(tg:fG)(vs:List Nat)(tt:QT)(te:QF):QF:=fun M ρ=>(it M ρ).bind fun ds=>Out.when (decide (ds.length<=50000)) ((cP tg tt te M (bR ρ vs) ds).bind fun r=>.ok (.list r))
def iG:QT:=fun _ _=>.ok true
def tFr(K:aqV)(aj:aR)(W:WX)(f:IF):TE:=fun σ H Q=>∃g ρ M,SInv K aj σ H g ρ M/\(f M ρ).sat (fun xs=>∀l us H',H l=none->Ex H H'->H' l=some (.lst us)->aM K (g.add l) H' us xs->Q (.ref l) H') (qD K aj W g H σ)
def Bj(it:IF)(tg:fG)(vs:List Nat)(tt:QT)(te:QF):IF:=fun M ρ=>(it M ρ).bind fun ds=>Out.when (decide (ds.length<=50000)) (cP tg tt te M (bR ρ vs) ds)
section
variable{K:aqV}{aj:aR}{W:WX}
theorem YK{g:Gh}{H:Hp}{D:Addr}{o o':HO}{vs:List V}{ds:List Dat}(k:Kd g H)(h:H D=some o)(l:g.Lo D)(r:aM K g H vs ds):aM K g (upd H D o') vs ds:=r.gr (Gr.upd (q:=true) k h (.inr l)) k
theorem ahn{g:Gh}{H:Hp}{D:Addr}{o o':HO}{v:V}{d:Dat}(k:Kd g H)(h:H D=some o)(l:g.Lo D)(r:Rep K g H v d):Rep K g (upd H D o') v d:=r.gr (Gr.upd (q:=true) k h (.inr l)) k
theorem mH{tg:fG}{tt:QT}{te:QF}{M:Mo}{ρ:Env}:∀{ds:List Dat} {x:eE},cP tg tt te M ρ ds≠.exc x
 |[],_,h=>nomatch h
 |d::ds,x,h=>by
  rw[cP]at h
  split at h
  ·cases h
  ·next ρ1 e=>
   cases h1:tt M ρ1 with
   |bad=>rw[h1]at h;cases h
   |exc y=>rw[h1]at h;cases h
   |ok b=>
    rw[h1]at h
    cases b with
    |false=>exact mH h
    |true=>
     have h:((xY (te M ρ1)).bind fun y=>(cP tg tt te M ρ ds).bind fun r=>Out.ok (y::r))=.exc x:=h
     cases h2:te M ρ1 with
     |bad=>rw[h2]at h;cases h
     |exc y=>rw[h2]at h;cases h
     |ok y=>
      rw[h2]at h
      cases h3:cP tg tt te M ρ ds with
      |bad=>rw[h3]at h;cases h
      |exc z=>exact mH h3
      |ok r=>rw[h3]at h;cases h
theorem Ph(σ:L2.St)(i:Nat):∀vs:List Nat,(L2.wipe σ vs)[i]?=if i∈vs then(σ[i]?).map (fun _=>none) else σ[i]?
 |[]=>by simp[L2.wipe]
 |v::vs=>by
  show((L2.wipe σ vs).set v none)[i]?=_
  by_cases h:v=i
  ·subst h
   by_cases hl:v < σ.length
   ·rw[arf (by rw[wipe_length];exact hl),if_pos aq1,aqY hl]
    rfl
   ·have h1:σ[v]?=none:=List.getElem?_eq_none_iff.mpr (by omega)
    rw[if_pos aq1,h1,List.getElem?_eq_none_iff.mpr (by rw[arq,wipe_length];omega)]
    rfl
  ·rw[aq4 h,Ph σ i vs]
   have:i∈v::vs↔i∈vs:=⟨fun z=>by
    rcases ara.mp z with z|z
    ·exact absurd z.symm h
    ·exact z,aq0 _⟩
   simp only[this]
theorem Ao(σ:L2.St)(vs:List Nat):L2.wipe (L2.wipe σ vs) vs=L2.wipe σ vs:=by
 apply arz
 intro i
 rw[Ph (L2.wipe σ vs) i vs,Ph σ i vs]
 split
 ·cases σ[i]? <;> rfl
 ·rfl
theorem Yg{it:IF}{tg:fG}{js vs:List Nat}{tt:QT}{te:QF}(hj:∀j∈js,j∈vs)(σ:L2.St)(H:Hp)(Q:VK)(h:tFr K aj W (Bj it tg vs tt te) σ H Q) :
  tLc (tI K aj W false it) (xK K aj js tg) (jC K aj WF tt) (tQ K aj WF te) vs σ H Q:=by
 obtain⟨g,ρ,M,I,h⟩:=h
 refine⟨g,ρ,M,I,h.bnd.mono (fun ds hk J C H1 e1 w c _ D nD=>?_) fun _ z=>z⟩
 obtain⟨hz,hk⟩:=hk.pC
 have hlen:=of_decide_eq_true hz
 obtain⟨total,htot,hQ⟩:∃total,cP tg tt te M (bR ρ vs) ds=.ok total/\∀l us H',H l=none->Ex H H'->H' l=some (.lst us)->aM K (g.add l) H' us total->Q (.ref l) H':=by
  cases hc:cP tg tt te M (bR ρ vs) ds with
  |bad=>rw[hc]at hk;exact False.elim hk
  |exc x=>exact absurd hc mH
  |ok total=>
   rw[hc]at hk
   exact⟨total,rfl,hk⟩
 have I1:=(I.ex e1).wipe vs
 have kD:∀{Ha:Hp} {us:List V},Ex H1 Ha->Ha D=some (.lst us)->SInv K aj (L2.wipe σ vs) Ha (g.add D) (bR ρ vs) M:=fun ea hu=>I1.add nD ea hu trivial
 let Pv:Nat->Hp->Prop:=fun i Ha=>Ex H1 Ha/\i<=ds.length/\∃us ys,Ha D=some (.lst us)/\aM K (g.add D) Ha us ys/\ys.length<=i/\(cP tg tt te M (bR ρ vs) (ds.drop i)).sat (fun r=>total=ys++r) fun _=>False
 refine⟨fun i m Ha=>m=ds.length - i/\Pv i Ha,⟨ds.length,rfl,Ex.new nD,arK _,[],[],upd_same,.nil,aro _,?_⟩,?_⟩
 ·rw[ar7,htot]
  rfl
 ·rintro i m Ha ⟨rfl,ea,hi,us,ys,hu,hU,hy,hs⟩
  have Ia:=kD ea hu
  have Ca:=w.add g (g.add D) H1 Ha (I.kd.ex e1) c (Gh.Dc nD ea) ea
  by_cases hlt:i < ds.length
  ·refine .inr ⟨w.go _ i Ha Ca hlt,Pv (i+1),fun H' p=>⟨ds.length - (i+1),by omega,rfl,p⟩,fun x H' y=>?_⟩
   have hd:ds[i]?=some ds[i]:=aqY hlt
   obtain⟨e2,rx⟩:=w.yld _ i Ha x H' _ Ia.kd Ca hd y
   have I2:=Ia.ex e2
   rw[arN hlt,cP]at hs
   split at hs
   ·exact False.elim hs
   ·next ρ1 he=>
    refine⟨g.add D,_,M,_,ρ1,I2,rx,he,fun ws I3=>⟨w6 js ws _ vs hj |>.trans (Ao σ vs),?_⟩⟩
    refine jC.go I3 (wV hs.bnd) fun b H3 hb e3=>?_
    have I4:=I3.ex e3
    have hu3:=e3 _ _ (e2 _ _ hu)
    have hU3:=(hU.ex e2 Ia.kd).ex e3 I2.kd
    cases b with
    |false=>
     have hb:(cP tg tt te M (bR ρ vs) (ds.drop (i+1))).sat (fun r=>total=ys++r) fun _=>False:=hb
     exact⟨(ea.trans e2).trans e3,hlt,us,ys,hu3,hU3,Nat.le_succ_of_le hy,hb⟩
    |true=>
     have hb:((xY (te M ρ1)).bind fun y=>(cP tg tt te M (bR ρ vs) (ds.drop (i+1))).bind fun r=>Out.ok (y::r)).sat (fun r=>total=ys++r) fun _=>False:=hb
     refine tQ.go I4 (wV hb.bnd) fun y v H4 hyv e4 ry=>?_
     have I5:=I4.ex e4
     have hu4:=e4 _ _ hu3
     have hU4:=hU3.ex e4 I4.kd
     have lD:(g.add D).Lo D:=.inr rfl
     refine⟨us,hu4,sz_lt (by rw[hU.length];omega),Ex.mut (((ea.trans e2).trans e3).trans e4) nD,hlt,us++[v],ys++[y],upd_same,?_,by simp;omega,hyv.bnd.mono (fun r hr=>?_) fun _ z=>z⟩
     ·exact YK I5.kd hu4 lD (hU4.append (.cons ry .nil))
     ·have hr:total=ys++y::r:=hr
      rw[hr]
      simp
  ·have e:i=ds.length:=by omega
   refine .inl ⟨w.stop _ i Ha Ca e,?_⟩
   rw[e,arT]at hs
   have hs:total=ys++[]:=hs
   rw[arM]at hs
   subst hs
   exact hQ D us Ha (yr e1 D nD) (e1.trans ea) hu hU
theorem agy{it:IF}{tg:fG}{js vs:List Nat}{tt:QT}{te:QF}(hj:∀j∈js,j∈vs)(σ:L2.St)(H:Hp)(Q:VK)(h:tQ K aj W (eU it tg vs tt te) σ H Q) :
  tLc (tI K aj W false it) (xK K aj js tg) (jC K aj WF tt) (tQ K aj WF te) vs σ H Q:=by
 obtain⟨g,ρ,M,I,h⟩:=h
 refine Yg hj σ H Q ⟨g,ρ,M,I,?_⟩
 unfold Bj
 unfold eU at h
 cases hi:it M ρ with
 |bad=>rw[hi]at h;exact False.elim h
 |exc x=>rw[hi]at h;exact h
 |ok ds=>
  rw[hi]at h
  obtain⟨hz,h⟩:=Out.sat.pC h
  have h:=h.bnd
  show(Out.when (decide (ds.length<=50000)) (cP tg tt te M (bR ρ vs) ds)).sat _ _
  rw[hz,Out.VF]
  exact h.mono (fun xs z l us H' n e hl r=>z _ H' e (.lst (.inl ⟨.inl hl,I.kd.fresh n⟩) (aM.less (g:=g.add l) (g':=g) rfl (fun a z=>z.elim .inl fun z=>.inr (z.elim .inl fun z=>.inr (.inl z))) r))) fun _ z=>z
end
section
variable{X:Cx}{aj:aR}{W:WX}{elt tg iter:Expr}{pos p tpos:Pos}
theorem aj9{X:Cx}:Takes X WF:=fun u s' ⟨a,B,sI,pins,σ,H,cls,d,e,I,nb,up,sky,na,os,ag,w⟩=>False.elim w
theorem amk{scope:Scope}{own:List (Str×Nat)}{it:IF}{tgf:fG}{js:List Nat}{tt:QT}{te:QF}{ifs:List Expr}(hc:X.calm=true)(hN:X.N.Nodup)(hi:QI aj X W false tg iter it)(ok:blkC X.N X.env.scope scope own=true)(hj:∀j∈js,j∈own.map (·.2))
  (hg:∀(s:Shared) (H:Hp) (C:Addr) (cl:List (Str×Addr)) (fp:List Addr),QG aj (X.blk s H scope (compEnvC scope cl C X.env) fp) tg js tgf)
  (ht:∀(s:Shared) (H:Hp) (C:Addr) (cl:List (Str×Addr)) (fp:List Addr),PTs (X.blk s H scope (compEnvC scope cl C X.env) fp) ifs (jC X.K aj WF tt))
  (he:∀(s:Shared) (H:Hp) (C:Addr) (cl:List (Str×Addr)) (fp:List Addr),QE aj (X.blk s H scope (compEnvC scope cl C X.env) fp) WF elt te) (hs:∀x,foldedSetIterable iter X.env x=pure x) :
  QE aj X W (.ListComp elt [⟨tg,iter,ifs,0⟩] scope pos) (eU it tgf (own.map (·.2)) tt te):=
 PE.weak (pe_lc (g:=xK X.K aj js tgf) (tt:=jC X.K aj WF tt) (te:=tQ X.K aj WF te) hc hN hi (blkOk_by ok) (fun s H C cl fp=>hg s H C cl fp) ht (fun s H C cl fp=>he s H C cl fp) hs) fun σ H Q h=>agy hj σ H Q h
theorem alT{scope:Scope}{own:List (Str×Nat)}{it:IF}{tgf:fG}{js:List Nat}{tt:QT}{te:QF}{ifs:List Expr}(hc:X.calm=true)(hN:X.N.Nodup)(hi:QI aj X W false tg iter it)(ok:blkC X.N X.env.scope scope own=true)(hj:∀j∈js,j∈own.map (·.2))
  (hg:∀(s:Shared) (H:Hp) (C:Addr) (cl:List (Str×Addr)) (fp:List Addr),QG aj (X.blk s H scope (compEnvC scope cl C X.env) fp) tg js tgf)
  (ht:∀(s:Shared) (H:Hp) (C:Addr) (cl:List (Str×Addr)) (fp:List Addr),PTs (X.blk s H scope (compEnvC scope cl C X.env) fp) ifs (jC X.K aj WF tt))
  (he:∀(s:Shared) (H:Hp) (C:Addr) (cl:List (Str×Addr)) (fp:List Addr),QE aj (X.blk s H scope (compEnvC scope cl C X.env) fp) WF elt te) (hs:∀x,foldedSetIterable iter X.env x=pure x) :
  PE X (.ListComp elt [⟨tg,iter,ifs,0⟩] scope pos) (tFr X.K aj W (Bj it tgf (own.map (·.2)) tt te)):=
 PE.weak (pe_lc (g:=xK X.K aj js tgf) (tt:=jC X.K aj WF tt) (te:=tQ X.K aj WF te) hc hN hi (blkOk_by ok) (fun s H C cl fp=>hg s H C cl fp) ht (fun s H C cl fp=>he s H C cl fp) hs) fun σ H Q h=>Yg hj σ H Q h
end
def aZ.sat{α:Type}(o:aZ α)(P:α->Mo->Prop)(E:eE->Mo->Prop):Prop:=
 match o with
 |.ok a M=>P a M
 |.exc x M=>E x M
 |.bad=>False
def aZ.bind{α β:Type}(o:aZ α)(k:α->Mo->aZ β):aZ β:=
 match o with
 |.ok a M=>k a M
 |.exc x M=>.exc x M
 |.bad=>.bad
@[simp]theorem aZ.zH {α β:Type} (a:α) (M:Mo) (k:α->Mo->aZ β):(aZ.ok a M).bind k=k a M:=rfl
@[simp]theorem aZ.afR {α β:Type} (x:eE) (M:Mo) (k:α->Mo->aZ β):(aZ.exc x M:aZ α).bind k=.exc x M:=rfl
@[simp]theorem aZ.afB {α β:Type} (k:α->Mo->aZ β):(aZ.bad:aZ α).bind k=.bad:=rfl
theorem aZ.sat.bnd{α β:Type}{o:aZ α}{k:α->Mo->aZ β}{P:β->Mo->Prop}{E:eE->Mo->Prop}(h:(o.bind k).sat P E):o.sat (fun a M=>(k a M).sat P E) E:=by
 cases o <;> exact h
theorem aZ.sat.mono{α:Type}{o:aZ α}{P P':α->Mo->Prop}{E E':eE->Mo->Prop}(h:o.sat P E)(hp:∀a M,P a M->P' a M)(he:∀x M,E x M->E' x M):o.sat P' E':=by
 cases o
 ·exact hp _ _ h
 ·exact he _ _ h
 ·exact h
def Out.at{α:Type}(o:Out α)(M:Mo):aZ α:=
 match o with
 |.ok a=>.ok a M
 |.exc x=>.exc x M
 |.bad=>.bad
@[simp]theorem Out.abR {α:Type} (a:α) (M:Mo):(Out.ok a).at M=.ok a M:=rfl
@[simp]theorem Out.akF {α:Type} (x:eE) (M:Mo):(Out.exc x:Out α).at M=.exc x M:=rfl
@[simp]theorem Out.ak0 {α:Type} (M:Mo):(Out.bad:Out α).at M=.bad:=rfl
theorem Out.ju{α:Type}{o:Out α}{M:Mo}{P:α->Mo->Prop}{E:eE->Mo->Prop}(h:(o.at M).sat P E):o.sat (fun a=>P a M) fun x=>E x M:=by
 cases o <;> exact h
abbrev GF:=Mo->Env->aZ Dat
abbrev GT:=Mo->Env->aZ Bool
def u9.sat(o:u9)(nx:Env->Mo->Prop)(rt:Dat->Mo->Prop)(bk ct:Env->Mo->Prop)(ex:eE->Env->Mo->Prop):Prop:=
 match o with
 |.next ρ M=>nx ρ M
 |.ret d M=>rt d M
 |.brk ρ M=>bk ρ M
 |.cont ρ M=>ct ρ M
 |.exc x ρ M=>ex x ρ M
 |.bad=>False
theorem u9.sat.mono{o:u9}{nx nx':Env->Mo->Prop}{rt rt':Dat->Mo->Prop}{bk bk' ct ct':Env->Mo->Prop}{ex ex':eE->Env->Mo->Prop}(h:o.sat nx rt bk ct ex)(h1:∀ρ M,nx ρ M->nx' ρ M)(h2:∀d M,rt d M->rt' d M)(h3:∀ρ M,bk ρ M->bk' ρ M)(h4:∀ρ M,ct ρ M->ct' ρ M)(h5:∀x ρ M,ex x ρ M->ex' x ρ M):o.sat nx' rt' bk' ct' ex':=by
 cases o
 ·exact h1 _ _ h
 ·exact h2 _ _ h
 ·exact h3 _ _ h
 ·exact h4 _ _ h
 ·exact h5 _ _ _ h
 ·exact h
abbrev SF:=Mo->Env->u9
def Gh.fr(g:Gh):Gh:={ g with Lo:=fun _=>False }
section
variable(K:aqV)(aj:aR)(W:WX)(q:Bool)
def gE(g:Gh)(H:Hp)(σ:L2.St)(ρ:Env)(x:eE)(M':Mo):Prop:=∀H' g' c dd,Gr q g g' H H'->SInv K aj σ H' g' ρ M'->qO K aj g' H' x c dd->W c dd σ H'
def tE(f:GF):TE:=fun σ H Q=>∃g ρ M,SInv K aj σ H g ρ M/\(f M ρ).sat (fun d M'=>∀v H' g',Gr q g g' H H'->SInv K aj σ H' g' ρ M'->Rep K g' H' v d->Q v H') (gE K aj W q g H σ ρ)
def tET(f:GT):TT:=fun σ H Q=>∃g ρ M,SInv K aj σ H g ρ M/\(f M ρ).sat (fun b M'=>∀H' g',Gr q g g' H H'->SInv K aj σ H' g' ρ M'->Q b H') (gE K aj W q g H σ ρ)
def sN(k:L2.St->Hp->Prop)(g:Gh)(H:Hp)(ρ':Env)(M':Mo):Prop:=∀σ' H' g',Gr q g g' H H'->SInv K aj σ' H' g' ρ' M'->k σ' H'
def sR(k:VK)(g:Gh)(H:Hp)(d:Dat)(M':Mo):Prop:=∀v H' g',Gr q g g' H H'->Kd g'.fr H'->gj K aj g'.fr H' M'->Rep K g'.fr H' v d->k v H'
def sX(g:Gh)(H:Hp)(x:eE)(ρ':Env)(M':Mo):Prop:=∀σ' H' g' c dd,Gr q g g' H H'->SInv K aj σ' H' g' ρ' M'->qO K aj g'.fr H' x c dd->W c dd σ' H'
def tS(f:SF):TS:=fun D σ H=>∃g ρ M,SInv K aj σ H g ρ M/\(f M ρ).sat (sN K aj q D.nx g H) (sR K aj q D.rt g H) (sN K aj q D.bk g H) (sN K aj q D.ct g H) (sX K aj W q g H)
end
section
variable{K:aqV}{aj:aR}{W:WX}{q:Bool}{g g1:Gh}{H H1:Hp}{σ:L2.St}{ρ:Env}{M:Mo}
theorem gE.gr{x:eE}{M':Mo}(r:Gr q g g1 H H1)(h:gE K aj W q g H σ ρ x M'):gE K aj W q g1 H1 σ ρ x M':=fun H' g' c dd r' I z=>h H' g' c dd (r.trans r') I z
theorem sN.gr{k:L2.St->Hp->Prop}{ρ':Env}{M':Mo}(r:Gr q g g1 H H1)(h:sN K aj q k g H ρ' M'):sN K aj q k g1 H1 ρ' M':=fun σ' H' g' r' I=>h σ' H' g' (r.trans r') I
theorem sR.gr{k:VK}{d:Dat}{M':Mo}(r:Gr q g g1 H H1)(h:sR K aj q k g H d M'):sR K aj q k g1 H1 d M':=fun v H' g' r' I z y=>h v H' g' (r.trans r') I z y
theorem sX.gr{x:eE}{ρ':Env}{M':Mo}(r:Gr q g g1 H H1)(h:sX K aj W q g H x ρ' M'):sX K aj W q g1 H1 x ρ' M':=fun σ' H' g' c dd r' I z=>h σ' H' g' c dd (r.trans r') I z
theorem tE.go{f:GF}{k:Dat->Mo->Prop}{Q:VK}(I:SInv K aj σ H g ρ M)(h:(f M ρ).sat k (gE K aj W q g H σ ρ))(hk:∀d M' v H' g',k d M'->Gr q g g' H H'->SInv K aj σ H' g' ρ M'->Rep K g' H' v d->Q v H'):tE K aj W q f σ H Q:=
 ⟨g,ρ,M,I,h.mono (fun d M' hd v H' g' e I' r=>hk d M' v H' g' hd e I' r) fun _ _ z=>z⟩
theorem tET.go{f:GT}{k:Bool->Mo->Prop}{Q:Bool->Hp->Prop}(I:SInv K aj σ H g ρ M)(h:(f M ρ).sat k (gE K aj W q g H σ ρ))(hk:∀b M' H' g',k b M'->Gr q g g' H H'->SInv K aj σ H' g' ρ M'->Q b H'):tET K aj W q f σ H Q:=
 ⟨g,ρ,M,I,h.mono (fun d M' hd H' g' e I'=>hk d M' H' g' hd e I') fun _ _ z=>z⟩
theorem tS.go{f:SF}{D:Ends}(I:SInv K aj σ H1 g1 ρ M)(r:Gr q g g1 H H1)(h:(f M ρ).sat (sN K aj q D.nx g H) (sR K aj q D.rt g H) (sN K aj q D.bk g H) (sN K aj q D.ct g H) (sX K aj W q g H)):tS K aj W q f D σ H1:=
 ⟨g1,ρ,M,I,h.mono (fun _ _ z=>z.gr r) (fun _ _ z=>z.gr r) (fun _ _ z=>z.gr r) (fun _ _ z=>z.gr r) (fun _ _ _ z=>z.gr r)⟩
theorem lF.less{g':Gh}{fs:List (Str×V)}{gs:List (Str×Dat)}(e:g'.tbl=g.tbl)(n:∀a,g'.A a->g.A a)(h:lF K g H fs gs):lF K g' H fs gs:=by
 induction h with
 |nil=>exact .nil
 |cons r _ ih=>exact .cons (r.less e n) ih
theorem qO.less{g':Gh}{x:eE}{c:Value}{dd:Option Addr}(e:g'.tbl=g.tbl)(n:∀a,g'.A a->g.A a)(h:qO K aj g H x c dd):qO K aj g' H x c dd:=by
 obtain⟨C,h1,h2,h3⟩:=h
 refine⟨C,h1,h2,h3.imp id fun⟨a,fs,e1,e2,e3⟩=>⟨a,fs,e1,e2,e3.less e n⟩⟩
theorem wX(g:Gh):∀a,g.fr.A a->g.A a:=fun a z=>z.elim .inl fun z=>.inr (z.elim .inl fun z=>False.elim z)
theorem Rep.fr{v:V}{d:Dat}(h:Rep K g H v d):Rep K g.fr H v d:=Rep.less (g:=g) (g':=g.fr) rfl (wX g) h
theorem aM.fr{v:List V}{d:List Dat}(h:aM K g H v d):aM K g.fr H v d:=aM.less (g:=g) (g':=g.fr) rfl (wX g) h
theorem qO.fr{x:eE}{c:Value}{dd:Option Addr}(h:qO K aj g H x c dd):qO K aj g.fr H x c dd:=qO.less (g:=g) (g':=g.fr) rfl (wX g) h
end
def GE(aj:aR)(X:Cx)(W:WX)(q:Bool)(e:Expr)(f:GF):Prop:=PE X e (tE X.K aj W q f)
def GTe(aj:aR)(X:Cx)(W:WX)(q:Bool)(e:Expr)(f:GT):Prop:=PT X e (tET X.K aj W q f)
def SE(aj:aR)(X:Cx)(W:WX)(q:Bool)(s:Stmt)(f:SF):Prop:=PS X s (tS X.K aj W q f)
def JW(aj:aR)(X:Cx)(W:WX)(q:Bool)(s:List Stmt)(f:SF):Prop:=PSs X s (tS X.K aj W q f)
theorem PS.weak{X:Cx}{e:Stmt}{t t':TS}(h:PS X e t)(k:∀D σ H,t' D σ H->t D σ H):PS X e t':=⟨fun pins s σ H D I z=>h.run pins s σ H D I (k D σ H z)⟩
theorem PSs.weak{X:Cx}{e:List Stmt}{t t':TS}(h:PSs X e t)(k:∀D σ H,t' D σ H->t D σ H):PSs X e t':=⟨fun pins s σ H D I z=>h.run pins s σ H D I (k D σ H z)⟩
def gOf(f:QF):GF:=fun M ρ=>(f M ρ).at M
def afQ(f:QT):GT:=fun M ρ=>(f M ρ).at M
section
variable{X:Cx}{aj:aR}{W:WX}{q:Bool}{a b e:Expr}{pos:Pos}
theorem agx{f:QF}(h:QE aj X W e f):GE aj X W q e (gOf f):=PE.weak h fun σ H Q ⟨g,ρ,M,I,z⟩=>
 ⟨g,ρ,M,I,(Out.ju z).mono (fun d k v H' e r=>k v H' g (Gr.ex e) (I.ex e) r) fun x k H' c dd e r=>k H' g c dd (Gr.ex e) (I.ex e) r⟩
theorem alo{f:QT}(h:tK aj X W e f):GTe aj X W q e (afQ f):=PT.weak h fun σ H Q ⟨g,ρ,M,I,z⟩=>
 ⟨g,ρ,M,I,(Out.ju z).mono (fun d k H' e=>k H' g (Gr.ex e) (I.ex e)) fun x k H' c dd e r=>k H' g c dd (Gr.ex e) (I.ex e) r⟩
def aW:SF:=fun M ρ=>.next ρ M
def aD(f k:SF):SF:=fun M ρ=>match f M ρ with
 |.next ρ' M'=>k M' ρ'
 |o=>o
theorem alc:JW aj X W q [] aW:=PSs.weak pss_nil fun D σ H ⟨g,ρ,M,I,z⟩=>z σ H g .refl I
theorem ajS{s:Stmt}{f:SF}(h:SE aj X W q s f):JW aj X W q [s] f:=pss_one h
theorem ahf{s:Stmt}{ss:List Stmt}{f k:SF}(h:SE aj X W q s f)(hs:JW aj X W q ss k):JW aj X W q (s::ss) (aD f k):=by
 refine PSs.weak (pss_cons h hs) fun D σ H ⟨g,ρ,M,I,z⟩=>?_
 refine⟨g,ρ,M,I,?_⟩
 unfold aD at z
 cases hf:f M ρ with
 |next ρ' M'=>
  rw[hf]at z
  exact fun σ' H' g' r I'=>tS.go I' r z
 |ret d M'=>rw[hf]at z;exact z
 |brk ρ' M'=>rw[hf]at z;exact z
 |cont ρ' M'=>rw[hf]at z;exact z
 |exc x ρ' M'=>rw[hf]at z;exact z
 |bad=>rw[hf]at z;exact z
def aZ.then{α:Type}(o:aZ α)(ρ:Env)(k:α->Mo->u9):u9:=
 match o with
 |.ok a M=>k a M
 |.exc x M=>.exc x ρ M
 |.bad=>.bad
@[simp]theorem aZ.Ug {α:Type} (a:α) (M:Mo) (ρ:Env) (k:α->Mo->u9):(aZ.ok a M).then ρ k=k a M:=rfl
@[simp]theorem aZ.afI {α:Type} (x:eE) (M:Mo) (ρ:Env) (k:α->Mo->u9):(aZ.exc x M:aZ α).then ρ k=.exc x ρ M:=rfl
@[simp]theorem aZ.afr {α:Type} (ρ:Env) (k:α->Mo->u9):(aZ.bad:aZ α).then ρ k=.bad:=rfl
theorem dB{α:Type}{K:aqV}{g:Gh}{H:Hp}{σ:L2.St}{ρ:Env}{o:aZ α}{k:α->Mo->u9}{nx bk ct:Env->Mo->Prop}{rt:Dat->Mo->Prop}(h:(o.then ρ k).sat nx rt bk ct (sX K aj W q g H)):o.sat (fun a M=>(k a M).sat nx rt bk ct (sX K aj W q g H)) (gE K aj W q g H σ ρ):=by
 cases o with
 |ok a M=>exact h
 |exc x M=>exact fun H' g' c dd r I z=>h σ H' g' c dd r I z.fr
 |bad=>exact h
def bf(tg:fG)(f:GF):SF:=fun M ρ=>(f M ρ).then ρ fun d M'=>match tg d ρ with
 |some ρ'=>.next ρ' M'
 |none=>.bad
theorem Yu{tg:Expr}{js:List Nat}{tf:fG}{f:GF}(he:GE aj X W q e f)(hg:QG aj X tg js tf)(hs:swapsWithSole [tg] e pos.line X.env=pure false)(hw:swappedStores [tg] e X.env=pure none)(h1:(assignEach [tg] X.env).map (·.2)=[assign tg X.env]):SE aj X W q (.Assign [tg] e pos) (bf tf f):=by
 refine PS.weak (ps_asg he hg hs hw h1) fun D σ H ⟨g,ρ,M,I,z⟩=>?_
 refine tE.go I (dB (σ:=σ) z) fun d M' v H' g' k r I' rv=>?_
 split at k
 ·next ρ' e'=>exact⟨g',ρ,M',d,ρ',I',rv,e',fun vs I2=>k _ H' g' r I2⟩
 ·exact False.elim k
def cC(f:GF):SF:=fun M ρ=>(f M ρ).then ρ fun _ M'=>.next ρ M'
theorem Uo{f:GF}(he:GE aj X W q e f)(hs:swapsWith e none pos.line X.env=pure false):SE aj X W q (.Expr e pos) (cC f):=by
 refine PS.weak (ps_expr he hs) fun D σ H ⟨g,ρ,M,I,z⟩=>?_
 exact tE.go I (dB (σ:=σ) z) fun d M' v H' g' k r I' rv=>k σ H' g' r I'
end
def QX:Cell->Cell
 |.mut xs=>.dat (.list xs)
 |c=>c
def sO(ρ:Env):Env:=ρ.map fun o=>o.map QX
section
variable{K:aqV}{aj:aR}{W:WX}{q:Bool}{g:Gh}{H:Hp}{σ:L2.St}{ρ:Env}{M:Mo}
theorem jH.less{g':Gh}{l:Addr}(e:g'.tbl=g.tbl)(n:∀a,g'.A a->g.A a):∀{b:Bool} {kvs:List (Dat×Dat)},jH K aj g H l b kvs->jH K aj g' H l b kvs
 |false,_,⟨kv,h1,h2,h3⟩=>⟨kv,h1,h2,h3.less e n⟩
 |true,_,⟨o,xs,vs,h1,h2,h3,h4,h5,h6⟩=>⟨o,xs,vs,h1,h2,h3,h4.less e n,h5,h6.less e n⟩
theorem dZ.less{g':Gh}{h:Nat}{f:Str}{v:V}(e:g'.tbl=g.tbl)(e2:g'.ow=g.ow)(n:∀a,g'.A a->g.A a):∀{fl:jr},dZ K aj g H h f v fl->dZ K aj g' H h f v fl
 |.dat _,z=>Rep.less e n z
 |.lst _ _,⟨l,us,h1,h2,h3,h4,h5⟩=>⟨l,us,h1,h2,by rw[e2];exact h3,h4.less e n,by rw[e];exact h5⟩
 |.dic _ _,⟨l,h1,h2,h3⟩=>⟨l,h1,by rw[e2];exact h2,h3.less e n⟩
theorem cM.less{g':Gh}{h:Nat}(e:g'.tbl=g.tbl)(e2:g'.ow=g.ow)(n:∀a,g'.A a->g.A a):∀{fs:List (Str×V)} {gs:List (Str×jr)},cM K aj g H h fs gs->cM K aj g' H h fs gs
 |_,_,.nil=>.nil
 |_,_,.cons z t=>.cons (dZ.less e e2 n z) (cM.less e e2 n t)
theorem gj.less{g':Gh}(e:g'.tbl=g.tbl)(e2:g'.ow=g.ow)(n:∀a,g'.A a->g.A a)(w:gj K aj g H M):gj K aj g' H M where
 len:=by rw[e];exact w.len
 inj:=by rw[e];exact w.inj
 ins:=fun h a i ha hi hc=>by
  rw[e]at ha
  obtain⟨C,dx,fs,c1,c2,c3⟩:=w.ins h a i ha hi hc
  exact⟨C,dx,fs,c1,c2,c3.less e e2 n⟩
 nd:=w.nd
 fd:=w.fd
 tw:=by rw[e,e2];exact w.tw
 dm:=w.dm
 nc:=w.nc
theorem Qo{i:Nat}{c:Cell}(h:(sO ρ)[i]?=some (some c)):∃c',ρ[i]?=some (some c')/\c=QX c':=by
 unfold sO at h
 rw[aq9]at h
 cases hr:ρ[i]? with
 |none=>rw[hr]at h;cases h
 |some o=>
  rw[hr]at h
  cases o with
  |none=>cases h
  |some c'=>
   cases h
   exact⟨c',rfl,rfl⟩
theorem SInv.sO(I:SInv K aj σ H g ρ M):SInv K aj σ H g.fr (sO ρ) M where
 kd:=⟨fun a z=>I.kd.ob a (wX g a z),fun a z=>False.elim z,fun a z=>⟨(I.kd.lc a z).1,fun y=>y⟩⟩
 wok:=gj.less (g:=g) (g':=g.fr) rfl rfl (wX g) I.wok
 len:=by unfold Rf.sO;rw[aq7];exact I.len
 dat:=fun i d h=>by
  obtain⟨c,h1,h2⟩:=Qo h
  cases c with
  |dat d'=>
   cases h2
   obtain⟨v,e1,e2⟩:=I.dat i _ h1
   exact⟨v,e1,e2.fr⟩
  | «mut» xs=>
   cases h2
   obtain⟨l,us,e1,e2,e3,e4⟩:=I.own i _ h1
   refine⟨_,e1,.lst (.inl ⟨.inl e2,fun z=>?_⟩) e4.fr⟩
   rcases z with z|z|z
   ·exact I.kd.lo l e3 z
   ·exact(I.kd.lc l z).2 e3
   ·exact z
 own:=fun i xs h=>by
  obtain⟨c,h1,h2⟩:=Qo h
  cases c <;> cases h2
 sep:=fun i j xs ys l ne h1=>by
  obtain⟨c,h1,h2⟩:=Qo h1
  cases c <;> cases h2
end
section
variable{K:aqV}{aj:aR}{W:WX}{q:Bool}{g g':Gh}{H H':Hp}{σ:L2.St}{ρ:Env}{M:Mo}
theorem Kd.fr(k:Kd g H):Kd g.fr H:=⟨fun a z=>k.ob a (wX g a z),fun a z=>False.elim z,fun a z=>⟨(k.lc a z).1,fun y=>y⟩⟩
theorem gj.fr(w:gj K aj g H M):gj K aj g.fr H M:=gj.less (g:=g) (g':=g.fr) rfl rfl (wX g) w
theorem bF{α:Type}{l:List (Option α)}{j i:Nat}{c:α}{o:Option α}(h:(l.set j o)[i]?=some (some c)):(j=i/\o=some c/\j < l.length)∨(j≠i/\l[i]?=some (some c)):=by
 by_cases z:j=i
 ·subst z
  have hj:j < l.length:=by
   have:=(aqX.mp h).1
   rw[arq]at this
   exact this
  rw[arf hj]at h
  exact .inl ⟨rfl,ari h,hj⟩
 ·rw[aq4 z]at h
  exact .inr ⟨z,h⟩
theorem SInv.akZ{j:Nat}{l:Addr}{us:List V}{xs:List Dat}(I:SInv K aj σ H g ρ M)(n:H l=none)(e:Ex H H')(hl:H' l=some (.lst us))(r:aM K (g.add l) H' us xs):SInv K aj (σ.set j (some (.ref l))) H' (g.add l) (ρ.set j (some (.mut xs))) M:=by
 have I1:=I.add n e hl trivial
 have nl:∀(i:Nat) (ys:List Dat),ρ[i]?=some (some (.mut ys))->σ[i]?≠some (some (.ref l)):=fun i ys h z=>by
  obtain⟨l',us',h1,h2,_⟩:=I.own i ys h
  rw[z]at h1
  cases h1
  rw[n]at h2
  cases h2
 refine⟨I1.kd,I1.wok,by rw[arq,arq];exact I.len,fun i d h=>?_,fun i ys h=>?_,fun i k ys zs a ne h1 h2 h3 h4=>?_⟩
 ·rcases bF h with⟨_,h,_⟩|⟨ne,h⟩
  ·cases h
  ·rw[aq4 ne]
   exact I1.dat i d h
 ·rcases bF h with⟨rfl,h,hj⟩|⟨ne,h⟩
  ·cases h
   exact⟨l,us,by rw[arf (by rw[I.len];exact hj)],hl,.inr rfl,r⟩
  ·rw[aq4 ne]
   exact I1.own i ys h
 ·rcases bF h1 with⟨rfl,h1,hj⟩|⟨n1,h1⟩
  ·rcases bF h2 with⟨rfl,h2,_⟩|⟨n2,h2⟩
   ·exact ne rfl
   ·rw[arf (by rw[I.len];exact hj)]at h3
    cases h3
    rw[aq4 n2]at h4
    exact nl k zs h2 h4
  ·rcases bF h2 with⟨rfl,h2,hj⟩|⟨n2,h2⟩
   ·rw[arf (by rw[I.len];exact hj)]at h4
    cases h4
    rw[aq4 n1]at h3
    exact nl i ys h1 h3
   ·rw[aq4 n1]at h3
    rw[aq4 n2]at h4
    exact I.sep i k ys zs a ne h1 h2 h3 h4
theorem dZ.loc{l:Addr}{us us':List V}{h:Nat}{f:Str}{v:V}(k:Kd g H)(hl:H l=some (.lst us))(lo:g.Lo l):∀{fl:jr},dZ K aj g H h f v fl->dZ K aj g (upd H l (.lst us')) h f v fl:=fun {fl} z=>by
 have r:Gr true g g H (upd H l (.lst us')):=Gr.upd k hl (.inr lo)
 cases fl with
 |dat d=>exact Rep.gr r k z
 |lst n xs=>
  obtain⟨a,ws,h1,h2,h3,h4,h5⟩:=z
  exact⟨a,ws,h1,by rw[upd_ne (fun z=>by subst z;exact k.lo _ lo (.inr (by rw[h3];exact fun z=>nomatch z)))];exact h2,h3,h4.gr r k,h5⟩
 |dic n kvs=>
  obtain⟨a,h1,h2,h3⟩:=z
  have na:a≠l:=fun z=>by subst z;exact k.lo _ lo (.inr (by rw[h2];exact fun z=>nomatch z))
  refine⟨a,h1,h2,?_⟩
  cases n with
  |false=>
   obtain⟨kv,h3,h4,h5⟩:=h3
   exact⟨kv,by rw[upd_ne na];exact h3,h4,h5.gr r k⟩
  |true=>
   obtain⟨o,xs,vs,h3,h4,h5,h6,h7,h8⟩:=h3
   exact⟨o,xs,vs,by rw[upd_ne na];exact h3,h4,h5,h6.gr r k,h7,h8.gr r k⟩
theorem cM.loc{l:Addr}{us us':List V}{h:Nat}(k:Kd g H)(hl:H l=some (.lst us))(lo:g.Lo l):∀{fs:List (Str×V)} {gs:List (Str×jr)},cM K aj g H h fs gs->cM K aj g (upd H l (.lst us')) h fs gs
 |_,_,.nil=>.nil
 |_,_,.cons z t=>.cons (dZ.loc k hl lo z) (cM.loc k hl lo t)
theorem gj.loc{l:Addr}{us us':List V}(k:Kd g H)(hl:H l=some (.lst us))(lo:g.Lo l)(w:gj K aj g H M):gj K aj g (upd H l (.lst us')) M where
 len:=w.len
 inj:=w.inj
 ins:=fun h a i ha hi hc=>by
  obtain⟨C,dx,fs,c1,c2,c3⟩:=w.ins h a i ha hi hc
  exact⟨C,dx,fs,c1,by rw[upd_ne (fun z=>by subst z;exact k.lo _ lo (.inl (aq3 ha)))];exact c2,c3.loc k hl lo⟩
 nd:=w.nd
 fd:=w.fd
 tw:=w.tw
 dm:=w.dm
 nc:=w.nc
theorem SInv.change{j:Nat}{xs ys:List Dat}(I:SInv K aj σ H g ρ M)(hj:ρ[j]?=some (some (.mut xs))):∃l us,σ[j]?=some (some (.ref l))/\H l=some (.lst us)/\g.Lo l/\aM K g H us xs/\∀us',aM K g H us' ys->SInv K aj σ (upd H l (.lst us')) g (ρ.set j (some (.mut ys))) M:=by
 obtain⟨l,us,h1,h2,h3,h4⟩:=I.own j xs hj
 refine⟨l,us,h1,h2,h3,h4,fun us' r=>?_⟩
 have gr:Gr true g g H (upd H l (.lst us')):=Gr.upd I.kd h2 (.inr h3)
 refine⟨I.kd.upd trivial,I.wok.loc I.kd h2 h3,by rw[arq];exact I.len,fun i d h=>?_,fun i zs h=>?_,fun i k zs ws a ne e1 e2 e3 e4=>?_⟩
 ·rcases bF h with⟨_,h,_⟩|⟨ne,h⟩
  ·cases h
  ·obtain⟨v,e1,e2⟩:=I.dat i d h
   exact⟨v,e1,e2.gr gr I.kd⟩
 ·rcases bF h with⟨rfl,h,_⟩|⟨ne,h⟩
  ·cases h
   exact⟨l,us',h1,upd_same,h3,r.gr gr I.kd⟩
  ·obtain⟨l',ws,e1,e2,e3,e4⟩:=I.own i zs h
   have nl:l'≠l:=fun z=>by
    subst z
    exact I.sep i j zs xs l' (Ne.symm ne) h hj e1 h1
   exact⟨l',ws,e1,by rw[upd_ne nl];exact e2,e3,e4.gr gr I.kd⟩
 ·have k1:∃xs,ρ[i]?=some (some (.mut xs)):=by
   rcases bF e1 with⟨rfl,_,_⟩|⟨_,h⟩
   ·exact⟨xs,hj⟩
   ·exact⟨zs,h⟩
  have k2:∃xs,ρ[k]?=some (some (.mut xs)):=by
   rcases bF e2 with⟨rfl,_,_⟩|⟨_,h⟩
   ·exact⟨xs,hj⟩
   ·exact⟨ws,h⟩
  obtain⟨x1,k1⟩:=k1
  obtain⟨x2,k2⟩:=k2
  exact I.sep i k x1 x2 a ne k1 k2 e3 e4
end
section
variable{X:Cx}{aj:aR}{W:WX}{q:Bool}{a b e:Expr}{pos:Pos}
def aU(f:QF):SF:=fun M ρ=>((f M (sO ρ)).at M).then ρ fun d M'=>.ret d M'
def iH(f:GF):SF:=fun M ρ=>(f M ρ).then ρ fun d M'=>.ret d M'
theorem aiU{f:QF}(he:QE aj X W e f):SE aj X W q (.Return (some e) pos) (aU f):=by
 refine PS.weak (ps_ret he) fun D σ H ⟨g,ρ,M,I,z⟩=>?_
 refine⟨g.fr,sO ρ,M,I.sO,?_⟩
 unfold aU at z
 cases hf:f M (sO ρ) with
 |ok d=>
  rw[hf]at z
  exact fun v H' e r=>z v H' g (Gr.ex e) (I.ex e).kd.fr (I.ex e).wok.fr r
 |exc x=>
  rw[hf]at z
  exact fun H' c dd e r=>z σ H' g c dd (Gr.ex e) (I.ex e) r
 |bad=>rw[hf]at z;exact False.elim z
theorem ahU{f:GF}(he:GE aj X W q e f):SE aj X W q (.Return (some e) pos) (iH f):=by
 refine PS.weak (ps_ret he) fun D σ H ⟨g,ρ,M,I,z⟩=>?_
 exact tE.go I (dB (σ:=σ) z) fun d M' v H' g' k r I' rv=>k v H' g' r I'.kd.fr I'.wok.fr rv.fr
def bT(t:QT)(f k:SF):SF:=fun M ρ=>((t M (sO ρ)).at M).then ρ fun c M'=>if c=true then f M' ρ else k M' ρ
def anv(t:GT)(f k:SF):SF:=fun M ρ=>(t M ρ).then ρ fun c M'=>if c=true then f M' ρ else k M' ρ
theorem alK{c:Expr}{s1 s2:List Stmt}{t:QT}{f k:SF}(hc:tK aj X W c t)(h1:JW aj X W q s1 f)(h2:JW aj X W q s2 k):SE aj X W q (.If c s1 s2 pos) (bT t f k):=by
 refine PS.weak (ps_if hc h1 h2) fun D σ H ⟨g,ρ,M,I,z⟩=>?_
 refine⟨g.fr,sO ρ,M,I.sO,?_⟩
 unfold bT at z
 cases hf:t M (sO ρ) with
 |ok d=>
  rw[hf]at z
  intro H' e
  cases d with
  |true=>exact tS.go (I.ex e) (Gr.ex e) z
  |false=>exact tS.go (I.ex e) (Gr.ex e) z
 |exc x=>
  rw[hf]at z
  exact fun H' c dd e r=>z σ H' g c dd (Gr.ex e) (I.ex e) r
 |bad=>rw[hf]at z;exact False.elim z
def gY(tg:fG)(body:SF):List Dat->Mo->Env->u9
 |[],M,ρ=>.next ρ M
 |d::ds,M,ρ=>match tg d ρ with
  |none=>.bad
  |some ρ1=>match body M ρ1 with
   |.next ρ2 M2=>gY tg body ds M2 ρ2
   |.cont ρ2 M2=>gY tg body ds M2 ρ2
   |.brk ρ2 M2=>.next ρ2 M2
   |.ret d M2=>.ret d M2
   |.exc x ρ2 M2=>.exc x ρ2 M2
   |.bad=>.bad
def rQ(it:IF)(tg:fG)(body:SF):SF:=fun M ρ=>((it M ρ).at M).then ρ fun ds M'=>gY tg body ds M' ρ
theorem akN{tg iter:Expr}{body:List Stmt}{it:IF}{js:List Nat}{tf:fG}{f:SF}(hp:PassesOwn (model X.prog X.w) X.A X.env X.xe)(hc:X.calm=true)(hi:QI aj X W true tg iter it)(hg:QG aj X tg js tf)(hb:JW aj X W q body f)(hs:∀x,foldedSetIterable iter X.env x=pure x) :
  SE aj X W q (.For tg iter body [] pos) (rQ it tf f):=by
 refine PS.weak (ps_for hp hc hi hg hb hs) fun D σ H ⟨g,ρ,M,I,z⟩=>?_
 refine⟨g,ρ,M,I,?_⟩
 unfold rQ at z
 cases hf:it M ρ with
 |exc x=>
  rw[hf]at z
  exact fun H' c dd e r=>z σ H' g c dd (Gr.ex e) (I.ex e) r.fr
 |bad=>rw[hf]at z;exact False.elim z
 |ok ds=>
  rw[hf]at z
  intro J C H1 e1 w c1 firm
  have firm:=firm rfl
  have z:(gY tf f ds M ρ).sat (sN X.K aj q D.nx g H) (sR X.K aj q D.rt g H) (sN X.K aj q D.bk g H) (sN X.K aj q D.ct g H) (sX X.K aj W q g H):=z
  let Pv:Nat->L2.St->Hp->Prop:=fun i σi Hi=>i<=ds.length/\∃gi ρi Mi,Gr q g gi H Hi/\SInv X.K aj σi Hi gi ρi Mi/\C gi Hi/\(gY tf f (ds.drop i) Mi ρi).sat (sN X.K aj q D.nx g H) (sR X.K aj q D.rt g H) (sN X.K aj q D.bk g H) (sN X.K aj q D.ct g H) (sX X.K aj W q g H)
  refine⟨fun i m σi Hi=>m=ds.length - i/\Pv i σi Hi,⟨ds.length,rfl,arK _,g,ρ,M,Gr.ex e1,I.ex e1,c1,by rw[ar7];exact z⟩,?_⟩
  rintro i m σi Hi ⟨rfl,hi,gi,ρi,Mi,ri,Ii,Ci,zi⟩
  by_cases hlt:i < ds.length
  ·refine .inr ⟨w.go _ i Hi Ci hlt,Pv (i+1),fun σ' H' p=>⟨ds.length - (i+1),by omega,rfl,p⟩,fun x H' y=>?_⟩
   have hd:ds[i]?=some ds[i]:=aqY hlt
   obtain⟨e2,rx⟩:=w.yld _ i Hi x H' _ Ii.kd Ci hd y
   rw[arN hlt,gY]at zi
   split at zi
   ·exact False.elim zi
   ·next ρ1 he=>
    have I2:=Ii.ex e2
    refine⟨gi,ρi,Mi,_,ρ1,I2,rx,he,fun vs I3=>⟨gi,ρ1,Mi,I3,?_⟩⟩
    have r2:=ri.trans (Gr.ex e2)
    cases hb':f Mi ρ1 with
    |next ρ2 M2=>
     rw[hb']at zi
     exact fun σ' H2 g2 r I'=>⟨hlt,g2,ρ2,M2,r2.trans r,I',firm q gi g2 H' H2 I2.kd (w.ex _ _ _ Ii.kd Ci e2) r,zi⟩
    |cont ρ2 M2=>
     rw[hb']at zi
     exact fun σ' H2 g2 r I'=>⟨hlt,g2,ρ2,M2,r2.trans r,I',firm q gi g2 H' H2 I2.kd (w.ex _ _ _ Ii.kd Ci e2) r,zi⟩
    |brk ρ2 M2=>
     rw[hb']at zi
     exact sN.gr r2 zi
    |ret d M2=>
     rw[hb']at zi
     exact sR.gr r2 zi
    |exc x ρ2 M2=>
     rw[hb']at zi
     exact sX.gr r2 zi
    |bad=>rw[hb']at zi;exact False.elim zi
  ·have e:i=ds.length:=by omega
   refine .inl ⟨w.stop _ i Hi Ci e,?_⟩
   rw[e,arT]at zi
   exact zi σi Hi gi ri Ii
def Qn(j:Nat)(f:QF):SF:=fun M ρ=>match ρ[j]? with
 |some (some (.dat (.int i)))=>((f M ρ).at M).then ρ fun d M'=>match d with
  |.int k=>.next (ρ.set j (some (.dat (.int (i+k))))) M'
  |_=>.bad
 |_=>.bad
theorem ajV{j:Nat}{x:Str}{f:QF}{pos':Pos}(hN:X.N.Nodup)(hi:X.N[j]?=some x)(hx:Loc X.env.scope x)(hf:X.fn x=true∨X.env.scope.names.lookup x=some .local)(he:QE aj X W e f):SE aj X W q (.AugAssign (.Name x pos') .Add e pos) (Qn j f):=by
 refine PS.weak (ps_aug hN hi hx he ip_add hf) fun D σ H ⟨g,ρ,M,I,z⟩=>?_
 unfold Qn at z
 split at z
 ·next i hj=>
  obtain⟨v,h1,h2⟩:=I.dat j _ hj
  cases h2
  refine⟨.int i,h1,⟨g,ρ,M,I,?_⟩⟩
  cases hf':f M ρ with
  |exc x=>rw[hf']at z;exact fun H' c dd e r=>z σ H' g c dd (Gr.ex e) (I.ex e) r.fr
  |bad=>rw[hf']at z;exact False.elim z
  |ok d=>
   rw[hf']at z
   intro u H' e r
   cases d with
   |int k=>
    cases r
    exact⟨i,k,rfl,rfl,z _ H' g (Gr.ex e) ((I.ex e).set (.int _))⟩
   |_=>exact False.elim z
 ·exact False.elim z
def FE(aj:aR)(X:Cx)(W:WX)(e:Expr)(f:IF):Prop:=PE X e (tFr X.K aj W f)
def Fq(j:Nat)(f:IF):SF:=fun M ρ=>((f M ρ).at M).then ρ fun xs M'=>.next (ρ.set j (some (.mut xs))) M'
theorem ac2{j:Nat}{f:IF}(D:Ends)(σ:L2.St)(H:Hp)(h:tS X.K aj W q (Fq j f) D σ H):tAsg (tFr X.K aj W f) (gName j) D σ H:=by
 obtain⟨g,ρ,M,I,z⟩:=h
 refine⟨g,ρ,M,I,?_⟩
 unfold Fq at z
 cases hf:f M ρ with
 |exc x=>rw[hf]at z;exact fun H' c dd e r=>z σ H' g c dd (Gr.ex e) (I.ex e) r.fr
 |bad=>rw[hf]at z;exact False.elim z
 |ok xs=>
  rw[hf]at z
  intro l us H' n e hl r
  have gr:Gr true g (g.add l) H H':=Gh.Dc n e
  refine z _ H' (g.add l) ?_ (I.akZ n e hl r)
  cases q with
  |true=>exact gr
  |false=>exact gr.loud
theorem aem{j:Nat}{x:Str}{f:IF}{pos':Pos}(hN:X.N.Nodup)(hi:X.N[j]?=some x)(hx:Loc X.env.scope x)(hf:X.fn x=true∨X.env.scope.names.lookup x=some .local)(he:FE aj X W e f)(hs:swapsWith e (some (.Name x pos')) pos.line X.env=pure false):SE aj X W q (.Assign [.Name x pos'] e pos) (Fq j f):=
 PS.weak (ps_set hN hi hx he hs hf) fun D σ H h=>ac2 D σ H h
def SM(f:QA):IF:=fun M ρ=>(f M ρ).bind fun xs=>Out.when (decide (xs.length<=100000)) (.ok xs)
theorem Pg{K:aqV}{g:Gh}{H:Hp}{l:Addr}{vs:List V}{ds:List Dat}(k:Kd g H)(n:H l=none)(r:aM K g H vs ds){o:HO}:aM K (g.add l) (upd H l o) vs ds:=r.gr (Gh.Dc n (Ex.new n)) k
theorem ais{es:List Expr}{fr:QA}(h:Hw aj X W es fr):FE aj X W (.List es pos) (SM fr):=
 PE.weak (pe_lst h) fun σ H Q ⟨g,ρ,M,I,h⟩=>by
  refine Oh.go I h.bnd fun ds vs H1 h1 e1 r1=>?_
  obtain⟨hz,h1⟩:=h1.pC
  have hl:vs.length<=100000:=by
   rw[r1.length]
   exact of_decide_eq_true hz
  exact⟨sz_of hl,fun p np=>h1 p vs _ (yr e1 p np) (e1.trans (Ex.new np)) upd_same (Pg (I.kd.ex e1) np r1)⟩
def Nk:Dat->Out (List Dat)
 |.list ds=>.ok ds
 |.tuple ds=>.ok ds
 |_=>.bad
def Il(f:QF):IF:=fun M ρ=>(f M ρ).bind Nk
theorem agH{f:QF}{p:Pos}(hg:Gl X "list")(hm:X.mg "list"=none)(hv:BV (.type "list") "list")(ha:QW aj X W a f)(hs:nst a=true):FE aj X W (.Call (.Name "list" p) [a] [] pos) (Il f):=by
 have h1:=pa_cons ha pa_nil (cD hs [])
 refine PE.weak (pe_callTy (pos:=pos) (p:=p) call_list_of hg hm hv.1 h1 hv.2.1 hv.2.2 (cD hs []) (by with_unfolding_all rfl)) fun σ H Q ⟨g,ρ,M,I,h⟩=>?_
 refine tW.go I h.bnd fun d v H1 h1 e1 r1=>?_
 unfold Nk at h1
 split at h1
 ·obtain⟨p,us,rfl,s1,t1⟩:=iU r1
  exact⟨p,us,rfl,.inl s1,fun l nl=>h1 l us _ (yr e1 l nl) (e1.trans (Ex.new nl)) upd_same (Pg (I.kd.ex e1) nl t1)⟩
 ·obtain⟨p,us,rfl,s1,t1⟩:=lC r1
  exact⟨p,us,rfl,.inr s1,fun l nl=>h1 l us _ (yr e1 l nl) (e1.trans (Ex.new nl)) upd_same (Pg (I.kd.ex e1) nl t1)⟩
 ·exact False.elim h1
def baseOk:Expr->Bool
 |.Call (.Name _ _) _ _ _=>false
 |_=>true
theorem mW{o:Expr}{m:Str}{env:PySem.Env}{w:Sem Value}(h:baseOk o=true):attributeBase o m env w=w:=by
 cases o with
 | Call f as ks p=>cases f <;> first | rfl | cases h
 |_=>rfl
theorem Zd{env:PySem.Env}{pos:Pos}:∀(es:List Expr),es.all nst=true->(backTo pos (starEach es env)).all (fun x=>!x.1)=true
 |[],_=>by with_unfolding_all rfl
 |a::es,h=>by
  rw[arJ,aqW]at h
  rw[cD h.1]
  have ih:=Zd (env:=env) (pos:=pos) es h.2
  unfold backTo at ih ⊢
  rw[aqZ,arJ,ih]
  rfl
theorem few{env:PySem.Env}{pos:Pos}{es:List Expr}(h:es.all nst=true)(hl:es.length < 30):((backTo pos (starEach es env)).all (fun x=>!x.1)&&(backToKw pos (keywordEach [] env)).all (fun x=>x.1.isSome)&&decide (es.length+([]:List Keyword).length+(if ([]:List Keyword).isEmpty then 0 else 1) < 30))=true:=by
 rw[Zd es h]
 have:(backToKw pos (keywordEach [] env)).all (fun x=>x.1.isSome)=true:=by with_unfolding_all rfl
 rw[this]
 simpa using hl
def Pn(j:Nat)(f:QF):SF:=fun M ρ=>match ρ[j]? with
 |some (some (.mut xs))=>((f M ρ).at M).then ρ fun d M'=>if xs.length < 100000 then .next (ρ.set j (some (.mut (xs++[d])))) M' else .bad
 |_=>.bad
theorem ajY{j:Nat}{x:Str}{f:QF}{p apos:Pos}{epos:Pos}(hN:X.N[j]?=some x)(hv:Vis X.env.scope x)(hd:(x==("__debug__" : Str))=false)(hcd:(x==("__classdict__" : Str))=false)(he:QE aj X W e f)(hs:nst e=true)
  (hl:(apos.endLine==pos.line)=true):SE aj X W q (.Expr (.Call (.Attribute (.Name x p) "append" apos) [e] [] pos) epos) (Pn j f):=by
 have h0:=pe_var (X:=X) (pos:=p) hN hv hd hcd
 have h1:=pa_cons he pa_nil (cD hs [])
 have key:=pe_bm (X:=X) (cpos:=pos) (apos:=apos) PySem.F.plainAttrs_list PySem.F.slot_list_append PySem.F.type_list_append mt_append h0 h1 (mW rfl) (few (by simp[hs]) (by simp)) hl (cD hs []) (by with_unfolding_all rfl)
 refine PS.weak (ps_expr key (by with_unfolding_all rfl)) fun D σ H ⟨g,ρ,M,I,z⟩=>?_
 unfold Pn at z
 split at z
 ·next xs hj=>
  obtain⟨l,us,e1,e2,e3,e4⟩:=I.own j xs hj
  refine⟨.ref l,e1,.inl ⟨rfl,us,sq_of e2⟩,⟨g,ρ,M,I,?_⟩⟩
  cases hf:f M ρ with
  |exc x=>rw[hf]at z;exact fun H' c dd e r=>z σ H' g c dd (Gr.ex e) (I.ex e) r.fr
  |bad=>rw[hf]at z;exact False.elim z
  |ok d=>
   rw[hf]at z
   intro v H' e r
   have z:(if xs.length < 100000 then u9.next (ρ.set j (some (.mut (xs++[d])))) M else .bad).sat (sN X.K aj q D.nx g H) (sR X.K aj q D.rt g H) (sN X.K aj q D.bk g H) (sN X.K aj q D.ct g H) (sX X.K aj W q g H):=z
   split at z
   ·next hlen=>
    have I1:=I.ex e
    obtain⟨l',us',f1,f2,f3,f4,f5⟩:=I1.change (ys:=xs++[d]) hj
    rw[e1]at f1
    cases f1
    rw[e _ _ e2]at f2
    cases f2
    refine⟨l,us,v,rfl,rfl,e _ _ e2,sz_lt (by rw[e4.length];exact hlen),?_⟩
    exact z _ _ g ((Gr.ex e).trans (Gr.upd I1.kd (e _ _ e2) (.inr f3))) (f5 _ (f4.append (.cons r .nil)))
   ·exact False.elim z
 ·exact False.elim z
def R6(j:Nat)(fi f:QF):SF:=fun M ρ=>match ρ[j]? with
 |some (some (.mut xs))=>((f M ρ).at M).then ρ fun d M'=>((fi M' ρ).at M').then ρ fun i M2=>match i with
  |.int k=>match ixN xs.length k with
   |some n=>.next (ρ.set j (some (.mut (xs.set n d)))) M2
   |none=>.bad
  |_=>.bad
 |_=>.bad
theorem ahP{j:Nat}{x:Str}{i:Expr}{f fi:QF}{p spos:Pos}(hN:X.N[j]?=some x)(hv:Vis X.env.scope x)(hd:(x==("__debug__" : Str))=false)(hcd:(x==("__classdict__" : Str))=false)(he:QE aj X W e f)(hi:QE aj X W i fi)
  (ha:∀v,assign (.Subscript (.Name x p) i spos) X.env v=(do
   let ov ←holding [v] (eval (.Name x p) X.env)
   let iv ←holding [v,ov] (eval i X.env)
   standAt spos
   holding [v,ov,iv] (setItem ov iv v)
   release [v,ov,iv] []))
  (hs:swapsWithSole [.Subscript (.Name x p) i spos] e pos.line X.env=pure false) (h1:(assignEach [.Subscript (.Name x p) i spos] X.env).map (·.2)=[assign (.Subscript (.Name x p) i spos) X.env]):SE aj X W q (.Assign [.Subscript (.Name x p) i spos] e pos) (R6 j fi f):=by
 have h0:=pe_var (X:=X) (pos:=p) hN hv hd hcd
 refine PS.weak (ps_asg he (pg_sub h0 hi set_list ha) hs (by with_unfolding_all rfl) h1) fun D σ H ⟨g,ρ,M,I,z⟩=>?_
 unfold R6 at z
 split at z
 ·next xs hj=>
  refine⟨g,ρ,M,I,?_⟩
  cases hf:f M ρ with
  |exc x=>rw[hf]at z;exact fun H' c dd e r=>z σ H' g c dd (Gr.ex e) (I.ex e) r.fr
  |bad=>rw[hf]at z;exact False.elim z
  |ok d=>
   rw[hf]at z
   intro v H1 e1 r1
   have I1:=I.ex e1
   obtain⟨l,us,f1,f2,f3,f4⟩:=I1.own j xs hj
   refine⟨.ref l,f1,⟨g,ρ,M,I1,?_⟩⟩
   cases hfi:fi M ρ with
   |exc x=>
    simp only[Out.abR,aZ.Ug,hfi,Out.akF,aZ.afI]at z
    exact fun H' c dd e r=>z σ H' g c dd ((Gr.ex e1).trans (Gr.ex e)) (I1.ex e) r.fr
   |bad=>
    simp only[Out.abR,aZ.Ug,hfi,Out.ak0,aZ.afr]at z
    exact False.elim z
   |ok k=>
    simp only[Out.abR,aZ.Ug,hfi]at z
    intro w H2 e2 r2
    cases k with
    |int k=>
     simp only at z
     split at z
     ·next n hn=>
      have I2:=I1.ex e2
      obtain⟨l',us',k1,k2,k3,k4,k5⟩:=I2.change (ys:=xs.set n d) hj
      rw[f1]at k1
      cases k1
      rw[e2 _ _ f2]at k2
      cases k2
      cases r2
      refine⟨l,us,k,n,rfl,rfl,e2 _ _ f2,by rw[f4.length];exact hn,?_⟩
      exact z _ _ g (((Gr.ex e1).trans (Gr.ex e2)).trans (Gr.upd I2.kd (e2 _ _ f2) (.inr k3))) (k5 _ (k4.set (r1.ex e2 I1.kd) n))
     ·exact False.elim z
    |_=>exact False.elim z
 ·exact False.elim z
end
structure Gc(g g':Gh)(H H':Hp):Prop where
 keep:∀a o,H a=some o->¬g.W a->H' a=some o
 dom:∀a,H' a=none->H a=none
 tbl:∃more,g'.tbl=g.tbl++more
 W:∀a,g.W a->g'.W a
 nW:∀a,g'.W a->g.W a∨H a=none
 Lc:g'.Lc=g.Lc
 Lo:g'.Lo=g.Lo
def Wr(K:aqV)(aj:aR)(n:Nat)(m:Mo->List Dat->Out Dat):Sp:=fun vs H Q E=>vs.length=n/\∃g M ds,Kd g H/\gj K aj g H M/\aM K g H vs ds/\
 (m M ds).sat (fun d=>∀v H',Ex H H'->Rep K g H' v d->Q v H') fun x=>∀H' c dd,Ex H H'->qO K aj g H' x c dd->E c dd H'
def JN(K:aqV)(aj:aR)(n:Nat)(m:Mo->List Dat->aZ Dat):Sp:=fun vs H Q E=>vs.length=n/\∃g M ds,Kd g H/\gj K aj g H M/\aM K g H vs ds/\
 (m M ds).sat (fun d M'=>∀v H' g',Gc g g' H H'->Kd g' H'->gj K aj g' H' M'->Rep K g' H' v d->Q v H') fun x M'=>∀H' g' c dd,Gc g g' H H'->Kd g' H'->gj K aj g' H' M'->qO K aj g' H' x c dd->E c dd H'
section
variable{K:aqV}{aj:aR}{W:WX}{g g':Gh}{H H':Hp}{σ:L2.St}{ρ:Env}{M M':Mo}
theorem Gc.gr(r:Gc g g' H H'):Gr false g g' H H':=⟨fun a o h n _=>r.keep a o h n,(fun z=>nomatch z),r.dom,r.tbl,r.W,r.nW,(fun z=>nomatch z),r.Lc,fun a h=>by rw[r.Lo];exact h,fun a h=>by rw[r.Lo]at h;exact .inl h⟩
theorem SInv.call(r:Gc g g' H H')(k':Kd g' H')(w':gj K aj g' H' M')(I:SInv K aj σ H g ρ M):SInv K aj σ H' g' ρ M' where
 kd:=k'
 wok:=w'
 len:=I.len
 dat:=fun i d h=>by
  obtain⟨v,h1,h2⟩:=I.dat i d h
  exact⟨v,h1,h2.gr r.gr I.kd⟩
 own:=fun i xs h=>by
  obtain⟨l,us,h1,h2,h3,h4⟩:=I.own i xs h
  exact⟨l,us,h1,r.keep _ _ h2 (I.kd.lo l h3),by rw[r.Lo];exact h3,h4.gr r.gr I.kd⟩
 sep:=I.sep
def Gh.in(g:Gh):Gh:={ g with Lc:=fun a=>g.Lc a∨g.Lo a,Lo:=fun _=>False }
theorem Zx(g:Gh)(a:Addr):g.in.A a↔g.A a:=by
 constructor
 ·rintro(z|(z|z)|z)
  ·exact .inl z
  ·exact .inr (.inl z)
  ·exact .inr (.inr z)
  ·exact False.elim z
 ·rintro(z|z|z)
  ·exact .inl z
  ·exact .inr (.inl (.inl z))
  ·exact .inr (.inl (.inr z))
theorem Kd.in(k:Kd g H):Kd g.in H:=⟨fun a z=>k.ob a ((Zx g a).mp z),fun a z=>False.elim z,fun a z=>⟨z.elim (fun z=>(k.lc a z).1) (fun z=>k.lo a z),fun y=>y⟩⟩
def ini(n:Nat)(ds:List Dat):Env:=ds.map (fun d=>some (.dat d))++List.replicate (n - ds.length) none
theorem abw{N:List Str}{vs:List V}{ds:List Dat}(k:Kd g H)(w:gj K aj g H M)(r:aM K g H vs ds):SInv K aj (start N vs) H g (ini N.length ds) M where
 kd:=k
 wok:=w
 len:=by
  unfold L2.start ini
  rw[arP,arP,aq7,aq7,List.length_replicate,List.length_replicate,r.length]
 dat:=fun i d h=>by
  unfold ini at h
  unfold L2.start
  by_cases hi:i < ds.length
  ·rw[aq6 (by rw[aq7];exact hi),aq9]at h
   cases hd:ds[i]? with
   |none=>rw[hd]at h;cases h
   |some d'=>
    rw[hd]at h
    cases h
    obtain⟨v,h1,h2⟩:=r.get hd
    refine⟨v,?_,h2⟩
    rw[aq6 (by rw[aq7,r.length];exact hi),aq9,h1]
    rfl
  ·rw[arj (by rw[aq7];omega)]at h
   rw[List.getElem?_replicate]at h
   split at h <;> cases h
 own:=fun i xs h=>by
  unfold ini at h
  by_cases hi:i < ds.length
  ·rw[aq6 (by rw[aq7];exact hi),aq9]at h
   cases hd:ds[i]? with
   |none=>rw[hd]at h;cases h
   |some d'=>rw[hd]at h;cases h
  ·rw[arj (by rw[aq7];omega)]at h
   rw[List.getElem?_replicate]at h
   split at h <;> cases h
 sep:=fun i j xs ys l ne h=>by
  unfold ini at h
  by_cases hi:i < ds.length
  ·rw[aq6 (by rw[aq7];exact hi),aq9]at h
   cases hd:ds[i]? with
   |none=>rw[hd]at h;cases h
   |some d'=>rw[hd]at h;cases h
  ·rw[arj (by rw[aq7];omega)]at h
   rw[List.getElem?_replicate]at h
   split at h <;> cases h
end
def mQ(n:Nat)(body:SF):Mo->List Dat->Out Dat:=fun M ds=>match body M (ini n ds) with
 |.ret d _=>.ok d
 |.next _ _=>.ok .none
 |.exc x _ _=>.exc x
 |_=>.bad
def mG(n:Nat)(body:SF):Mo->List Dat->aZ Dat:=fun M ds=>match body M (ini n ds) with
 |.ret d M'=>.ok d M'
 |.next _ M'=>.ok .none M'
 |.exc x _ M'=>.exc x M'
 |_=>.bad
section
variable{P:Program}{w:World}{K:aqV}{mg:Str->Option Value}{base:Heap}{aj:aR}
def afO(E:XK):WX:=fun c d _ H=>E c d H
theorem Rep.same{g g':Gh}{H:Hp}{v:V}{d:Dat}(e:g'.tbl=g.tbl)(n:∀a,g'.A a↔g.A a)(h:Rep K g H v d):Rep K g' H v d:=h.less e fun a z=>(n a).mp z
theorem abU{g g':Gh}{H H':Hp}(r:Gr true g.in g' H H'):Ex H H':=fun a o h=>by
 by_cases w:g.W a
 ·exact r.keepW rfl a o h w
 ·exact r.keep a o h w fun z=>z
theorem aiS{q:Bool}{g g':Gh}{H H':Hp}(r:Gr q g.in g' H H')(a:Addr):g'.fr.A a↔(g'.W a∨g.Lc a∨g.Lo a):=by
 have hl:g'.Lc=g.in.Lc:=r.Lc
 constructor
 ·rintro(z|z|z)
  ·exact .inl z
  ·have z:g'.Lc a:=z
   rw[hl]at z
   exact .inr z
  ·exact False.elim z
 ·rintro(z|z)
  ·exact .inl z
  ·refine .inr (.inl ?_)
   show g'.Lc a
   rw[hl]
   exact z
theorem amJ{x qual:Str}{st:Stmt}{f:Addr}{fd:FuncData}{N ps:List Str}{k:Nat}{body:SF}(F:Fun K x qual st f fd)(S:FnScope N ps (defScope st))
  (hb:∀(cdv:Value) (A:Around) (outer:List PySem.Env) (s:Shared) (H:Hp) (E:XK),Room k (A.deeper (envOfC qual (defScope st) s.heap.objs.size f cdv))->JW aj (cxOf (L2.CX P w) P w K mg base N qual (defScope st) f cdv A outer s H E) (afO E) true (defBody st) body) :
  FnOk P w K mg base (L2.CX P w) (k+1) f fd ps (Wr K aj ps.length (mQ N.length body)):=by
 refine F.okX S (fun vs H Q E h=>h.1) (fun cdv A outer s H vs Q E hr h=>⟨_,hb cdv A outer s H E hr,?_⟩)
 obtain⟨hl,g,M,ds,kd,wk,rs,h⟩:=h
 have wk':gj K aj g.in H M:=gj.less (g:=g) (g':=g.in) rfl rfl (fun a z=>(Zx g a).mp z) wk
 refine⟨g.in,ini N.length ds,M,abw kd.in wk' (aM.less (g:=g) (g':=g.in) rfl (fun a z=>(Zx g a).mp z) rs),?_⟩
 have back:∀{g':Gh} {H':Hp},Gr true g.in g' H H'->∀a,g.A a↔g'.fr.A a:=fun {g' H'} r a=>by
  rw[aiS r a]
  have e:=(r.qg rfl)
  have ew:g'.W a↔g.W a:=by
   unfold Gh.W
   rw[e.1,e.2]
   rfl
  unfold Gh.A
  rw[ew]
 unfold mQ at h
 cases hf:body M (ini N.length ds) with
 |next ρ' M'=>
  rw[hf]at h
  exact fun σ' H' g' r I'=>h _ H' (abU r) .non
 |ret d M'=>
  rw[hf]at h
  exact fun v H' g' r k' w' rv=>h v H' (abU r) (Rep.same (g:=g'.fr) (g':=g) (r.qg rfl).1.symm (back r) rv)
 |exc x ρ' M'=>
  rw[hf]at h
  exact fun σ' H' g' c dd r I' rx=>h H' c dd (abU r) (qO.less (g:=g'.fr) (g':=g) (r.qg rfl).1.symm (fun a z=>(back r a).mp z) rx)
 |brk ρ' M'=>rw[hf]at h;exact False.elim h
 |cont ρ' M'=>rw[hf]at h;exact False.elim h
 |bad=>rw[hf]at h;exact False.elim h
theorem amI{x qual:Str}{st:Stmt}{f:Addr}{fd:FuncData}{N ps:List Str}{k:Nat}{body:SF}(F:Fun K x qual st f fd)(S:FnScope N ps (defScope st))
  (hb:∀(cdv:Value) (A:Around) (outer:List PySem.Env) (s:Shared) (H:Hp) (E:XK),Room k (A.deeper (envOfC qual (defScope st) s.heap.objs.size f cdv))->JW aj (cxOf (L2.CX P w) P w K mg base N qual (defScope st) f cdv A outer s H E) (afO E) false (defBody st) body) :
  FnOk P w K mg base (L2.CX P w) (k+1) f fd ps (JN K aj ps.length (mG N.length body)):=by
 refine F.okX S (fun vs H Q E h=>h.1) (fun cdv A outer s H vs Q E hr h=>⟨_,hb cdv A outer s H E hr,?_⟩)
 obtain⟨hl,g,M,ds,kd,wk,rs,h⟩:=h
 have wk':gj K aj g.in H M:=gj.less (g:=g) (g':=g.in) rfl rfl (fun a z=>(Zx g a).mp z) wk
 refine⟨g.in,ini N.length ds,M,abw kd.in wk' (aM.less (g:=g) (g':=g.in) rfl (fun a z=>(Zx g a).mp z) rs),?_⟩
 let gb:Gh->Gh:=fun g'=>{ tbl:=g'.tbl,ow:=g'.ow,Lc:=g.Lc,Lo:=g.Lo }
 have gc:∀{g':Gh} {H':Hp},Gr false g.in g' H H'->Gc g (gb g') H H':=fun {g' H'} r=>⟨fun a o h n=>r.keep a o h n fun z=>z,r.dom,r.tbl,r.W,r.nW,rfl,rfl⟩
 have eA:∀{g':Gh} {H':Hp},Gr false g.in g' H H'->∀a,(gb g').A a↔g'.fr.A a:=fun {g' H'} r a=>by
  rw[aiS r a]
  exact Iff.rfl
 have kk:∀{g':Gh} {H':Hp},Gr false g.in g' H H'->Kd g'.fr H'->Kd (gb g') H':=fun {g' H'} r k'=>by
  have nw:∀a,(g.Lc a∨g.Lo a)->¬g'.W a:=fun a z y=>by
   have:g'.fr.Lc a:=by
    show g'.Lc a
    rw[show g'.Lc=g.in.Lc from r.Lc]
    exact z
   exact(k'.lc a this).1 y
  exact⟨fun a z=>k'.ob a ((eA r a).mp z),fun a z=>nw a (.inr z),fun a z=>⟨nw a (.inl z),(kd.lc a z).2⟩⟩
 unfold mG at h
 cases hf:body M (ini N.length ds) with
 |next ρ' M'=>
  rw[hf]at h
  exact fun σ' H' g' r I'=>h _ H' (gb g') (gc r) (kk r I'.kd.fr) (gj.less (g:=g'.fr) (g':=gb g') rfl rfl (fun a z=>(eA r a).mp z) I'.wok.fr) .non
 |ret d M'=>
  rw[hf]at h
  exact fun v H' g' r k' w' rv=>h v H' (gb g') (gc r) (kk r k') (gj.less (g:=g'.fr) (g':=gb g') rfl rfl (fun a z=>(eA r a).mp z) w') (Rep.same (g:=g'.fr) (g':=gb g') rfl (eA r) rv)
 |exc x ρ' M'=>
  rw[hf]at h
  exact fun σ' H' g' c dd r I' rx=>h H' (gb g') c dd (gc r) (kk r I'.kd.fr) (gj.less (g:=g'.fr) (g':=gb g') rfl rfl (fun a z=>(eA r a).mp z) I'.wok.fr) (qO.less (g:=g'.fr) (g':=gb g') rfl (fun a z=>(eA r a).mp z) rx)
 |brk ρ' M'=>rw[hf]at h;exact False.elim h
 |cont ρ' M'=>rw[hf]at h;exact False.elim h
 |bad=>rw[hf]at h;exact False.elim h
end
def aV(m:Mo->List Dat->Out Dat)(as:QA):QF:=fun M ρ=>(as M ρ).bind fun ds=>m M ds
section
variable{X:Cx}{aj:aR}{W:WX}{q:Bool}{a b e:Expr}{es:List Expr}{pos p:Pos}{x:Str}{k:Nat}{f:Addr}{fd:FuncData}{ps:List Str}
theorem ahv{m:Mo->List Dat->Out Dat}{as:QA}(tk:Takes X W)(F:FnOk X.prog X.w X.K X.mg X.base (L2.CX X.prog X.w) k f fd ps (Wr X.K aj ps.length m))(hr:Room k X.A)(hg:Gl X x)(hm:X.mg x=some (.ref f))(hk:PySem.W.keepIn X.K (.ref f)=true)(hb:Binds X.K fd ps [])
  (ha:Hw aj X W (e::es) as) (hl:(e::es).length=ps.length) (hd:(x==("__debug__" : Str))=false) (hs:(e::es).all nst=true) (hn:∀M ρ ds,as M ρ=.ok ds->ds.length=(e::es).length):QE aj X W (.Call (.Name x p) (e::es) [] pos) (aV m as):=by
 have hs':=hs
 rw[arJ,aqW]at hs'
 refine PE.weak (pe_callS (E:=fun σ=>WE W σ) F hr hg hm hk hb (fun σ=>passAt tk σ) ha hd (cD hs'.1 es) (star_any es hs'.2)) fun σ H Q ⟨g,ρ,M,I,h⟩=>?_
 refine⟨g,ρ,M,I,?_⟩
 have h:=h.bnd
 cases has:as M ρ with
 |exc x=>rw[has]at h;exact h
 |bad=>rw[has]at h;exact h
 |ok ds=>
  rw[has]at h
  have h:(m M ds).sat (fun d=>∀v H',Ex H H'->Rep X.K g H' v d->Q v H') (qD X.K aj W g H σ):=h
  intro vs H1 e1 r1
  refine⟨by rw[r1.length,hn M ρ ds has];exact hl,g,M,ds,I.kd.ex e1,I.wok.ex e1 I.kd,r1,h.mono (fun d k v H' e' r'=>k v H' (e1.trans e') r') fun x k H' c dd e' r'=>k H' c dd (e1.trans e') r'⟩
end
theorem afl{n:Nat}(h:n<=16001):n<=sizeLine:=ars h (by decide)
theorem al0{prog:Program}{w:World}{A:Around}{E:Value->Shared->Prop}{s:Shared}{l:Addr}{v0:Value}{vs:List Value}{Q:List Value->Shared->Prop}(hh:A.handled=none)(hl:s.heap.IsList l (v0::vs).toArray∨IsTup s.heap l (v0::vs).toArray)(hz:vs.length<=16000)
  (h:∀(h₂:Heap) (tk:Nat),(∀b o,s.heap.get? b=some o->h₂.get? b=some o)->Q [v0,.ref h₂.objs.size] { s with heap:=h₂.push { cls:=.type "list",data:=.seq vs.toArray },toks:=tk }):wpAny (model prog w) A (unpackItems (.ref l) 2 (some 1)) Q E s:=by
 have hll:l < s.heap.objs.size:=by
  rcases hl with⟨o,ho,_⟩|⟨o,ho,_⟩ <;> exact Heap.lt_size ho
 have hlt:l≠s.heap.objs.size:=arE hll
 have hsz:(v0::vs).toArray.size=vs.length+1:=by simp
 have hb:(v0::vs).toArray.size<=sizeLine:=afl (by rw[hsz];omega)
 have hd:(v0::vs).toArray.toList.drop 1=vs:=by simp
 have ht:((v0::vs).toArray.toList.drop 0).take 1=[v0]:=by simp
 have fin:∀(h₂:Heap) (tk:Nat),(∀b o,b≠s.heap.objs.size->s.heap.get? b=some o->h₂.get? b=some o)->wpAny (model prog w) A (newList vs >>= fun d=>pure ([v0]++[d]++[])) Q E { s with heap:=h₂,toks:=tk }:=fun h₂ tk k=>by
  refine wpAny_bind (wpAny_newObj_type (wpAny_pure ?_) (afl (by simp;omega)))
  exact h h₂ tk fun b o e=>k b o (arE (Heap.lt_size e)) e
 unfold unpackItems
 refine wpAny_bind ?_
 unfold notIterableAtAll
 rcases hl with hl|hl
 ·refine wpAny_bind (wpAny_specialOf hl.typeIs slot_list_iter.lookup (wpAny_pure ?_))
  simp only[arp,if_false]
  refine wpAny_bind (wpAny_holding (wpAny_pyIter_list hl ?_))
  refine wpAny_bind (wpAny_holding (PySem.W.kun_draw hlt 1 0 _ _ ⟨_,Heap.get?_push_size _ rfl,rfl,rfl⟩ (hl.push _) (by rw[hsz];omega) fun h₁ i1 b1=>?_))
  have hl₁:=(hl.push _).extBut b1.extBut hlt
  obtain⟨oi,hoi,_⟩:=id i1
  obtain⟨ol,hol,_⟩:=id hl₁
  rw[ht]
  refine wpAny_bind (wpAny_holding (PySem.W.kun_collect (s:={ s with heap:=h₁ }) (T:="list_iterator") (.inr (.inr (.inl rfl))) (Walks.list (A:=A.in1) hh s.heap.objs.size l hlt (v0::vs).toArray) (fun j u st=>st.1.typeIs) (k:=1) (by rw[hsz];omega) ⟨i1,hl₁⟩ (Heap.lt_size hoi) (Heap.lt_size hol) (fun h₂ tk hk=>?_) hb))
  rw[hd]
  show wpAny _ _ (if vs.length < 0 then _ else newList (vs.take (vs.length - 0)) >>= fun d=>pure ([v0]++[d]++vs.drop (vs.length - 0))) _ _ _
  rw[if_neg (Nat.not_lt_zero _),Nat.sub_zero,List.take_length,arT]
  exact fin h₂ tk fun b o ne e=>hk b o ne (b1.extBut b o ne (Heap.get?_push_of_some _ e))
 ·refine wpAny_bind (wpAny_specialOf hl.typeIs slot_tuple_iter.lookup (wpAny_pure ?_))
  simp only[arp,if_false]
  refine wpAny_bind (wpAny_holding (iter_tuple hl ?_))
  refine wpAny_bind (wpAny_holding (draw_tuple hlt 1 0 _ _ ⟨_,Heap.get?_push_size _ rfl,rfl,rfl⟩ (hl.push _) (by rw[hsz];omega) fun h₁ i1 b1=>?_))
  have hl₁:IsTup h₁ l (v0::vs).toArray:=(hl.push _).extBut b1.extBut hlt
  obtain⟨oi,hoi,_⟩:=id i1
  obtain⟨ol,hol,_⟩:=id hl₁
  rw[ht]
  refine wpAny_bind (wpAny_holding (PySem.W.kun_collect (s:={ s with heap:=h₁ }) (T:="tuple_iterator") (.inr (.inr (.inr rfl))) (Walks.tuple (A:=A.in1) hh s.heap.objs.size l hlt (v0::vs).toArray) (fun j u st=>st.1.typeIs) (k:=1) (by rw[hsz];omega) ⟨i1,hl₁⟩ (Heap.lt_size hoi) (Heap.lt_size hol) (fun h₂ tk hk=>?_) hb))
  rw[hd]
  show wpAny _ _ (if vs.length < 0 then _ else newList (vs.take (vs.length - 0)) >>= fun d=>pure ([v0]++[d]++vs.drop (vs.length - 0))) _ _ _
  rw[if_neg (Nat.not_lt_zero _),Nat.sub_zero,List.take_length,arT]
  exact fin h₂ tk fun b o ne e=>hk b o ne (b1.extBut b o ne (Heap.get?_push_of_some _ e))
def af9(K:aqV)(i j:Nat):TG:=fun v σ H Q=>∃a v0 us,v=.ref a/\(SqL K H a (v0::us)∨SqT K H a (v0::us))/\us.length<=16000/\∀D,H D=none->Q ((σ.set i (some v0)).set j (some (.ref D))) (upd H D (.lst us))
def Uz(X:Cx)(j:Nat)(x:Str):Prop:=X.N[j]?=some x/\Loc X.env.scope x/\(X.fn x=true∨X.env.scope.names.lookup x=some .local)
theorem ahX{X:Cx}{i j k:Nat}{x y:Str}{px py ps pos:Pos}(hc:X.calm=true)(hN:X.N.Nodup)(hx:Uz X i x)(hy:Uz X j y):PG X (.Tuple [.Name x px,.Starred (.Name y py) ps] k pos) (af9 X.K i j):=by
 refine⟨fun pins s σ H v u Q I r h=>?_⟩
 obtain⟨a,v0,us,rfl,hq,hz,q⟩:=h
 cases r
 have e1:assign (.Tuple [.Name x px,.Starred (.Name y py) ps] k pos) X.env (.ref a)=(do standAt pos;unpack (.ref a) (assignEach [.Name x px,.Starred (.Name y py) ps] X.env)):=by with_unfolding_all rfl
 have e2:assignEach [.Name x px,.Starred (.Name y py) ps] X.env=[(false,assign (.Name x px) X.env),(true,assign (.Name y py) X.env)]:=by with_unfolding_all rfl
 rw[e1,e2]
 refine wpAny_bind (wpAny_standAt ?_)
 unfold unpack
 obtain⟨w0,ws,hlw,rv0,rvs⟩:∃w0 ws,(s.heap.IsList a (w0::ws).toArray∨IsTup s.heap a (w0::ws).toArray)/\RelV v0 w0/\Vals us ws:=by
  rcases hq with hq|hq
  ·obtain⟨its,rv,p,_⟩:=I.list hq
   cases rv with
   |cons r t=>exact⟨_,_,.inl p.isList,r,t⟩
  ·obtain⟨its,rv,p,_⟩:=I.tuple hq
   cases rv with
   |cons r t=>exact⟨_,_,.inr p,r,t⟩
 refine wpAny_bind (wpAny_holding (al0 (I.ok.hd hc) hlw (by rw[←rvs.length];exact hz) fun h₂ tk hk=>?_))
 have I2:L2.Inv X pins σ H { s with heap:=h₂,toks:=tk }:=I.kept (t':=tk) hk
 have I3:=I2.lnew (t':=tk) rvs (afl (by omega))
 refine assignInOrder_cons (wpAny_assign_Name (store_ok I3 hN hx.1 hx.2.1 rv0 (fun s4 I4=>?_) hx.2.2))
 refine assignInOrder_cons (wpAny_assign_Name (store_ok I4 hN hy.1 hy.2.1 (v:=.ref h₂.objs.size) rfl (fun s5 I5=>assignInOrder_nil ?_) hy.2.2))
 exact⟨_,_,I5,q _ I2.fresh⟩
section
variable{X:Cx}{aj:aR}{W:WX}{q:Bool}{e:Expr}{pos:Pos}
def XD(i j:Nat)(f:GF):SF:=fun M ρ=>(f M ρ).then ρ fun d M'=>match d with
 |.list (d0::ds)=>if ds.length<=16000 then .next ((ρ.set i (some (.dat d0))).set j (some (.dat (.list ds)))) M' else .bad
 |.tuple (d0::ds)=>if ds.length<=16000 then .next ((ρ.set i (some (.dat d0))).set j (some (.dat (.list ds)))) M' else .bad
 |_=>.bad
theorem ah9{i j k:Nat}{x y:Str}{px py ps tp:Pos}{f:GF}(hc:X.calm=true)(hN:X.N.Nodup)(hx:Uz X i x)(hy:Uz X j y)(he:GE aj X W q e f)(hs:swapsWithSole [.Tuple [.Name x px,.Starred (.Name y py) ps] k tp] e pos.line X.env=pure false)(hw:swappedStores [.Tuple [.Name x px,.Starred (.Name y py) ps] k tp] e X.env=pure none) :
  SE aj X W q (.Assign [.Tuple [.Name x px,.Starred (.Name y py) ps] k tp] e pos) (XD i j f):=by
 refine PS.weak (ps_asg he (ahX hc hN hx hy) hs hw (by with_unfolding_all rfl)) fun D σ H ⟨g,ρ,M,I,z⟩=>?_
 refine tE.go I (dB (σ:=σ) z) fun d M' v H' g' kk r I' rv=>?_
 have fin:∀{a:Addr} {v0:V} {us:List V} {d0:Dat} {ds:List Dat},v=.ref a->(SqL X.K H' a (v0::us)∨SqT X.K H' a (v0::us))->Rep X.K g' H' v0 d0->aM X.K g' H' us ds->(if ds.length<=16000 then u9.next ((ρ.set i (some (.dat d0))).set j (some (.dat (.list ds)))) M' else .bad).sat (sN X.K aj q D.nx g H) (sR X.K aj q D.rt g H) (sN X.K aj q D.bk g H) (sN X.K aj q D.ct g H) (sX X.K aj W q g H)->af9 X.K i j v σ H' D.nx:=fun {a v0 us d0 ds} ev hq r0 rs kk=>by
  split at kk
  ·next hz=>
   refine⟨a,v0,us,ev,hq,by rw[rs.length];exact hz,fun p np=>?_⟩
   have e1:=Ex.new (o:=.lst us) np
   have I2:=I'.ex e1
   refine kk _ _ g' (r.trans (Gr.ex e1)) ((I2.set (r0.ex e1 I'.kd)).set (.lst (.inl ⟨.inl upd_same,I'.kd.fresh np⟩) (rs.ex e1 I'.kd)))
  ·exact False.elim kk
 split at kk
 ·obtain⟨a,us,ev,s1,t1⟩:=iU rv.weak
  cases t1 with
  |cons r0 rs=>exact fin ev (.inl s1) r0 rs kk
 ·obtain⟨a,us,ev,s1,t1⟩:=lC rv.weak
  cases t1 with
  |cons r0 rs=>exact fin ev (.inr s1) r0 rs kk
 ·exact False.elim kk
def Sv(i j:Nat)(f:GF):SF:=fun M ρ=>(f M ρ).then ρ fun d M'=>.next ((ρ.set i (some (.dat d))).set j (some (.dat d))) M'
theorem ahS{i j:Nat}{x y:Str}{px py:Pos}{f:GF}(hN:X.N.Nodup)(hx:Uz X i x)(hy:Uz X j y)(he:GE aj X W q e f)(hw:swappedStores [.Name x px,.Name y py] e X.env=pure none):SE aj X W q (.Assign [.Name x px,.Name y py] e pos) (Sv i j f):=by
 refine PS.weak (ps_asg2 he (pg_name hN hx.1 hx.2.1 hx.2.2) (pg_name hN hy.1 hy.2.1 hy.2.2) (by with_unfolding_all rfl) hw) fun D σ H ⟨g,ρ,M,I,z⟩=>?_
 exact tE.go I (dB (σ:=σ) z) fun d M' v H' g' kk r I' rv=>kk _ H' g' r ((I'.set rv).set rv)
def sPN(js:List Nat)(as:QA):SF:=fun M ρ=>((as M ρ).at M).then ρ fun ds M'=>match uV js ds ρ with
 |some ρ'=>.next ρ' M'
 |none=>.bad
theorem aiM{j:Nat}{y:Str}{py:Pos}{elt tg iter:Expr}{cpos:Pos}{scope:Scope}{own:List (Str×Nat)}{it:IF}{tgf:fG}{js:List Nat}{tt:QT}{te:QF}{ifs:List Expr}(hc:X.calm=true)(hN:X.N.Nodup)(hy:X.N[j]?=some y)(hyl:X.env.scope.names.lookup y=some .local)
  (hsw:swapsWith (.ListComp elt [⟨tg,iter,ifs,0⟩] scope cpos) (some (.Name y py)) pos.line X.env=pure true) (hi:QI aj X W false tg iter it) (ok:blkC X.N X.env.scope scope own=true) (hj:∀j∈js,j∈own.map (·.2))
  (hg:∀(s:Shared) (H:Hp) (C:Addr) (cl:List (Str×Addr)) (fp:List Addr),QG aj (X.blk s H scope (compEnvC scope cl C X.env) fp) tg js tgf)
  (ht:∀(s:Shared) (H:Hp) (C:Addr) (cl:List (Str×Addr)) (fp:List Addr),PTs (X.blk s H scope (compEnvC scope cl C X.env) fp) ifs (jC X.K aj WF tt))
  (he:∀(s:Shared) (H:Hp) (C:Addr) (cl:List (Str×Addr)) (fp:List Addr),QE aj (X.blk s H scope (compEnvC scope cl C X.env) fp) WF elt te) (hs:∀x,foldedSetIterable iter X.env x=pure x) :
  SE aj X W q (.Assign [.Name y py] (.ListComp elt [⟨tg,iter,ifs,0⟩] scope cpos) pos) (bf (aF j) (gOf (eU it tgf (own.map (·.2)) tt te))):=by
 refine PS.weak (ps_setLc (g:=xK X.K aj js tgf) (tt:=jC X.K aj WF tt) (te:=tQ X.K aj WF te) hc hN hy hyl hsw hi (blkOk_by ok) (fun s H C cl fp=>hg s H C cl fp) ht (fun s H C cl fp=>he s H C cl fp) hs) fun D σ H ⟨g,ρ,M,I,z⟩=>?_
 refine agy hj σ H _ ⟨g,ρ,M,I,(Out.ju (dB (σ:=σ) z)).mono (fun d kk v H' e r=>?_) fun x kk H' c dd e r=>kk H' g c dd (Gr.ex e) (I.ex e) r⟩
 exact kk _ H' g (Gr.ex e) ((I.ex e).set r)
end
inductive GV where
 |con (d:Dat)
 |fq (n:Nat) (m:Mo->List Dat->Out Dat)
 |fg (n:Nat) (m:Mo->List Dat->aZ Dat)
 |dic (kvs:List (Str×Dat))
 |exc
 |exi (fs:List Str)
 |cls (n:Nat) (m:Mo->List Dat->aZ Dat)
inductive MV where
 |q (n:Nat) (m:Mo->List Dat->Out Dat)
 |g (n:Nat) (m:Mo->List Dat->aZ Dat)
def FQ(P:Program)(w:World)(K:aqV)(mg:Str->Option Value)(base:Heap)(aj:aR)(k:Nat)(f:Addr)(n:Nat)(m:Mo->List Dat->Out Dat):Prop:=
 ∃(fd:FuncData) (ps:List Str) (j:Nat),j<=k/\ps.length=n/\Binds K fd ps []/\FnOk P w K mg base (L2.CX P w) j f fd ps (Wr K aj ps.length m)
def FG(P:Program)(w:World)(K:aqV)(mg:Str->Option Value)(base:Heap)(aj:aR)(k:Nat)(f:Addr)(n:Nat)(m:Mo->List Dat->aZ Dat):Prop:=
 ∃(fd:FuncData) (ps:List Str) (j:Nat),j<=k/\ps.length=n/\Binds K fd ps []/\FnOk P w K mg base (L2.CX P w) j f fd ps (JN K aj ps.length m)
def jK(K:aqV)(aj:aR):Prop:=∀c C f,aj c=some C->f∈aj.fl c->Cls K C/\NoAttr K C f
def bZ(P:Program)(w:World)(K:aqV)(mg:Str->Option Value)(base:Heap)(aj:aR)(k:Nat)(c m:Str)(v:MV):Prop:=
 ∃C f,aj c=some C/\Cls K C/\Meth K C m f/\m∉aj.fl c/\match v with
  |.q n mm=>FQ P w K mg base aj k f n mm
  |.g n mm=>FG P w K mg base aj k f n mm
def af4(C:Addr)(fs:List Str):Sp:=fun vs H Q _=>∃(a:Addr) (xs:List V),vs=.ref a::xs/\xs.length=fs.length/\H a=some (exo a C none)/\
 ∀(dx:Addr) (H':Hp),H dx=none->(∀b o,b≠a->H b=some o->H' b=some o)->(∀b,H' b=none->H b=none)->H' a=some (exo a C (some dx))->H' dx=some (exd dx (fs.zip xs).reverse)->Q .non H'
def abG(w:World)(K:aqV)(a:Addr)(kvs:List (Str×Dat)):Prop:=∃(es:Array DictEntry) (n:Nat),KDict K w a es n/\(kvs.map (·.1)).Nodup/\
 ∀x:Str,match kvs.lookup x with
  |some d=>∃v u,PySem.W.nsIn K a x=some (some u)/\RelV v u/\∀g H,Rep K g H v d
  |none=>PySem.W.nsIn K a x=some none
def bh(P:Program)(w:World)(K:aqV)(mg:Str->Option Value)(base:Heap)(aj:aR)(k:Nat)(x:Str):GV->Prop
 |.con d=>∃v u,mg x=some u/\RelV v u/\∀g H,Rep K g H v d
 |.fq n m=>∃f,mg x=some (.ref f)/\PySem.W.keepIn K (.ref f)=true/\FQ P w K mg base aj k f n m
 |.fg n m=>∃f,mg x=some (.ref f)/\PySem.W.keepIn K (.ref f)=true/\FG P w K mg base aj k f n m
 |.dic kvs=>∃a,mg x=some (.ref a)/\abG w K a kvs
 |.exc=>∃C,mg x=some (.ref C)/\aj x=some C/\PySem.W.excIn K C He.veBase "ValueError.__new__"=true/\PySem.W.keepIn K (.ref C)=true/\PySem.W.subIn K (.ref C) (.type "BaseException")=some true/\PySem.W.typeIn K (.ref C)=some (.type "type")
 |.exi fs=>∃(C fI:Addr) (fd:FuncData) (ps:List Str),mg x=some (.ref C)/\aj x=some C/\OexC K C/\PySem.W.findIn K (.ref C) "__init__"=some (some (.ref fI))/\PySem.W.typeIn K (.ref fI)=some (.type "function")/\2<=k/\ps.length=fs.length+1/\Binds K fd ps []/\FnOk P w K mg base CX0 1 fI fd ps (af4 C fs)
 |.cls n m=>∃(C f:Addr) (fd:FuncData) (ps:List Str) (j:Nat),mg x=some (.ref C)/\aj x=some C/\Cls K C/\Mk K C f/\j+1<=k/\ps.length=n+1/\Binds K fd ps []/\FnOk P w K mg base (L2.CX P w) j f fd ps (JN K aj ps.length m)
def acy(K:aqV)(aj:aR)(y:Str)(tk:Str->Option Bool):Prop:=∀x b C,tk x=some b->aj x=some C->∀D,aj y=some D->PySem.W.exmOne K (.ref C) (.ref D)=some b
def putL(f:Str)(x:jr):List (Str×jr)->List (Str×jr)
 |[]=>[(f,x)]
 |(g,y)::r=>if g=f then(g,x)::r else(g,y)::putL f x r
def Inst.put(i:Inst)(f:Str)(x:jr):Inst:=⟨i.cls,putL f x i.fs⟩
theorem Jh(f:Str)(x:jr):∀gs:List (Str×jr),(putL f x gs).map (·.1)=if f∈gs.map (·.1) then gs.map (·.1) else gs.map (·.1)++[f]
 |[]=>by simp[putL]
 |(g,y)::r=>by
  have ih:=Jh f x r
  rw[putL]
  by_cases e:g=f
  ·subst e
   simp
  ·rw[if_neg e,aqZ,ih]
   by_cases h:f∈r.map (·.1)
   ·rw[if_pos h,if_pos (by simp[h])]
    rfl
   ·rw[if_neg h,if_neg (by
     rw[aqZ,ara]
     rintro(z|z)
     ·exact e z.symm
     ·exact h z)]
    rfl
theorem abT{f:Str}{x:jr}{gs:List (Str×jr)}(h:(gs.map (·.1)).Nodup):((putL f x gs).map (·.1)).Nodup:=by
 rw[Jh]
 split
 ·exact h
 ·next n=>
  rw[arR]
  refine⟨h,by simp,fun a ha b hb e=>?_⟩
  subst e
  rw[aq2]at hb
  subst hb
  exact n ha
theorem Mf{f:Str}{v:V}:∀{fs:List (Str×V)},fs.lookup f=some v->putF f v fs=fs
 |[],h=>nomatch h
 |(g,y)::r,h=>by
  rw[aru]at h
  rw[show putF f v ((g,y)::r)=(if g=f then(g,v)::r else(g,y)::putF f v r) from rfl]
  by_cases e:g=f
  ·subst e
   simp at h
   rw[if_pos rfl,h]
  ·have ne:(f==g)=false:=by simpa using fun z=>e z.symm
   rw[ne]at h
   rw[if_neg e,Mf h]
section
variable{K:aqV}{aj:aR}{W:WX}{g g':Gh}{H H':Hp}{σ:L2.St}{ρ:Env}{M:Mo}{h:Nat}{f:Str}{v:V}{fl:jr}
theorem cM.put(hk:∀f' v' fl',f'≠f->dZ K aj g H h f' v' fl'->dZ K aj g' H' h f' v' fl')(new:dZ K aj g' H' h f v fl):∀{fs:List (Str×V)} {gs:List (Str×jr)},cM K aj g H h fs gs->(gs.map (·.1)).Nodup->cM K aj g' H' h (putF f v fs) (putL f fl gs)
 |_,_,.nil,_=>.cons new .nil
 |_,_,.cons (f:=f') (v:=v') (fl:=fl') (fs:=fs) (gs:=gs) z t,nd=>by
  rw[show putF f v ((f',v')::fs)=(if f'=f then(f',v)::fs else(f',v')::putF f v fs) from rfl,putL]
  rw[aqZ,asi]at nd
  by_cases e:f'=f
  ·subst e
   rw[if_pos rfl,if_pos rfl]
   refine .cons new ?_
   have go:∀{fs:List (Str×V)} {gs:List (Str×jr)},cM K aj g H h fs gs->f'∉gs.map (·.1)->cM K aj g' H' h fs gs:=fun {fs gs} t=>by
    induction t with
    |nil=>exact fun _=>.nil
    |cons z _ ih=>
     intro n
     rw[aqZ,ara,not_or]at n
     exact .cons (hk _ _ _ (fun q=>n.1 q.symm) z) (ih n.2)
   exact go t nd.1
  ·rw[if_neg e,if_neg e]
   exact .cons (hk _ _ _ e z) (cM.put hk new t nd.2)
structure Chg(M:Mo)(g g':Gh)(H H':Hp)(h:Nat)(f:Str):Prop where
 gc:Gc g g' H H'
 kd:Kd g' H'
 tbl:g'.tbl=g.tbl
 ow:∀a p,g.ow a=some p->g'.ow a=some p
 oth:∀a p,g.ow a=some p->p≠(h,f)->H' a=H a
 ins:∀(k:Nat) (a:Addr) (i:Inst),g.tbl[k]?=some a->M[k]?=some i->i.cls≠""->k≠h->H' a=H a
 nt:∀(k:Nat) (a:Addr) (i:Inst),g.tbl[k]?=some a->M[k]?=some i->i.cls≠""->∀p,g'.ow a≠some p
theorem jH.chg{l:Addr}(r:Gr false g g' H H')(k:Kd g H)(e:H' l=H l):∀{n:Bool} {kvs:List (Dat×Dat)},jH K aj g H l n kvs->jH K aj g' H' l n kvs
 |false,_,⟨kv,h1,h2,h3⟩=>⟨kv,e.trans h1,h2,h3.gr r k⟩
 |true,_,⟨o,xs,vs,h1,h2,h3,h4,h5,h6⟩=>⟨o,xs,vs,e.trans h1,h2,h3,h4.gr r k,h5,h6.gr r k⟩
theorem dZ.chg(c:Chg M g g' H H' h f)(k:Kd g H){h':Nat}{f':Str}{v':V}(ne:(h',f')≠(h,f)):∀{fl':jr},dZ K aj g H h' f' v' fl'->dZ K aj g' H' h' f' v' fl'
 |.dat _,z=>Rep.gr c.gc.gr k z
 |.lst _ _,⟨l,us,h1,h2,h3,h4,h5⟩=>⟨l,us,h1,(c.oth l _ h3 ne).trans h2,c.ow l _ h3,h4.gr c.gc.gr k,c.gc.gr.tb h5⟩
 |.dic _ _,⟨l,h1,h2,h3⟩=>⟨l,h1,c.ow l _ h2,h3.chg c.gc.gr k (c.oth l _ h2 ne)⟩
theorem gj.chg(w:gj K aj g H M)(k:Kd g H)(c:Chg M g g' H H' h f){a:Addr}{i:Inst}(ha:g.tbl[h]?=some a)(hi:M[h]?=some i)(hne:i.cls≠"")(hf:f∈aj.fl i.cls){C dx:Addr}{fs:List (Str×V)}(hC:aj i.cls=some C)(R:cM K aj g H h fs i.fs)
  (e':H' a=some (.ins C dx (putF f v fs))) (new:dZ K aj g' H' h f v fl):gj K aj g' H' (M.set h (i.put f fl)) where
 len:=by rw[c.tbl,arq];exact w.len
 inj:=by rw[c.tbl];exact w.inj
 ins:=fun h' a' i' ha' hi' hc'=>by
  rw[c.tbl]at ha'
  by_cases z:h'=h
  ·subst z
   rw[ha]at ha'
   cases ha'
   rw[arf (aqX.mp hi).1]at hi'
   cases hi'
   exact⟨C,dx,_,hC,e',R.put (fun f' v' fl' ne z=>z.chg c k fun q=>ne (congrArg Prod.snd q)) new (w.nd _ i hi)⟩
  ·rw[aq4 (Ne.symm z)]at hi'
   obtain⟨C',dx',fs',c1,c2,c3⟩:=w.ins h' a' i' ha' hi' hc'
   refine⟨C',dx',fs',c1,(c.ins h' a' i' ha' hi' hc' z).trans c2,?_⟩
   have go:∀{fs:List (Str×V)} {gs:List (Str×jr)},cM K aj g H h' fs gs->cM K aj g' H' h' fs gs:=fun {fs gs} t=>by
    induction t with
    |nil=>exact .nil
    |cons y _ ih=>exact .cons (y.chg c k fun q=>z (congrArg Prod.fst q)) ih
   exact go c3
 nd:=fun h' i' hi'=>by
  by_cases z:h'=h
  ·subst z
   rw[arf (aqX.mp hi).1]at hi'
   cases hi'
   exact abT (w.nd _ i hi)
  ·rw[aq4 (Ne.symm z)]at hi'
   exact w.nd h' i' hi'
 fd:=fun h' i' hi' f' hf'=>by
  by_cases z:h'=h
  ·subst z
   rw[arf (aqX.mp hi).1]at hi'
   cases hi'
   have hf':f'∈(putL f fl i.fs).map (·.1):=hf'
   rw[Jh]at hf'
   split at hf'
   ·exact w.fd _ i hi f' hf'
   ·rcases aq5.mp hf' with y|y
    ·exact w.fd _ i hi f' y
    ·rw[aq2]at y
     rw[y]
     exact hf
  ·rw[aq4 (Ne.symm z)]at hi'
   exact w.fd h' i' hi' f' hf'
 tw:=fun k' a' i' ha' hi' hc'=>by
  rw[c.tbl]at ha'
  have:∃i0,M[k']?=some i0/\i0.cls≠"":=by
   by_cases z:k'=h
   ·subst z
    exact⟨i,hi,hne⟩
   ·rw[aq4 (Ne.symm z)]at hi'
    exact⟨i',hi',hc'⟩
  obtain⟨i0,m1,m2⟩:=this
  cases hz:g'.ow a' with
  |none=>rfl
  |some p=>exact absurd hz (c.nt k' a' i0 ha' m1 m2 p)
 dm:=fun h' i' hi' hc'=>by
  by_cases z:h'=h
  ·subst z
   rw[arf (aqX.mp hi).1]at hi'
   cases hi'
   exact absurd hc' hne
  ·rw[aq4 (Ne.symm z)]at hi'
   exact w.dm h' i' hi' hc'
 nc:=w.nc
theorem ali{a:Addr}(ha:g.tbl[h]?=some a):g.W a:=.inl (aq3 ha)
theorem U3(k:Kd g H)(w:gj K aj g H M){a:Addr}{i:Inst}(ha:g.tbl[h]?=some a)(hi:M[h]?=some i)(hc:i.cls≠""){C dx:Addr}{fs':List (Str×V)}:Chg M g g H (upd H a (.ins C dx fs')) h f where
 gc:=⟨fun b o hb n=>by rw[upd_ne (fun z=>by subst z;exact n (ali ha))];exact hb,fun b hb=>by
  by_cases z:b=a
  ·subst z
   rw[upd_same]at hb
   cases hb
  ·rw[upd_ne z]at hb
   exact hb,⟨[],by simp⟩,fun _ z=>z,fun _ z=>.inl z,rfl,rfl⟩
 kd:=k.upd trivial
 tbl:=rfl
 ow:=fun _ _ z=>z
 oth:=fun b p hb _=>upd_ne fun z=>by
  subst z
  rw[w.tw h _ i ha hi hc]at hb
  cases hb
 ins:=fun j b i' hb _ _ ne=>upd_ne fun z=>by
  subst z
  exact ne (w.inj _ _ _ hb ha)
 nt:=fun j b i' hb hj hcj p z=>by
  rw[w.tw j b i' hb hj hcj]at z
  cases z
def Gh.own(g:Gh)(l:Addr)(h:Nat)(f:Str):Gh:={ g with ow:=fun b=>if b=l then some (h,f) else g.ow b }
theorem alX{l a:Addr}(hl:l∈g.tbl):(g.own l h f).W a↔g.W a:=by
 constructor
 ·rintro(z|z)
  ·exact .inl z
  ·by_cases y:a=l
   ·subst y
    exact .inl hl
   ·have z:(if a=l then some (h,f) else g.ow a)≠none:=z
    rw[if_neg y]at z
    exact .inr z
 ·rintro(z|z)
  ·exact .inl z
  ·refine .inr ?_
   show(if a=l then some (h,f) else g.ow a)≠none
   split
   ·exact fun q=>nomatch q
   ·exact z
theorem U5(k:Kd g H)(w:gj K aj g H M){a l:Addr}{n:Nat}{i:Inst}(ha:g.tbl[h]?=some a)(hi:M[h]?=some i)(hc:i.cls≠"")(hl:g.tbl[n]?=some l)(hn:M[n]?=some ⟨"",[]⟩)(nl:g.ow l=none){C dx:Addr}{fs':List (Str×V)}:Chg M g (g.own l h f) H (upd H a (.ins C dx fs')) h f:=by
 have W':∀{b:Addr},(g.own l h f).W b↔g.W b:=fun {b}=>alX (aq3 hl)
 have d:=U3 (f:=f) (C:=C) (dx:=dx) (fs':=fs') k w ha hi hc
 refine⟨⟨d.gc.keep,d.gc.dom,⟨[],by simp[Gh.own]⟩,fun b z=>W'.mpr z,fun b z=>.inl (W'.mp z),rfl,rfl⟩,⟨fun b z=>d.kd.ob b ?_,fun b z y=>d.kd.lo b z (W'.mp y),fun b z=>⟨fun y=>(d.kd.lc b z).1 (W'.mp y),(d.kd.lc b z).2⟩⟩,rfl,fun b p z=>?_,d.oth,d.ins,fun j b i' hb hj hcj p z=>?_⟩
 ·rcases z with z|z|z
  ·exact .inl (W'.mp z)
  ·exact .inr (.inl z)
  ·exact .inr (.inr z)
 ·show(if b=l then some (h,f) else g.ow b)=some p
  rw[if_neg (fun y=>by subst y;rw[nl]at z;cases z)]
  exact z
 ·have z:(if b=l then some (h,f) else g.ow b)=some p:=z
  by_cases y:b=l
  ·subst y
   cases w.inj _ _ _ hb hl
   rw[hn]at hj
   cases hj
   exact hcj rfl
  ·rw[if_neg y,w.tw j b i' hb hj hcj]at z
   cases z
theorem ac4(k:Kd g H)(w:gj K aj g H M){l:Addr}{o':HO}(ho:g.ow l=some (h,f))(mo:Iz o'):Chg M g g H (upd H l o') h f where
 gc:=⟨fun b u hb n=>by rw[upd_ne (fun z=>by subst z;exact n (.inr (by rw[ho];exact fun y=>nomatch y)))];exact hb,fun b hb=>by
  by_cases z:b=l
  ·subst z
   rw[upd_same]at hb
   cases hb
  ·rw[upd_ne z]at hb
   exact hb,⟨[],by simp⟩,fun _ z=>z,fun _ z=>.inl z,rfl,rfl⟩
 kd:=k.upd mo
 tbl:=rfl
 ow:=fun _ _ z=>z
 oth:=fun b p hb ne=>upd_ne fun z=>by
  subst z
  rw[ho]at hb
  exact ne (ari hb).symm
 ins:=fun j b i' hb hj hcj ne=>upd_ne fun z=>by
  subst z
  rw[w.tw j _ i' hb hj hcj]at ho
  cases ho
 nt:=fun j b i' hb hj hcj p z=>by
  rw[w.tw j b i' hb hj hcj]at z
  cases z
theorem cM.len{fs:List (Str×V)}{gs:List (Str×jr)}(t:cM K aj g H h fs gs):fs.length=gs.length:=by
 induction t with
 |nil=>rfl
 |cons _ _ ih=>simp[ih]
end
def Ku(M:Mo)(f:Str):Dat->Option jr
 |.dict [(.none,.int (.ofNat h))]=>(M[h]?).bind fun i=>i.fs.lookup f
 |_=>none
def gW(f:Str)(o:QF):QF:=fun M ρ=>(o M ρ).bind fun d=>match Ku M f d with
 |some (.dat x)=>.ok x
 |_=>.bad
def bJ(f:Str)(o:QF):QF:=fun M ρ=>(o M ρ).bind fun d=>match Ku M f d with
 |some (.dat x)=>.ok x
 |some (.lst _ xs)=>.ok (.list xs)
 |_=>.bad
theorem aev{M:Mo}{f:Str}{d:Dat}{fl:jr}(h:Ku M f d=some fl):∃n i,d=obj n/\M[n]?=some i/\i.fs.lookup f=some fl:=by
 unfold Ku at h
 split at h
 ·next n=>
  obtain⟨i,h1,h2⟩:=aqU.mp h
  exact⟨n,i,rfl,h1,h2⟩
 ·cases h
theorem lookup_mem{f:Str}{fl:jr}:∀{gs:List (Str×jr)},gs.lookup f=some fl->f∈gs.map (·.1)
 |[],h=>nomatch h
 |(g,y)::r,h=>by
  rw[aru]at h
  cases hb:f==g with
  |true=>rw[eq_of_beq hb];simp
  |false=>
   rw[hb]at h
   exact aq0 _ (lookup_mem h)
section
variable{K:aqV}{aj:aR}{g:Gh}{H:Hp}{M:Mo}
theorem YC(co:jK K aj)(w:gj K aj g H M){f:Str}{d:Dat}{fl:jr}{v:V}(h:Ku M f d=some fl)(r:eG K g H v d):∃n i a C dx fs u,d=obj n/\M[n]?=some i/\i.fs.lookup f=some fl/\g.tbl[n]?=some a/\v=.ref a/\aj i.cls=some C/\H a=some (.ins C dx fs)/\cM K aj g H n fs i.fs/\Cls K C/\NoAttr K C f/\fs.lookup f=some u/\dZ K aj g H n f u fl:=by
 obtain⟨n,i,rfl,h1,h2⟩:=aev h
 obtain⟨a,rfl,ha⟩:=Km r
 have hc:i.cls≠"":=fun z=>by
  rw[w.dm n i h1 z]at h2
  cases h2
 obtain⟨C,dx,fs,c1,c2,c3⟩:=w.ins n a i ha h1 hc
 obtain⟨u,l1,l2⟩:=c3.get h2
 obtain⟨k1,k2⟩:=co i.cls C f c1 (w.fd n i h1 f (lookup_mem h2))
 exact⟨n,i,a,C,dx,fs,u,rfl,h1,h2,ha,rfl,c1,c2,c3,k1,k2,l1,l2⟩
end
section
variable{X:Cx}{aj:aR}{W:WX}{o e:Expr}{es:List Expr}{fo:QF}{f m:Str}{pos apos:Pos}
theorem akV(co:jK X.K aj)(ho:QW aj X W o fo)(hb:baseOk o=true):QE aj X W (.Attribute o f pos) (gW f fo):=
 PE.weak (pe_fld ho (mW hb)) fun σ H Q ⟨g,ρ,M,I,h⟩=>by
  refine tW.go I h.bnd fun d v H1 h1 e1 r1=>?_
  split at h1
  ·next x hx=>
   obtain⟨n,i,a,C,dx,fs,u,_,_,_,_,rfl,_,c2,_,k1,k2,l1,l2⟩:=YC co (I.ex e1).wok hx r1
   exact⟨a,C,dx,fs,u,rfl,c2,k1,k2,l1,h1 u H1 e1 l2⟩
  ·exact False.elim h1
theorem akb(co:jK X.K aj)(ho:QW aj X W o fo)(hb:baseOk o=true):QW aj X W (.Attribute o f pos) (bJ f fo):=
 PE.weak (pe_fld ho (mW hb)) fun σ H Q ⟨g,ρ,M,I,h⟩=>by
  refine tW.go I h.bnd fun d v H1 h1 e1 r1=>?_
  split at h1
  ·next x hx=>
   obtain⟨n,i,a,C,dx,fs,u,_,_,_,_,rfl,_,c2,_,k1,k2,l1,l2⟩:=YC co (I.ex e1).wok hx r1
   exact⟨a,C,dx,fs,u,rfl,c2,k1,k2,l1,h1 u H1 e1 (Rep.weak l2)⟩
  ·next xs hx=>
   obtain⟨n,i,a,C,dx,fs,u,_,_,_,_,rfl,_,c2,_,k1,k2,l1,l,us,rfl,s1,s2,s3,_⟩:=YC co (I.ex e1).wok hx r1
   exact⟨a,C,dx,fs,_,rfl,c2,k1,k2,l1,h1 _ H1 e1 ⟨l,us,rfl,sq_of s1,s3⟩⟩
  ·exact False.elim h1
def Sq(X:Cx)(W:WX)(m:Str)(ta:TE)(t:TA):TE:=fun σ H Q=>ta σ H fun x H1=>∃(a C dx:Addr) (fs:List (Str×V)) (f:Addr) (fd:FuncData) (ps:List Str) (sp:Sp) (k:Nat),x=.ref a/\H1 a=some (.ins C dx fs)/\fs.lookup m=none/\Cls X.K C/\Meth X.K C m f/\Room k X.A/\Binds X.K fd ps []/\
 FnOk X.prog X.w X.K X.mg X.base (L2.CX X.prog X.w) k f fd ps sp/\t σ H1 fun vs H2=>sp (x::vs) H2 Q (WE W σ)
theorem Wv{M:Model}{A:Around}{E:Value->Shared->Prop}{s:Shared}{env:PySem.Env}{args:List Expr}{Q:Value->Shared->Prop}(hbase:baseOk o=true)(hs:args.all nst=true)(hz:args.length < 30)(hl:(apos.endLine==pos.line)=true)
  (h:wpAny M A (eval o env) (fun ov s₁=>∀pl:Sem Bool,wpAny M A (getMethod ov m pl) (fun fx s₂=>wpAny M A (callWith pos fx.1 fx.2 (backTo pos (starEach args env)) (backToKw pos (keywordEach [] env))) Q E s₂) E s₁) E s) :
  wpAny M A (eval (.Call (.Attribute o m apos) args [] pos) env) Q E s:=by
 have hform:methodCallForm (args.length+([]:List Keyword).length) (backTo pos (starEach args env)) (backToKw pos (keywordEach [] env))=true:=few hs hz
 have hpos:methodCallPos true o env apos pos=pure pos:=by unfold methodCallPos;simp[hl]
 rw[arm_eval_Call,mW hbase]
 refine wpAny_bind (wpAny_mono h (fun ov s₁ h₁=>?_) fun _ _ e=>e)
 refine wpAny_bind (wpAny_standAt ?_)
 unfold methodCall
 rw[hform]
 refine wpAny_bind (wpAny_holding ?_)
 refine wpAny_mono (h₁ _) (fun fx s₂ h₂=>?_) fun _ _ e=>e
 exact wpAny_bind (wpAny_of_eq hpos h₂)
theorem Zt{ta:TE}{t:TA}(tk:Takes X W)(ho:PE X o ta)(ha:PA X (e::es) t)(hb:baseOk o=true)(hs:(e::es).all nst=true)(hl:(apos.endLine==pos.line)=true)(hz:(e::es).length < 30):PE X (.Call (.Attribute o m apos) (e::es) [] pos) (Sq X W m ta t):=by
 have hs':=hs
 rw[arJ,aqW]at hs'
 refine⟨fun pins s σ H Q I h=>?_⟩
 refine Wv hb hs hz hl (thn (ho.run pins s σ H _ I h) fun u s1 ⟨x,G,J,rx,a,C,dx,fs,f,fd,ps,sp,k,ex,ea,l,c,hm,hr,hB,F,q⟩ pl=>?_)
 subst ex
 cases rx
 refine getmeth_ok J ea c hm l ?_
 refine PySem.W.callWith_K (first:=[.ref a]) (h₀:=X.base) I.ok.mod.kin hm.kp (thn (ha.run pos pins s1 σ G _ J q) fun us s2 ⟨vs,G2,J2,r,q2⟩=>⟨J2.kIn,?_⟩) (cD hs'.1 es) (star_any es hs'.2)
 exact run_fnS (us:=.ref a::us) (vs:=.ref a::vs) F hr hB (passAt tk σ) J2 (.cons rfl r) q2
theorem V1{ta:TE}(tk:Takes X W)(ho:PE X o ta)(hb:baseOk o=true)(hl:(apos.endLine==pos.line)=true):PE X (.Call (.Attribute o m apos) [] [] pos) (Sq X W m ta tNil):=by
 refine⟨fun pins s σ H Q I h=>?_⟩
 refine Wv hb rfl (by decide) hl (thn (ho.run pins s σ H _ I h) fun u s1 ⟨x,G,J,rx,a,C,dx,fs,f,fd,ps,sp,k,ex,ea,l,c,hm,hr,hB,F,q⟩ pl=>?_)
 subst ex
 cases rx
 refine getmeth_ok J ea c hm l ?_
 exact PySem.W.callWith_K0 (first:=[.ref a]) J.kIn hm.kp (run_fnS (us:=[.ref a]) (vs:=[.ref a]) F hr hB (passAt tk σ) J (.cons rfl .nil) q)
def Em(tb:List (Str×MV))(M:Mo):Dat->Option MV
 |.dict [(.none,.int (.ofNat h))]=>(M[h]?).bind fun i=>tb.lookup i.cls
 |_=>none
def aP(tb:List (Str×MV))(o:QF)(as:QA):QF:=fun M ρ=>(o M ρ).bind fun d=>match Em tb M d with
 |some (.q _ m)=>(as M ρ).bind fun ds=>m M (d::ds)
 |_=>.bad
def cR(tb:List (Str×MV))(o:QF)(as:QA):GF:=fun M ρ=>((o M ρ).at M).bind fun d _=>match Em tb M d with
 |some (.q _ m)=>((as M ρ).at M).bind fun ds _=>(m M (d::ds)).at M
 |some (.g _ m)=>((as M ρ).at M).bind fun ds _=>m M (d::ds)
 |none=>.bad
def HX(X:Cx)(aj:aR)(k:Nat)(m:Str)(n:Nat)(tb:List (Str×MV)):Prop:=∀c v,tb.lookup c=some v->bZ X.prog X.w X.K X.mg X.base aj k c m v/\match v with
  |.q j _=>j=n
  |.g j _=>j=n
theorem HX.cls{k n:Nat}{tb:List (Str×MV)}(T:HX X aj k m n tb):∀c v,tb.lookup c=some v->aj c≠none:=fun c v h z=>by
 obtain⟨⟨C,f,c1,_⟩,_⟩:=T c v h
 rw[z]at c1
 cases c1
theorem U6{K:aqV}{g:Gh}{H:Hp}{M:Mo}{tb:List (Str×MV)}{d:Dat}{v:V}{mv:MV}(ht:∀c v,tb.lookup c=some v->aj c≠none)(w:gj K aj g H M)(h:Em tb M d=some mv)(r:eG K g H v d):∃n i a C dx fs,d=obj n/\M[n]?=some i/\tb.lookup i.cls=some mv/\g.tbl[n]?=some a/\v=.ref a/\aj i.cls=some C/\H a=some (.ins C dx fs)/\cM K aj g H n fs i.fs:=by
 unfold Em at h
 split at h
 ·next n=>
  obtain⟨i,h1,h2⟩:=aqU.mp h
  obtain⟨a,rfl,ha⟩:=Km r
  obtain⟨C,dx,fs,c1,c2,c3⟩:=w.ins n a i ha h1 fun z=>ht _ _ h2 (by rw[z];exact w.nc)
  exact⟨n,i,a,C,dx,fs,rfl,h1,h2,ha,rfl,c1,c2,c3⟩
 ·cases h
theorem ZJ{K:aqV}{g:Gh}{H:Hp}{M:Mo}{n:Nat}{i:Inst}{fs:List (Str×V)}(w:gj K aj g H M)(hi:M[n]?=some i)(R:cM K aj g H n fs i.fs)(h:m∉aj.fl i.cls):fs.lookup m=none:=by
 refine R.no ?_
 cases hl:i.fs.lookup m with
 |none=>rfl
 |some x=>exact absurd (w.fd n i hi m (lookup_mem hl)) h
theorem acT{tb:List (Str×MV)}{as:QA}{n k:Nat}{t:TA}(hr:Room k X.A)(T:HX X aj k m n tb)(hn:∀M ρ ds,as M ρ=.ok ds->ds.length+1=n)(ht:∀σ H Q,Oh X.K aj W as σ H Q->t σ H Q)(σ:L2.St)(H:Hp)(Q:VK)(h:tQ X.K aj W (aP tb fo as) σ H Q):Sq X W m (tW X.K aj W fo) t σ H Q:=by
 obtain⟨g,ρ,M,I,h⟩:=h
 refine tW.go I h.bnd fun d v H1 h1 e1 r1=>?_
 have I1:=I.ex e1
 split at h1
 ·next j mm hmv=>
  obtain⟨hd,i,a,C,dx,fs,rfl,hi,hl,ha,rfl,c1,c2,c3⟩:=U6 T.cls I1.wok hmv r1
  obtain⟨⟨C',f,cc,cl,me,nf,fd,ps,j',hj,hp,hB,F⟩,en⟩:=T _ _ hl
  have en:j=n:=en
  rw[c1]at cc
  cases cc
  refine⟨a,C,dx,fs,f,fd,ps,_,j',rfl,c2,ZJ I1.wok hi c3 nf,cl,me,hr.mono hj,hB,F,ht σ H1 _ ⟨g,ρ,M,I1,?_⟩⟩
  have h2:=h1.bnd
  cases has:as M ρ with
  |exc x=>rw[has]at h2;exact qD.ex e1 h2
  |bad=>rw[has]at h2;exact False.elim h2
  |ok ds=>
   rw[has]at h2
   intro vs H2 e2 r2
   refine⟨by rw[hp,en,←hn M ρ ds has,arb,r2.length],g,M,obj hd::ds,(I1.ex e2).kd,(I1.ex e2).wok,.cons (.obj ha) r2,?_⟩
   exact Out.sat.mono h2 (fun d k v H' e' r'=>k v H' ((e1.trans e2).trans e') r') fun x k H' c dd e' r'=>k H' c dd ((e1.trans e2).trans e') r'
 ·exact False.elim h1
theorem aht{tb:List (Str×MV)}{as:QA}{k:Nat}(tk:Takes X W)(hr:Room k X.A)(T:HX X aj k m ((e::es).length+1) tb)(ho:QW aj X W o fo)(ha:Hw aj X W (e::es) as)(hn:∀M ρ ds,as M ρ=.ok ds->ds.length=(e::es).length)(hb:baseOk o=true)(hs:(e::es).all nst=true)(hl:(apos.endLine==pos.line)=true)(hz:(e::es).length < 30) :
  QE aj X W (.Call (.Attribute o m apos) (e::es) [] pos) (aP tb fo as):=
 PE.weak (Zt tk ho ha hb hs hl hz) fun σ H Q h=>acT hr T (fun M ρ ds z=>by rw[hn M ρ ds z]) (fun _ _ _ z=>z) σ H Q h
theorem afh{tb:List (Str×MV)}{k:Nat}(tk:Takes X W)(hr:Room k X.A)(T:HX X aj k m 1 tb)(ho:QW aj X W o fo)(hb:baseOk o=true)(hl:(apos.endLine==pos.line)=true) :
  QE aj X W (.Call (.Attribute o m apos) [] [] pos) (aP tb fo au):=
 PE.weak (V1 tk ho hb hl) fun σ H Q h=>acT hr T (fun M ρ ds z=>by cases z;rfl) (fun σ H Q ⟨g,ρ,M,I,z⟩=>z [] H (Ex.refl H) .nil) σ H Q h
theorem acQ{tb:List (Str×MV)}{as:QA}{n k:Nat}{t:TA}(hr:Room k X.A)(T:HX X aj k m n tb)(hn:∀M ρ ds,as M ρ=.ok ds->ds.length+1=n)(ht:∀σ H Q,Oh X.K aj W as σ H Q->t σ H Q)(σ:L2.St)(H:Hp)(Q:VK)(h:tE X.K aj W false (cR tb fo as) σ H Q):Sq X W m (tW X.K aj W fo) t σ H Q:=by
 obtain⟨g,ρ,M,I,h⟩:=h
 have quiet:∀{x:eE},gE X.K aj W false g H σ ρ x M->qD X.K aj W g H σ x:=fun {x} z H' c dd e r=>z H' g c dd (Gr.ex e) (I.ex e) r
 have h:=h.bnd
 refine⟨g,ρ,M,I,?_⟩
 cases ho:fo M ρ with
 |exc x=>rw[ho]at h;exact quiet h
 |bad=>rw[ho]at h;exact False.elim h
 |ok d=>
  rw[ho]at h
  intro v H1 e1 r1
  have I1:=I.ex e1
  have h:(match Em tb M d with
   |some (.q _ m)=>((as M ρ).at M).bind fun ds _=>(m M (d::ds)).at M
   |some (.g _ m)=>((as M ρ).at M).bind fun ds _=>m M (d::ds)
   |none=>.bad).sat (fun d M'=>∀v H' g',Gr false g g' H H'->SInv X.K aj σ H' g' ρ M'->Rep X.K g' H' v d->Q v H') (gE X.K aj W false g H σ ρ):=h
  split at h
  ·next j mm hmv=>
   obtain⟨hd,i,a,C,dx,fs,rfl,hi,hl,ha,rfl,c1,c2,c3⟩:=U6 T.cls I1.wok hmv r1
   obtain⟨⟨C',f,cc,cl,me,nf,fd,ps,j',hj,hp,hB,F⟩,en⟩:=T _ _ hl
   have en:j=n:=en
   rw[c1]at cc
   cases cc
   refine⟨a,C,dx,fs,f,fd,ps,_,j',rfl,c2,ZJ I1.wok hi c3 nf,cl,me,hr.mono hj,hB,F,ht σ H1 _ ⟨g,ρ,M,I1,?_⟩⟩
   have h2:=h.bnd
   cases has:as M ρ with
   |exc x=>rw[has]at h2;exact qD.ex e1 (quiet h2)
   |bad=>rw[has]at h2;exact False.elim h2
   |ok ds=>
    rw[has]at h2
    intro vs H2 e2 r2
    have e12:=e1.trans e2
    refine⟨by rw[hp,en,←hn M ρ ds has,arb,r2.length],g,M,obj hd::ds,(I1.ex e2).kd,(I1.ex e2).wok,.cons (.obj ha) r2,?_⟩
    exact Out.sat.mono (Out.ju h2) (fun d k v H' e' r'=>k v H' g (Gr.ex (e12.trans e')) (I.ex (e12.trans e')) r') fun x k H' c dd e' r'=>k H' g c dd (Gr.ex (e12.trans e')) (I.ex (e12.trans e')) r'
  ·next j mm hmv=>
   obtain⟨hd,i,a,C,dx,fs,rfl,hi,hl,ha,rfl,c1,c2,c3⟩:=U6 T.cls I1.wok hmv r1
   obtain⟨⟨C',f,cc,cl,me,nf,fd,ps,j',hj,hp,hB,F⟩,en⟩:=T _ _ hl
   have en:j=n:=en
   rw[c1]at cc
   cases cc
   refine⟨a,C,dx,fs,f,fd,ps,_,j',rfl,c2,ZJ I1.wok hi c3 nf,cl,me,hr.mono hj,hB,F,ht σ H1 _ ⟨g,ρ,M,I1,?_⟩⟩
   have h2:=h.bnd
   cases has:as M ρ with
   |exc x=>rw[has]at h2;exact qD.ex e1 (quiet h2)
   |bad=>rw[has]at h2;exact False.elim h2
   |ok ds=>
    rw[has]at h2
    intro vs H2 e2 r2
    have e12:=e1.trans e2
    refine⟨by rw[hp,en,←hn M ρ ds has,arb,r2.length],g,M,obj hd::ds,(I1.ex e2).kd,(I1.ex e2).wok,.cons (.obj ha) r2,?_⟩
    exact aZ.sat.mono h2 (fun d M' k v H' g' c kd wk r'=>k v H' g' ((Gr.ex e12).trans c.gr) ((I.ex e12).call c kd wk) r') fun x M' k H' g' cc dd c kd wk r'=>k H' g' cc dd ((Gr.ex e12).trans c.gr) ((I.ex e12).call c kd wk) r'
  ·exact False.elim h
theorem ahB{tb:List (Str×MV)}{as:QA}{k:Nat}(tk:Takes X W)(hr:Room k X.A)(T:HX X aj k m ((e::es).length+1) tb)(ho:QW aj X W o fo)(ha:Hw aj X W (e::es) as)(hn:∀M ρ ds,as M ρ=.ok ds->ds.length=(e::es).length)(hb:baseOk o=true)(hs:(e::es).all nst=true)(hl:(apos.endLine==pos.line)=true)(hz:(e::es).length < 30) :
  GE aj X W false (.Call (.Attribute o m apos) (e::es) [] pos) (cR tb fo as):=
 PE.weak (Zt tk ho ha hb hs hl hz) fun σ H Q h=>acQ hr T (fun M ρ ds z=>by rw[hn M ρ ds z]) (fun _ _ _ z=>z) σ H Q h
theorem afi{tb:List (Str×MV)}{k:Nat}(tk:Takes X W)(hr:Room k X.A)(T:HX X aj k m 1 tb)(ho:QW aj X W o fo)(hb:baseOk o=true)(hl:(apos.endLine==pos.line)=true) :
  GE aj X W false (.Call (.Attribute o m apos) [] [] pos) (cR tb fo au):=
 PE.weak (V1 tk ho hb hl) fun σ H Q h=>acQ hr T (fun M ρ ds z=>by cases z;rfl) (fun σ H Q ⟨g,ρ,M,I,z⟩=>z [] H (Ex.refl H) .nil) σ H Q h
end
def eV(x:Str):SF:=fun M ρ=>.exc ⟨x,[]⟩ ρ M
def Cp(x:Str)(fs:List Str)(as:QA):SF:=fun M ρ=>((as M ρ).at M).then ρ fun ds M'=>.exc ⟨x,(fs.zip ds).reverse⟩ ρ M'
section
variable{X:Cx}{aj:aR}{W:WX}{q:Bool}{x:Str}{pos p p1:Pos}{k:Nat}
theorem afk(hc:X.calm=true)(tk:Takes X W)(hg:Gl X x)(hd:(x==("__debug__" : Str))=false)(g:bh X.prog X.w X.K X.mg X.base aj k x .exc):SE aj X W q (.Raise (some (.Call (.Name x p) [] [] p1)) none pos) (eV x):=by
 obtain⟨C,g1,g2,g3,g4,g5,g6⟩:=g
 exact PS.weak (ps_raise hc tk (Ear.af5 PySem.F.excBase_ValueError g3 g1 g4 (raises_own g5 g6) hg hd)) fun D σ H ⟨g,ρ,M,I,z⟩=>z σ H g (.ref C) none Gr.refl I ⟨C,g2,rfl,.inl ⟨rfl,rfl⟩⟩
theorem lF.gr{K:aqV}{g g':Gh}{H H':Hp}{q:Bool}(r:Gr q g g' H H')(k:Kd g H){fs:List (Str×V)}{gs:List (Str×Dat)}(h:lF K g H fs gs):lF K g' H' fs gs:=by
 induction h with
 |nil=>exact .nil
 |cons z _ ih=>exact .cons (z.gr r k) ih
theorem lF.snoc{K:aqV}{g:Gh}{H:Hp}{f:Str}{v:V}{d:Dat}(z:Rep K g H v d){fs:List (Str×V)}{gs:List (Str×Dat)}(h:lF K g H fs gs):lF K g H (fs++[(f,v)]) (gs++[(f,d)]):=by
 induction h with
 |nil=>exact .cons z .nil
 |cons y _ ih=>exact .cons y ih
theorem acG{K:aqV}{g:Gh}{H:Hp}:∀{fs:List Str} {vs:List V} {ds:List Dat},aM K g H vs ds->lF K g H (fs.zip vs).reverse (fs.zip ds).reverse
 |[],_,_,_=>.nil
 |_::_,_,_,.nil=>.nil
 |f::fs,_,_,.cons z t=>by
  rw[arv,arv,List.reverse_cons,List.reverse_cons]
  exact(acG t).snoc z
theorem aeJ{e:Expr}{es:List Expr}{fs:List Str}{as:QA}(hc:X.calm=true)(tk:Takes X W)(hr:Room k X.A)(hg:Gl X x)(hd:(x==("__debug__" : Str))=false)(g:bh X.prog X.w X.K X.mg X.base aj k x (.exi fs))(ha:Hw aj X W (e::es) as)
  (hs:(e::es).all nst=true) (hn:∀M ρ ds,as M ρ=.ok ds->ds.length=fs.length) (hz:fs.length<=1000):SE aj X W q (.Raise (some (.Call (.Name x p) (e::es) [] p1)) none pos) (Cp x fs as):=by
 obtain⟨C,fI,fd,ps,g1,g2,g3,g4,g5,hk,hp,hB,F⟩:=g
 have hs':=hs
 rw[arJ,aqW]at hs'
 refine PS.weak (ps_raise hc tk (pmk_oex g3 g4 g5 F (hr.mono hk) hB .nil pass0 hg g1 ha hd (cD hs'.1 es) (star_any es hs'.2))) fun D σ H ⟨g,ρ,M,I,z⟩=>?_
 refine⟨g,ρ,M,I,?_⟩
 unfold Cp at z
 cases has:as M ρ with
 |exc y=>rw[has]at z;exact fun H' c dd e r=>z σ H' g c dd (Gr.ex e) (I.ex e) r.fr
 |bad=>rw[has]at z;exact False.elim z
 |ok ds=>
  rw[has]at z
  intro vs H1 e1 r1
  have hl:vs.length=fs.length:=by rw[r1.length,hn M ρ ds has]
  refine⟨by omega,fun a na=>⟨a,vs++[],rfl,by simpa using hl,upd_same,fun dx H' nd kp dm ha' hd'=>?_⟩⟩
  have ne:dx≠a:=fun z=>by
   subst z
   rw[upd_same]at nd
   cases nd
  rw[upd_ne ne]at nd
  refine⟨rfl,dx,_,ha',hd',nd,?_⟩
  have kp':∀b o,H1 b=some o->(upd (del H' a) dx (.xd (fs.zip (vs++[])).reverse)) b=some o:=fun b o hb=>by
   have nb:b≠a:=fun z=>by subst z;rw[na]at hb;cases hb
   have nd':b≠dx:=fun z=>by subst z;rw[nd]at hb;cases hb
   rw[upd_ne nd',del_ne nb]
   exact kp b o nb (by rw[upd_ne nb];exact hb)
  have ex:Ex H1 (upd (del H' a) dx (.xd (fs.zip (vs++[])).reverse)):=fun b o hb=>kp' b o hb
  have I1:=I.ex e1
  refine z σ _ g (.ref C) (some dx) (Gr.ex (e1.trans ex)) (I1.ex ex) ⟨C,g2,rfl,.inr ⟨dx,_,rfl,upd_same,?_⟩⟩
  rw[arM]
  have:=(acG (fs:=fs) r1).gr (Gr.ex (q:=true) ex) I1.kd
  rw[arM]at this
  exact lF.less (g:=g) (g':=g.fr) rfl (wX g) this
end
section
variable{P:Program}{w:World}{K:aqV}{mg:Str->Option Value}{base:Heap}{C f:Addr}{fd:FuncData}{qual:Str}{st:Stmt}
theorem vis_par{N ps:List Str}{sc:Scope}(S:FnScope N ps sc){y:Str}(h:y∈ps):Vis sc y:=(S.par y h).elim (fun z=>.inl z) fun z=>.inr (.inl z)
theorem aen{s a1 a2 a3 f1 f2 f3:Str}{p1 p2 p3 p4 p5 p6 p7 p8 p9 p10 p11 p12:Pos}(F:L2.Fun K "__init__" qual st f fd)(S:FnScope [s,a1,a2,a3] [s,a1,a2,a3] (defScope st))(T:OexC K C)
  (hb:defBody st=[.Assign [.Attribute (.Name s p1) f1 p2] (.Name a1 p3) p4,.Assign [.Attribute (.Name s p5) f2 p6] (.Name a2 p7) p8,.Assign [.Attribute (.Name s p9) f3 p10] (.Name a3 p11) p12])
  (dz:∀y∈[s,a1,a2,a3],(y==("__debug__" : Str))=false/\(y==("__classdict__" : Str))=false) (n1:PySem.W.findIn K (.ref C) f1=some none) (n2:PySem.W.findIn K (.ref C) f2=some none) (n3:PySem.W.findIn K (.ref C) f3=some none) :
  FnOk P w K mg base CX0 1 f fd [s,a1,a2,a3] (af4 C [f1,f2,f3]):=by
 refine F.ok S (fun vs H Q E h=>?_) (fun cdv A outer s0 H vs Q E hr h=>?_)
 ·obtain⟨a,xs,rfl,hl,_⟩:=h
  simp[hl]
 ·obtain⟨a,xs,rfl,hl,ha,q⟩:=h
  match xs,hl with
  |[x,y,z],_=>
  rw[hb]
  have v0:=vis_par S (y:=s) (by simp)
  have v1:=vis_par S (y:=a1) (by simp)
  have v2:=vis_par S (y:=a2) (by simp)
  have v3:=vis_par S (y:=a3) (by simp)
  obtain⟨c0,k0⟩:=dz s (by simp)
  obtain⟨c1,k1⟩:=dz a1 (by simp)
  obtain⟨c2,k2⟩:=dz a2 (by simp)
  obtain⟨c3,k3⟩:=dz a3 (by simp)
  refine⟨_,pss_cons (ps_ost (pe_var (i:=0) rfl v0 c0 k0) (pe_var (i:=1) rfl v1 c1 k1)) (pss_cons (ps_ost (pe_var (i:=0) rfl v0 c0 k0) (pe_var (i:=2) rfl v2 c2 k2)) (pss_one (ps_ost (pe_var (i:=0) rfl v0 c0 k0) (pe_var (i:=3) rfl v3 c3 k3)))),?_⟩
  refine⟨_,rfl,_,rfl,a,C,rfl,T,n1,.inl ⟨ha,fun dx nd ne=>?_⟩⟩
  refine⟨_,rfl,_,rfl,a,C,rfl,T,n2,.inr ⟨dx,[(f1,x)],upd_same,(by rw[upd_ne ne];exact upd_same),(show 1<=900 by decide),?_⟩⟩
  refine⟨_,rfl,_,rfl,a,C,rfl,T,n3,.inr ⟨dx,_,(by rw[upd_ne ne.symm];exact upd_same),upd_same,(show 2<=900 by decide),?_⟩⟩
  refine q dx _ nd (fun b o hb hB=>?_) (fun b hB=>?_) (by rw[upd_ne ne.symm,upd_ne ne.symm];exact upd_same) upd_same
  ·have hbd:b≠dx:=ne_of_none hB nd
   rw[upd_ne hbd,upd_ne hbd,upd_ne hb,upd_ne hbd]
   exact hB
  ·by_cases e:b=dx
   ·rw[e];exact nd
   ·by_cases e2:b=a
    ·subst e2
     rw[upd_ne e,upd_ne e,upd_same]at hB
     cases hB
    ·rw[upd_ne e,upd_ne e,upd_ne e2,upd_ne e]at hB
     exact hB
end
structure Cl where
 c:Value
 nm:Option Nat
 ts:Addr->Value->Option Addr->TS
def anB(D:Ends)(i:Nat):Ends:={ nx:=fun τ G=>D.nx (τ.set i none) G,rt:=D.rt,bk:=fun τ G=>D.bk (τ.set i none) G,ct:=fun τ G=>D.ct (τ.set i none) G }
def Zi(K:aqV)(Wo:WX)(D:Ends):List Cl->WX
 |[]=>Wo
 |l::r=>fun cls d τ G=>∃b,PySem.W.exmOne K cls l.c=some b/\(b=true->∀a,G a=none->(match l.nm with
   |none=>l.ts a cls d D τ G
   |some i=>l.ts a cls d (anB D i) (τ.set i (some (.ref a))) G))/\(b=false->Zi K Wo D r cls d τ G)
inductive Cg(X:Cx):List ExceptHandler->List Cl->Prop
 |nil:Cg X [] []
 |one {x:Str} {l:Cl} {s0:Stmt} {su:List Stmt} {np cp:Pos} {hds:List ExceptHandler} {ls:List Cl} (hc:Names X x l.c) (hn:l.nm=none)
   (hsu:∀(a:Addr) (oe:Obj) (cls:Value) (d:Option Addr) (pn:List (Addr×Obj)),Zc cls d oe->(∃vs,oe.data=.fields vs)->PSs (X.suite a ((a,oe)::pn)) (s0::su) (l.ts a cls d)) (r:Cg X hds ls) :
   Cg X (.ExceptHandler (some (.Name x np)) none (s0::su) cp::hds) (l::ls)
 |as {x n:Str} {i:Nat} {l:Cl} {s0:Stmt} {su:List Stmt} {np cp:Pos} {hds:List ExceptHandler} {ls:List Cl} (hc:Names X x l.c) (hn:l.nm=some i) (hi:X.N[i]?=some n) (hl:X.env.kindOf n=some .local)
   (hsu:∀(a:Addr) (oe:Obj) (cls:Value) (d:Option Addr) (pn:List (Addr×Obj)),Zc cls d oe->(∃vs,oe.data=.fields vs)->PSs (X.suite a ((a,oe)::pn)) (s0::su) (l.ts a cls d)) (r:Cg X hds ls) :
   Cg X (.ExceptHandler (some (.Name x np)) (some n) (s0::su) cp::hds) (l::ls)
section
variable{X:Cx}{body:List Stmt}{h0:ExceptHandler}{hds:List ExceptHandler}{ls:List Cl}{pos:Pos}{tb:WX->TS}{Wo:WX}
theorem ahg(hs:X.stack=X.env::X.outer)(hf:X.env.frame=some X.env.locals)(hN:X.N.Nodup)(tk:Takes X Wo)
  (hb:∀(W:WX) (pn:List (Addr×Obj)) (xe:Value->Shared->Prop),Takes (X.tr pn xe) W->PassesOwn (model X.prog X.w) X.A X.env xe->PSs (X.tr pn xe) body (tb W))
  (hh:Cg X (h0::hds) ls):PS X (.Try body (h0::hds) [] [] pos) (fun D σ H=>tb (Zi X.K Wo D ls) D σ H):=by
 constructor
 intro pins s σ H D I h
 have ok:=I.ok
 have frm:X.A.frames=some (X.env::X.outer):=by rw[ok.frames,hs]
 have run:=(hb (Zi X.K Wo D ls) (X.pn++pins) (fun e t₁=>wpAny (model X.prog X.w) X.A (noteFrame e X.env) (fun _ t₂=>wpAny (model X.prog X.w) X.A (setFlight e none) (fun _ t₃=>wpAny (model X.prog X.w) X.A (handleBy e X.env (h0::hds)) (SP X pins D) X.xe t₃) X.xe t₂) X.xe t₁) (fun u t xx=>by
  obtain⟨a,B,sI,pins2,τ,G,cls,d,rfl,J2,nb,up,sky,na,os,ag,w⟩:=xx
  have J:Inv X pins τ G sI:=J2.ofTry ok
  have sky2:Sky B (X.env::X.outer) a (Zc cls d) X.env.locals t.heap:=by
   rw[←hs]
   exact sky
  show wpAny (model X.prog X.w) X.A (noteFrame (.ref a) X.env) _ _ _
  refine Sky.land Zc.steady frm hf sky2 ?_
  intro h3 fl3 up3
  have J3:Inv X pins τ G { t with heap:=h3 }:=J.landed nb fl3.1 (up.trans up3) os ag
  obtain⟨oe3,vs3,he3,hz3,hd3⟩:=fl3.there
  have notF:a∉frs (X.env::X.outer):=fun hm=>by
   obtain⟨_,o,eo,hnf⟩:=Heap.FunFrames.mem fl3.2.2.1 hm
   rw[he3]at eo
   cases eo
   exact hnf _ hd3
  have nL:a≠X.env.locals:=fun z=>notF (List.mem_filterMap.mpr ⟨X.env,aq1,(by rw[hf,z])⟩)
  have nF:a∉X.fs:=fun hm=>by
   obtain⟨e,he,q⟩:=List.mem_filterMap.mp hm
   exact notF (List.mem_filterMap.mpr ⟨e,aq0 _ he,q⟩)
  have S3:=J3.suite he3 hd3 na nL nF
  have look:PySem.W.Looks (model X.prog X.w) h3 (typeOf (.ref a)) cls:=fun A Q E s k q=>wpAny_typeOf_ref (k _ _ he3) (by rw[hz3.1];exact q)
  have named:∀{x:Str} {c:Value} {np:Pos} {Q:Value->Shared->Prop} {E:Value->Shared->Prop},Names X x c->Q c { t with heap:=h3 }->wpAny (model X.prog X.w) (X.A.mark (some (.ref a))) (eval (.Name x np) X.env) Q E { t with heap:=h3 }:=by
   intro x c np Q E hc q
   obtain⟨hg,hdb,hm⟩:=hc
   rcases hm with hm|⟨hm,hv,hnn⟩
   ·exact ld_glob (X:=X.suite a ((a,oe3)::(X.pn++pins))) S3 hg hm q hdb
   ·exact ld_blt (X:=X.suite a ((a,oe3)::(X.pn++pins))) S3 hg hm hv q hnn hdb
  have all:∀{hds2:List ExceptHandler} {ls2:List Cl},Cg X hds2 ls2->Zi X.K Wo D ls2 cls d τ G->wpAny (model X.prog X.w) X.A (handleBy (.ref a) X.env hds2) (SP X pins D) X.xe { t with heap:=h3 }:=by
   intro hds2 ls2 hk
   induction hk with
   |nil=>
    intro w
    refine wpAny_handleBy_nil ?_
    obtain⟨k1,k2,k3,oe,vs,T,oT,ts2,he,hz,hd,h1,hr⟩:=id fl3
    unfold PySem.passOn
    refine wpAny_bind (wpAny_field he hd h1 ?_)
    have nT:¬((Value.ref T==Value.none)=true):=by simp
    rw[if_neg nT]
    have fin:wpAny (model X.prog X.w) X.A (setFlight (.ref a) X.env.frame) (fun _ s4=>wpAny (model X.prog X.w) X.A (throw (.ref a):Sem Flow) (SP X pins D) X.xe s4) X.xe { t with heap:=h3 }:=by
     rw[hf]
     refine HandSPX.setFlight_upZ fl3 ?_
     intro h4 hh4 up4
     refine wpAny_throw (tk _ _ ?_)
     exact⟨a,B,sI,pins,τ,G,cls,d,rfl,J,nb,(up.trans up3).trans up4,.inr (.inr (by rw[hs];exact hh4)),na,os,ag,w⟩
    first
     |exact wpAny_bind (wpAny_pure (wpAny_bind fin))
     |exact wpAny_bind fin
   | @one x l s0 su np cp hds3 ls3 hc hn hsu r ih=>
    intro w
    obtain⟨b,hb1,yes,no⟩:=w
    rw[hn]at yes
    have LM:=PySem.W.exm_one (M:=model X.prog X.w) J3.kIn look hb1
    refine wpAny_handleBy_cons (codeAny_handlers_test ?_) (by intro q;cases q)
    refine named hc (LM.here ?_)
    cases b with
    |false=>exact ih (no rfl)
    |true=>
     refine codeAny_handlers_suite ?_
     refine HandSPX.lands_againZ fl3 ?_
     intro h4 fl4 up4
     have J4:Inv X pins τ G { t with heap:=h4 }:=J.landed nb fl4.1 ((up.trans up3).trans up4) os ag
     obtain⟨oe4,vs4,he4,hz4,hd4⟩:=fl4.there
     have S4:=J4.suite he4 hd4 na nL nF
     refine wpAny_mono ((hsu a oe4 cls d (X.pn++pins) hz4 ⟨_,hd4⟩).run [] _ _ G _ S4 (yes rfl a na)) ?_ (fun _ _ z=>False.elim z)
     intro f s6 sp6
     cases f with
     |ret u=>
      obtain⟨v6,τ6,G6,S6,r6,q6⟩:=sp6
      exact⟨_,_,_,S6.unsuite ok,r6,q6⟩
     |next=>
      obtain⟨τ6,G6,S6,q6⟩:=sp6
      exact⟨_,_,S6.unsuite ok,q6⟩
     |brk=>
      obtain⟨τ6,G6,S6,q6⟩:=sp6
      exact⟨_,_,S6.unsuite ok,q6⟩
     |cont=>
      obtain⟨τ6,G6,S6,q6⟩:=sp6
      exact⟨_,_,S6.unsuite ok,q6⟩
   | @as x n i l s0 su np cp hds3 ls3 hc hn hi hl hsu r ih=>
    intro w
    obtain⟨b,hb1,yes,no⟩:=w
    rw[hn]at yes
    have LM:=PySem.W.exm_one (M:=model X.prog X.w) J3.kIn look hb1
    refine wpAny_handleBy_cons (codeAny_handlers_test ?_) (by intro q;cases q)
    refine named hc (LM.here ?_)
    cases b with
    |false=>exact ih (no rfl)
    |true=>
     refine codeAny_handlers_suite_as ?_
     refine HandSPX.lands_againZ fl3 ?_
     intro h4 fl4 up4
     have J4:Inv X pins τ G { t with heap:=h4 }:=J.landed nb fl4.1 ((up.trans up3).trans up4) os ag
     obtain⟨oe4,vs4,he4,hz4,hd4⟩:=fl4.there
     have S4:=J4.suite he4 hd4 na nL nF
     refine store_ok (X:=X.suite a ((a,oe4)::(X.pn++pins))) (v:=.ref a) S4 hN hi (.inl hl) rfl ?_ (.inr hl)
     intro s5 S5
     refine wpAny_mono ((hsu a oe4 cls d (X.pn++pins) hz4 ⟨_,hd4⟩).run [] s5 _ G _ S5 (yes rfl a na)) ?_ (fun _ _ z=>False.elim z)
     intro f s6 sp6
     have bye:∀{τ6:L2.St} {G6:Hp} {Q:Shared->Prop},Inv (X.suite a ((a,oe4)::(X.pn++pins))) [] τ6 G6 s6->(∀s7,Inv X pins (τ6.set i none) G6 s7->Q s7)->
       wpAny (model X.prog X.w) X.A (do bindName X.env n .none;unbindBehindTheSuite X.env n cp) (fun _ s7=>Q s7) X.xe s6:=fun S6 hq=>gone_ok (S6.unsuite ok) hN hi hl hq
     cases f with
     |ret u=>
      obtain⟨v6,τ6,G6,S6,r6,q6⟩:=sp6
      exact bye S6 fun s7 J7=>⟨_,_,_,J7,r6,q6⟩
     |next=>
      obtain⟨τ6,G6,S6,q6⟩:=sp6
      exact bye S6 fun s7 J7=>⟨_,_,J7,q6⟩
     |brk=>
      obtain⟨τ6,G6,S6,q6⟩:=sp6
      exact bye S6 fun s7 J7=>⟨_,_,J7,q6⟩
     |cont=>
      obtain⟨τ6,G6,S6,q6⟩:=sp6
      exact bye S6 fun s7 J7=>⟨_,_,J7,q6⟩
  exact all hh w) PassesOwn.looking).run [] s σ H D (I.toTry _) h
 refine wpAny_Try_except (wpAny_mono run ?_ (fun _ _ z=>z))
 intro f s1 sp1
 cases f with
 |ret u=>
  obtain⟨v,τ,G,J2,r,q⟩:=sp1
  exact⟨v,τ,G,J2.ofTry ok,r,q⟩
 |next=>
  obtain⟨τ,G,J2,q⟩:=sp1
  exact wpAny_execs_nil ⟨τ,G,J2.ofTry ok,q⟩
 |brk=>
  obtain⟨τ,G,J2,q⟩:=sp1
  exact⟨τ,G,J2.ofTry ok,q⟩
 |cont=>
  obtain⟨τ,G,J2,q⟩:=sp1
  exact⟨τ,G,J2.ofTry ok,q⟩
end
inductive Eu where
 |con (d:Dat)|fld (f:Str)|flds (fs:List Str)
def YG(y:Str)(x:eE)(f:Str):Option Dat:=match x.cls==y with
 |true=>(x.fs.lookup f).bind fun d=>match lf d with
  |true=>some d
  |false=>none
 |false=>none
def Rq(y:Str)(x:eE):List Str->Option (List Dat)
 |[]=>some []
 |f::fs=>(YG y x f).bind fun d=>(Rq y x fs).bind fun ds=>some (d::ds)
def XM(y:Str)(x:eE):Eu->Option Dat
 |.con d=>some d
 |.fld f=>YG y x f
 |.flds fs=>(Rq y x fs).bind fun ds=>some (.tuple ds)
def Ec(y:Str)(x:eE):List (Nat×Eu)->Env->Option Env
 |[],ρ=>some ρ
 |(j,e)::r,ρ=>(XM y x e).bind fun d=>Ec y x r (ρ.set j (some (.dat d)))
structure Hd where
 y:Str
 tk:Str->Option Bool
 nm:Option Nat
 st:List (Nat×Eu)
def Tv(ρ:Env):Option Nat->Env
 |none=>ρ
 |some i=>ρ.set i none
def acf(ρ:Env):Option Nat->Bool
 |none=>true
 |some i=>decide (i < ρ.length)
def hdl:List Hd->eE->Env->Mo->u9
 |[],x,ρ,M=>.exc x ρ M
 |h::r,x,ρ,M=>match h.tk x.cls with
  |some true=>match acf ρ h.nm with
   |true=>match Ec h.y x h.st (Tv ρ h.nm) with
    |some ρ2=>.next (Tv ρ2 h.nm) M
    |none=>.bad
   |false=>.bad
  |some false=>hdl r x ρ M
  |none=>.bad
def aac(f:SF)(hs:List Hd):SF:=fun M ρ=>match f M ρ with
 |.exc x ρ' M'=>hdl hs x ρ' M'
 |o=>o
structure XIn(K:aqV)(aj:aR)(σ:L2.St)(H:Hp)(g:Gh)(ρ:Env)(M:Mo)(x:eE)(a:Addr)(cls:Value)(d:Option Addr)(i:Option Nat):Prop where
 inv:SInv K aj σ H g ρ M
 xr:qO K aj g.fr H x cls d
 sl:∀j,i=some j->σ[j]?=some (some (.ref a))
section
variable(K:aqV)(aj:aR)(a:Addr)(cls:Value)(d:Option Addr)(i:Option Nat)
def tU(f:eE->Option Dat):TE:=fun σ H Q=>∃g ρ M x z,XIn K aj σ H g ρ M x a cls d i/\f x=some z/\∀v H',Ex H H'->Rep K g H' v z->Q v H'
def tUA(f:eE->Option (List Dat)):TA:=fun σ H Q=>∃g ρ M x z,XIn K aj σ H g ρ M x a cls d i/\f x=some z/\∀v H',Ex H H'->aM K g H' v z->Q v H'
def tSu(y:Str)(st:List (Nat×Eu)):TS:=fun D σ H=>∃g ρ M x ρ2,XIn K aj σ H g ρ M x a cls d i/\Ec y x st ρ=some ρ2/\(∀p∈st,i≠some p.1)/\∀σ' H',Ex H H'->SInv K aj σ' H' g ρ2 M->D.nx σ' H'
end
section
variable{K:aqV}{aj:aR}{a:Addr}{cls:Value}{d:Option Addr}{i:Option Nat}{σ:L2.St}{H H':Hp}{g:Gh}{ρ:Env}{M:Mo}{x:eE}
theorem lF.ex{fs:List (Str×V)}{gs:List (Str×Dat)}(e:Ex H H')(k:Kd g H)(h:lF K g H fs gs):lF K g H' fs gs:=h.gr (Gr.ex (q:=true) e) k
theorem qO.ex{c:Value}{dd:Option Addr}(e:Ex H H')(k:Kd g H)(h:qO K aj g H x c dd):qO K aj g H' x c dd:=by
 obtain⟨C,h1,h2,h3⟩:=h
 exact⟨C,h1,h2,h3.imp id fun⟨b,fs,e1,e2,e3⟩=>⟨b,fs,e1,e _ _ e2,e3.ex e k⟩⟩
theorem XIn.ex(e:Ex H H')(h:XIn K aj σ H g ρ M x a cls d i):XIn K aj σ H' g ρ M x a cls d i:=⟨h.inv.ex e,h.xr.ex e h.inv.kd.fr,h.sl⟩
theorem lF.get{f:Str}{z:Dat}{fs:List (Str×V)}{gs:List (Str×Dat)}(h:lF K g H fs gs)(e:gs.lookup f=some z):∃v,fs.lookup f=some v/\Rep K g H v z:=by
 induction h with
 |nil=>cases e
 | @cons f' v d' _ _ r _ ih=>
  rw[aru]at e
  rw[aru]
  cases hb:f==f' with
  |true=>
   rw[hb]at e
   cases e
   exact⟨v,rfl,r⟩
  |false=>
   rw[hb]at e
   exact ih e
end
section
variable{X:Cx}{aj:aR}{a C:Addr}{oe:Obj}{cls:Value}{d:Option Addr}{pn:List (Addr×Obj)}{y n:Str}{pos p:Pos}{j:Nat}
theorem adR{e:Expr}{z:Dat}{i:Option Nat}{t:TE}(h:PE (X.suite a ((a,oe)::pn)) e t)(ht:∀σ H Q,tU X.K aj a cls d i (fun _=>some z) σ H Q->t σ H Q):PE (X.suite a ((a,oe)::pn)) e (tU X.K aj a cls d i fun _=>some z):=PE.weak h ht
theorem adq{f:Str}(hC:aj y=some C)(T:XfC X.K C)(hno:PySem.W.findIn X.K (.ref C) f=some none)(hz:Zc cls d oe)(hf:∃vs,oe.data=.fields vs)(hN:X.N[j]?=some n)(hv:Vis X.env.scope n)(hd:(n==("__debug__" : Str))=false)(hcd:(n==("__classdict__" : Str))=false) :
  PE (X.suite a ((a,oe)::pn)) (.Attribute (.Name n p) f pos) (tU X.K aj a cls d (some j) fun x=>YG y x f):=by
 refine PE.weak (pe_xf T hno hz hf (pe_var (i:=j) (X:=X.suite a ((a,oe)::pn)) hN hv hd hcd)) fun σ H Q ⟨g,ρ,M,x,z,I,e,k⟩=>?_
 have e:YG y x f=some z:=e
 unfold YG at e
 split at e
 ·next ey=>
  obtain⟨z',l,e⟩:=aqU.mp e
  split at e
  ·next hl=>
   cases e
   obtain⟨C',c1,c2,c3⟩:=I.xr
   rw[eq_of_beq ey,hC]at c1
   cases c1
   rcases c3 with⟨c3,_⟩|⟨b,fs,c3,c4,c5⟩
   ·rw[c3]at l
    cases l
   ·obtain⟨v,l1,l2⟩:=c5.get l
    exact⟨.ref a,I.sl j rfl,rfl,c2,b,fs,v,c3,c4,l1,k v H (Ex.refl H) (Rep.free (g:=g.fr) (g':=g) rfl hl l2)⟩
  ·cases e
 ·cases e
theorem aep{i:Option Nat}:PA (X.suite a ((a,oe)::pn)) [] (tUA X.K aj a cls d i fun _=>some []):=PA.weak pa_nil fun σ H Q ⟨g,ρ,M,x,z,I,e,k⟩=>by
 cases e
 exact k [] H (Ex.refl H) .nil
theorem ahJ{e:Expr}{es:List Expr}{i:Option Nat}{f:eE->Option Dat}{fr:eE->Option (List Dat)}(h:PE (X.suite a ((a,oe)::pn)) e (tU X.K aj a cls d i f))(hr:PA (X.suite a ((a,oe)::pn)) es (tUA X.K aj a cls d i fr))(hs:nst e=true) :
  PA (X.suite a ((a,oe)::pn)) (e::es) (tUA X.K aj a cls d i fun x=>(f x).bind fun z=>(fr x).bind fun zs=>some (z::zs)):=by
 refine PA.weak (pa_cons h hr (cD hs es)) fun σ H Q ⟨g,ρ,M,x,z,I,e,k⟩=>?_
 obtain⟨z1,e1,e⟩:=aqU.mp e
 obtain⟨z2,e2,e⟩:=aqU.mp e
 cases e
 exact⟨g,ρ,M,x,z1,I,e1,fun v H1 x1 r1=>⟨g,ρ,M,x,z2,I.ex x1,e2,fun vs H2 x2 r2=>k (v::vs) H2 (x1.trans x2) (.cons (r1.ex x2 (I.ex x1).inv.kd) r2)⟩⟩
theorem adT{es:List Expr}{kk:Nat}{i:Option Nat}{fr:eE->Option (List Dat)}(hr:PA (X.suite a ((a,oe)::pn)) es (tUA X.K aj a cls d i fr))(hn:∀x zs,fr x=some zs->zs.length<=100000):PE (X.suite a ((a,oe)::pn)) (.Tuple es kk pos) (tU X.K aj a cls d i fun x=>(fr x).bind fun zs=>some (.tuple zs)):=by
 refine PE.weak (pe_tup hr) fun σ H Q ⟨g,ρ,M,x,z,I,e,k⟩=>?_
 obtain⟨zs,e1,e⟩:=aqU.mp e
 cases e
 refine⟨g,ρ,M,x,zs,I,e1,fun vs H1 x1 r1=>⟨sz_of (by rw[r1.length];exact hn x zs e1),fun p np=>?_⟩⟩
 exact k (.ref p) _ (x1.trans (Ex.new np)) (.tup (st_of upd_same) (r1.ex (Ex.new np) (I.ex x1).inv.kd))
theorem V4{x:eE}:∀{fs:List Str} {zs:List Dat},Rq y x fs=some zs->zs.length=fs.length
 |[],zs,h=>by cases h;rfl
 |f::fs,zs,h=>by
  rw[Rq]at h
  obtain⟨z1,e1,h⟩:=aqU.mp h
  obtain⟨z2,e2,h⟩:=aqU.mp h
  cases h
  simp[V4 e2]
theorem ai3{i:Option Nat}{se:Eu}{st:List (Nat×Eu)}{D D':Ends}{σ:L2.St}{H:Hp}(h:tSu X.K aj a cls d i y ((j,se)::st) D σ H)(nx:∀σ' H',tSu X.K aj a cls d i y st D σ' H'->D'.nx σ' H') :
  tAsg (tU X.K aj a cls d i fun x=>XM y x se) (gName j) D' σ H:=by
 obtain⟨g,ρ,M,x,ρ2,I,e,nj,k⟩:=h
 rw[Ec]at e
 obtain⟨z,e1,e⟩:=aqU.mp e
 refine⟨g,ρ,M,x,z,I,e1,fun v H' x1 r1=>nx _ _ ⟨g,ρ.set j (some (.dat z)),M,x,ρ2,⟨(I.ex x1).inv.set r1,(I.ex x1).xr,fun jj hj=>?_⟩,e,fun p hp=>nj p (aq0 _ hp),fun σ' H2 x2 I2=>k σ' H2 (x1.trans x2) I2⟩⟩
 have ne:j≠jj:=fun z=>nj (j,se) aq1 (by rw[hj,z])
 rw[aq4 ne]
 exact I.sl jj hj
theorem ajT{i:Option Nat}{D:Ends}{σ:L2.St}{H:Hp}(h:tSu X.K aj a cls d i y [] D σ H):D.nx σ H:=by
 obtain⟨g,ρ,M,x,ρ2,I,e,nj,k⟩:=h
 cases e
 exact k σ H (Ex.refl H) I.inv
end
def amO(K:aqV)(aj:aR)(h:Hd)(l:Cl):Prop:=(∃D,aj h.y=some D/\l.c=.ref D)/\acy K aj h.y h.tk/\l.nm=h.nm/\(l.ts=fun a cls d=>tSu K aj a cls d h.nm h.y h.st)/\∀p∈h.st,h.nm≠some p.1
inductive Hu(K:aqV)(aj:aR):List Hd->List Cl->Prop
 |nil:Hu K aj [] []
 |cons {h:Hd} {l:Cl} {hs:List Hd} {ls:List Cl} (o:amO K aj h l) (r:Hu K aj hs ls):Hu K aj (h::hs) (l::ls)
theorem SInv.off{K:aqV}{aj:aR}{σ:L2.St}{H:Hp}{g:Gh}{ρ:Env}{M:Mo}(I:SInv K aj σ H g ρ M)(i:Nat)(v:Option V):SInv K aj (σ.set i v) H g (ρ.set i none) M:=by
 have I2:=I.forget (j:=i)
 refine⟨I2.kd,I2.wok,by rw[arq,arq];exact I.len,fun j d h=>?_,fun j xs h=>?_,fun j k xs ys l ne h1 h2 h3=>?_⟩
 ·by_cases e:j=i
  ·subst e
   rw[arS]at h
   split at h <;> first | (split at h <;> cases h) | (exact absurd rfl ‹¬_›)
  ·obtain⟨v',a1,a2⟩:=I2.dat j d h
   rw[aq4 (Ne.symm e)]at a1
   exact⟨v',by rw[aq4 (Ne.symm e)];exact a1,a2⟩
 ·by_cases e:j=i
  ·subst e
   rw[arS]at h
   split at h <;> first | (split at h <;> cases h) | (exact absurd rfl ‹¬_›)
  ·obtain⟨l,us,a1,a2⟩:=I2.own j xs h
   rw[aq4 (Ne.symm e)]at a1
   exact⟨l,us,by rw[aq4 (Ne.symm e)];exact a1,a2⟩
 ·have n1:j≠i:=fun z=>by
   subst z
   rw[arS]at h1
   split at h1 <;> first | (split at h1 <;> cases h1) | (exact absurd rfl ‹¬_›)
  have n2:k≠i:=fun z=>by
   subst z
   rw[arS]at h2
   split at h2 <;> first | (split at h2 <;> cases h2) | (exact absurd rfl ‹¬_›)
  rw[aq4 (Ne.symm n1)]at h1 h3
  rw[aq4 (Ne.symm n2)]at h2 ⊢
  exact I.sep j k xs ys l ne h1 h2 h3
section
variable{X:Cx}{aj:aR}{W:WX}{q:Bool}{body:List Stmt}{h0:ExceptHandler}{hds:List ExceptHandler}{hs:List Hd}{ls:List Cl}{pos:Pos}{f:SF}
theorem akG{D:Ends}{g g':Gh}{H H':Hp}{σ':L2.St}{ρ':Env}{M':Mo}{x:eE}{c:Value}{dd:Option Addr}(ha:Hu X.K aj hs ls)(r:Gr q g g' H H')(I:SInv X.K aj σ' H' g' ρ' M')(xr:qO X.K aj g'.fr H' x c dd)
  (z:(hdl hs x ρ' M').sat (sN X.K aj q D.nx g H) (sR X.K aj q D.rt g H) (sN X.K aj q D.bk g H) (sN X.K aj q D.ct g H) (sX X.K aj W q g H)):Zi X.K W D ls c dd σ' H':=by
 induction ha with
 |nil=>exact z σ' H' g' c dd r I xr
 | @cons h l hs ls o _ ih=>
  obtain⟨⟨D0,o1,o2⟩,o3,o4,o5,o6⟩:=o
  rw[hdl]at z
  obtain⟨C,c1,c2,c3⟩:=id xr
  split at z
  ·next ht=>
   refine⟨true,by rw[c2,o2];exact o3 _ _ _ ht c1 _ o1,fun _ a na=>?_,fun y=>nomatch y⟩
   rw[o4,o5]
   split at z
   ·next hm=>
    split at z
    ·next ρ2 hr=>
     cases hnm:h.nm with
     |none=>
      rw[hnm]at hr z o6
      exact⟨g',ρ',M',x,ρ2,⟨I,xr,fun j hj=>nomatch hj⟩,hr,o6,fun σ2 H2 e2 I2=>z σ2 H2 g' (r.trans (Gr.ex e2)) I2⟩
     |some i=>
      rw[hnm]at hr z o6 hm
      refine⟨g',ρ'.set i none,M',x,ρ2,⟨I.off i _,xr,fun j hj=>?_⟩,hr,o6,fun σ2 H2 e2 I2=>z _ H2 g' (r.trans (Gr.ex e2)) (I2.off i none)⟩
      cases hj
      have hl:i < ρ'.length:=of_decide_eq_true hm
      rw[arf (by rw[I.len];exact hl)]
    ·exact False.elim z
   ·exact False.elim z
  ·next ht=>exact⟨false,by rw[c2,o2];exact o3 _ _ _ ht c1 _ o1,(fun y=>nomatch y),fun _=>ih z⟩
  ·exact False.elim z
theorem ala(st:X.stack=X.env::X.outer)(hf:X.env.frame=some X.env.locals)(hN:X.N.Nodup)(tk:Takes X W)
  (hb:∀(W':WX) (pn:List (Addr×Obj)) (xe:Value->Shared->Prop),Takes (X.tr pn xe) W'->PassesOwn (model X.prog X.w) X.A X.env xe->JW aj (X.tr pn xe) W' q body f)
  (hh:Cg X (h0::hds) ls) (ha:Hu X.K aj hs ls):SE aj X W q (.Try body (h0::hds) [] [] pos) (aac f hs):=by
 refine PS.weak (ahg (tb:=fun W'=>tS X.K aj W' q f) st hf hN tk (fun W' pn xe t p=>hb W' pn xe t p) hh) fun D σ H ⟨g,ρ,M,I,z⟩=>?_
 refine⟨g,ρ,M,I,?_⟩
 unfold aac at z
 cases hfm:f M ρ with
 |next ρ' M'=>rw[hfm]at z;exact z
 |ret d M'=>rw[hfm]at z;exact z
 |brk ρ' M'=>rw[hfm]at z;exact z
 |cont ρ' M'=>rw[hfm]at z;exact z
 |bad=>rw[hfm]at z;exact z
 |exc x ρ' M'=>
  rw[hfm]at z
  exact fun σ' H' g' c dd r I' xr=>akG ha r I' xr z
end
section
variable{K:aqV}{aj:aR}{W:WX}{g g':Gh}{H H':Hp}{σ:L2.St}{ρ:Env}{M:Mo}
theorem jH.grow{l:Addr}(r:Gr false g g' H H')(e:Ex H H')(k:Kd g H):∀{n:Bool} {kvs:List (Dat×Dat)},jH K aj g H l n kvs->jH K aj g' H' l n kvs
 |false,_,⟨kv,h1,h2,h3⟩=>⟨kv,e _ _ h1,h2,h3.gr r k⟩
 |true,_,⟨o,xs,vs,h1,h2,h3,h4,h5,h6⟩=>⟨o,xs,vs,e _ _ h1,h2,h3,h4.gr r k,h5,h6.gr r k⟩
theorem dZ.grow{h:Nat}{f:Str}{v:V}(r:Gr false g g' H H')(e:Ex H H')(o:g'.ow=g.ow)(k:Kd g H):∀{fl:jr},dZ K aj g H h f v fl->dZ K aj g' H' h f v fl
 |.dat _,z=>Rep.gr r k z
 |.lst _ _,⟨l,us,h1,h2,h3,h4,h5⟩=>⟨l,us,h1,e _ _ h2,by rw[o];exact h3,h4.gr r k,r.tb h5⟩
 |.dic _ _,⟨l,h1,h2,h3⟩=>⟨l,h1,by rw[o];exact h2,h3.grow r e k⟩
theorem cM.grow{h:Nat}(r:Gr false g g' H H')(e:Ex H H')(o:g'.ow=g.ow)(k:Kd g H){fs:List (Str×V)}{gs:List (Str×jr)}(t:cM K aj g H h fs gs):cM K aj g' H' h fs gs:=by
 induction t with
 |nil=>exact .nil
 |cons z _ ih=>exact .cons (z.grow r e o k) ih
def Gh.push(g:Gh)(x:Addr):Gh:={ g with tbl:=g.tbl++[x] }
theorem Y0{x a:Addr}(z:(g.push x).A a):g.A a∨a=x:=by
 rcases z with(z|z)|z|z
 ·rcases aq5.mp z with z|z
  ·exact .inl (.inl (.inl z))
  ·exact .inr (aq2.mp z)
 ·exact .inl (.inl (.inr z))
 ·exact .inl (.inr (.inl z))
 ·exact .inl (.inr (.inr z))
theorem ZL{x a:Addr}(z:(g.push x).W a):g.W a∨a=x:=by
 rcases z with z|z
 ·rcases aq5.mp z with z|z
  ·exact .inl (.inl z)
  ·exact .inr (aq2.mp z)
 ·exact .inl (.inr z)
theorem Ub{x:Addr}(e:Ex H H')(nx:H x=none):Gr false g (g.push x) H H' where
 keep:=fun a o h _ _=>e a o h
 keepW:=fun z=>nomatch z
 dom:=yr e
 tbl:=⟨[x],rfl⟩
 W:=fun a z=>z.elim (fun z=>.inl (arG _ z)) .inr
 nW:=fun a z=>(ZL z).imp id fun z=>by rw[z];exact nx
 qg:=fun z=>nomatch z
 Lc:=rfl
 Lo:=fun _ z=>z
 nLo:=fun _ z=>.inl z
theorem abp{x:Addr}{o:HO}(k:Kd g H)(e:Ex H H')(nx:H x=none)(hx:H' x=some o)(m:Iz o):Kd (g.push x) H' where
 ob:=fun a z=>by
  rcases Y0 z with z|rfl
  ·obtain⟨u,h1,h2⟩:=k.ob a z
   exact⟨u,e _ _ h1,h2⟩
  ·exact⟨o,hx,m⟩
 lo:=fun a z y=>by
  rcases ZL y with y|rfl
  ·exact k.lo a z y
  ·obtain⟨u,h1,_⟩:=k.ob a (.inr (.inr z))
   rw[nx]at h1
   cases h1
 lc:=fun a z=>by
  refine⟨fun y=>?_,(k.lc a z).2⟩
  rcases ZL y with y|rfl
  ·exact(k.lc a z).1 y
  ·obtain⟨u,h1,_⟩:=k.ob a (.inr (.inl z))
   rw[nx]at h1
   cases h1
theorem YZ{x:Addr}{c:Str}(k:Kd g H)(w:gj K aj g H M)(e:Ex H H')(nx:H x=none)(hx:c=""∨∃C dx,aj c=some C/\H' x=some (.ins C dx [])):gj K aj (g.push x) H' (M++[⟨c,[]⟩]):=by
 have gt:∀{h:Nat} {a:Addr},(g.push x).tbl[h]?=some a->(g.tbl[h]?=some a)∨(h=M.length/\a=x):=fun {h a} z=>by
  have z:(g.tbl++[x])[h]?=some a:=z
  by_cases hl:h < g.tbl.length
  ·rw[aq6 hl]at z
   exact .inl z
  ·rw[arj (by omega)]at z
   have:=(aqX.mp z).1
   simp at this
   have e0:h - g.tbl.length=0:=by omega
   rw[e0]at z
   cases z
   exact .inr ⟨by rw[←w.len];omega,rfl⟩
 have nin:∀{h:Nat},¬g.tbl[h]?=some x:=fun {h} z=>by
  obtain⟨u,h1,_⟩:=k.ob x (.inl (.inl (aq3 z)))
  rw[nx]at h1
  cases h1
 have ex:∀{h:Nat} {i:Inst},(M++[(⟨c,[]⟩:Inst)])[h]?=some i->M[h]?=some i∨i=⟨c,[]⟩:=fun {h i} h1=>by
  by_cases hl:h < M.length
  ·rw[aq6 hl]at h1
   exact .inl h1
  ·rw[arj (by omega)]at h1
   exact .inr (aq2.mp (aq3 h1))
 refine⟨by show(g.tbl++[x]).length=_;simp[w.len],fun h j a h1 h2=>?_,fun h a i h1 h2 hcn=>?_,fun h i h1=>?_,fun h i h1=>?_,fun h a i h1 h2 hcn=>?_,fun h i h1 hcn=>?_,w.nc⟩
 ·rcases gt h1 with z1|⟨z1,rfl⟩
  ·rcases gt h2 with z2|⟨z2,rfl⟩
   ·exact w.inj h j a z1 z2
   ·exact absurd z1 nin
  ·rcases gt h2 with z2|⟨z2,_⟩
   ·exact absurd z2 nin
   ·omega
 ·rcases gt h1 with z1|⟨rfl,rfl⟩
  ·have hl:h < M.length:=by rw[←w.len];exact(aqX.mp z1).1
   rw[aq6 hl]at h2
   obtain⟨C',dx',fs,c1,c2,c3⟩:=w.ins h a i z1 h2 hcn
   exact⟨C',dx',fs,c1,e _ _ c2,c3.grow (Ub e nx) e rfl k⟩
  ·rw[arj (aro _),Nat.sub_self]at h2
   cases h2
   rcases hx with rfl|⟨C,dx,hc,hx⟩
   ·exact absurd rfl hcn
   ·exact⟨C,dx,[],hc,hx,.nil⟩
 ·rcases ex h1 with h1|rfl
  ·exact w.nd h i h1
  ·exact List.nodup_nil
 ·rcases ex h1 with h1|rfl
  ·exact w.fd h i h1
  ·exact fun f hf=>absurd hf arB
 ·rcases gt h1 with z1|⟨_,rfl⟩
  ·have hl:h < M.length:=by rw[←w.len];exact(aqX.mp z1).1
   rw[aq6 hl]at h2
   exact w.tw h a i z1 h2 hcn
  ·cases hz:g.ow a with
   |none=>exact hz
   |some p=>
    obtain⟨u,h2,_⟩:=k.ob a (.inl (.inr (by rw[hz];exact fun y=>nomatch y)))
    rw[nx]at h2
    cases h2
 ·rcases ex h1 with h1|rfl
  ·exact w.dm h i h1 hcn
  ·rfl
theorem SInv.grow{M':Mo}(r:Gr false g g' H H')(e:Ex H H')(lo:g'.Lo=g.Lo)(k':Kd g' H')(w':gj K aj g' H' M')(I:SInv K aj σ H g ρ M):SInv K aj σ H' g' ρ M' where
 kd:=k'
 wok:=w'
 len:=I.len
 dat:=fun i d h=>by
  obtain⟨v,h1,h2⟩:=I.dat i d h
  exact⟨v,h1,h2.gr r I.kd⟩
 own:=fun i xs h=>by
  obtain⟨l,us,h1,h2,h3,h4⟩:=I.own i xs h
  exact⟨l,us,h1,e _ _ h2,by rw[lo];exact h3,h4.gr r I.kd⟩
 sep:=I.sep
end
theorem abW{P:Program}{w:World}{K:aqV}{mg:Str->Option Value}{base:Heap}{k:Nat}{f:Addr}{fd:FuncData}{ps:List Str}{sp:Sp}(F:FnOk P w K mg base (L2.CX P w) k f fd ps sp):FnOk P w K mg base L2.CX0 k f fd ps fun vs H Q _=>sp vs H Q fun _ _ _=>False:=
 ⟨fun vs H Q E h=>F.len vs H Q _ h,fun A outer s H args us vs Q E hr he hb hv h=>codeAny_mono (F.run A outer s H args us vs Q _ hr he hb hv h) fun r s' z=>by
  unfold CR at z ⊢
  split at z
  ·exact z
  ·exact z
  ·obtain⟨a,B,H',cls,d,_,_,_,_,_,_,_,y⟩:=z
   exact False.elim y⟩
def Bs(x:Str)(m:Mo->List Dat->aZ Dat)(as:QA):GF:=fun M ρ=>((as M ρ).at M).bind fun ds _=>match m (M++[⟨x,[]⟩]) (obj M.length::ds) with
 |.ok .none M'=>.ok (obj M.length) M'
 |_=>.bad
section
variable{X:Cx}{aj:aR}{W:WX}{x:Str}{pos p:Pos}{k n:Nat}{m:Mo->List Dat->aZ Dat}{as:QA}{t:TA}{e:Expr}{es:List Expr}
theorem acP{C f:Addr}{fd:FuncData}{ps:List Str}(hc:aj x=some C)(hp:ps.length=n+1)(hn:∀M ρ ds,as M ρ=.ok ds->ds.length=n)(ht:∀σ H Q,Oh X.K aj W as σ H Q->t σ H Q)(σ:L2.St)(H:Hp)(Q:VK)(h:tE X.K aj W false (Bs x m as) σ H Q) :
  tMake C (fun vs H Q _=>JN X.K aj ps.length m vs H Q fun _ _ _=>False) [] (fun _ _ _=>False) t σ H Q:=by
 obtain⟨g,ρ,M,I,h⟩:=h
 unfold Bs at h
 have h:=h.bnd
 refine ht σ H _ ⟨g,ρ,M,I,?_⟩
 cases has:as M ρ with
 |exc x=>rw[has]at h;exact fun H' c dd e r=>h H' g c dd (Gr.ex e) (I.ex e) r
 |bad=>rw[has]at h;exact False.elim h
 |ok ds=>
  rw[has]at h
  intro vs H1 e1 r1 y dx ny ndx ne
  have I1:=I.ex e1
  have e2:Ex H1 (upd (upd H1 dx (.own y)) y (.ins C dx [])):=by
   refine(Ex.new ndx).trans (Ex.new ?_)
   rw[upd_ne ne.symm]
   exact ny
  have hy:upd (upd H1 dx (.own y)) y (.ins C dx []) y=some (.ins C dx []):=upd_same
  have gr:=Ub (g:=g) e2 ny
  have kd:=abp I1.kd e2 ny hy trivial
  have wk:=YZ (c:=x) I1.kd I1.wok e2 ny (.inr ⟨C,dx,hc,hy⟩)
  have I2:=I1.grow gr e2 rfl kd wk
  have hb:(g.push y).tbl[M.length]?=some y:=by
   show(g.tbl++[y])[M.length]?=_
   rw[←I1.wok.len,arj (aro _),Nat.sub_self]
   rfl
  refine⟨by rw[arM,arb,r1.length,hn M ρ ds has,hp],g.push y,M++[⟨x,[]⟩],obj M.length::ds,kd,wk,.cons (.obj hb) (by rw[arM];exact r1.gr gr I1.kd),?_⟩
  have h:aZ.sat (match m (M++[(⟨x,[]⟩:Inst)]) (obj M.length::ds) with
   |.ok .none M'=>aZ.ok (obj M.length) M'
   |_=>.bad) (fun d M'=>∀v H' g',Gr false g g' H H'->SInv X.K aj σ H' g' ρ M'->Rep X.K g' H' v d->Q v H') (gE X.K aj W false g H σ ρ):=h
  cases hm:m (M++[⟨x,[]⟩]) (obj M.length::ds) with
  |bad=>rw[hm]at h;exact False.elim h
  |exc z M'=>rw[hm]at h;exact False.elim h
  |ok d M'=>
   rw[hm]at h
   cases d with
   |none=>exact fun v H' g' c k' w' r'=>⟨by cases r';rfl,h (.ref y) H' g' (((Gr.ex e1).trans gr).trans c.gr) (I2.call c k' w') (.obj (c.gr.tb hb))⟩
   |_=>exact False.elim h
theorem aiX(hr:Room k X.A)(g:bh X.prog X.w X.K X.mg X.base aj k x (.cls n m))(hg:Gl X x)(hd:(x==("__debug__" : Str))=false)(ha:Hw aj X W (e::es) as)(hs:(e::es).all nst=true)(hn:∀M ρ ds,as M ρ=.ok ds->ds.length=n) :
  GE aj X W false (.Call (.Name x p) (e::es) [] pos) (Bs x m as):=by
 obtain⟨C,f,fd,ps,j,g1,g2,_,g3,hj,hp,hB,F⟩:=g
 have hs':=hs
 rw[arJ,aqW]at hs'
 exact PE.weak (pe_make (E:=fun _ _ _=>False) g3 (abW F) (hr.mono hj) hg g1 hB .nil pass0 ha hd (cD hs'.1 es) (star_any es hs'.2)) fun σ H Q h=>acP (f:=f) (fd:=fd) g2 hp hn (fun _ _ _ z=>z) σ H Q h
theorem agG(hr:Room k X.A)(g:bh X.prog X.w X.K X.mg X.base aj k x (.cls 0 m))(hg:Gl X x)(hd:(x==("__debug__" : Str))=false):GE aj X W false (.Call (.Name x p) [] [] pos) (Bs x m au):=by
 obtain⟨C,f,fd,ps,j,g1,g2,_,g3,hj,hp,hB,F⟩:=g
 exact PE.weak (pe_make0 (E:=fun _ _ _=>False) g3 (abW F) (hr.mono hj) hg g1 hB .nil pass0 hd) fun σ H Q h=>acP (f:=f) (fd:=fd) (as:=au) g2 hp (fun M ρ ds z=>by cases z;rfl) (fun σ H Q ⟨g,ρ,M,I,z⟩=>z [] H (Ex.refl H) .nil) σ H Q h
end
def Jj(m:Mo->List Dat->aZ Dat)(as:QA):GF:=fun M ρ=>((as M ρ).at M).bind fun ds _=>m M ds
section
variable{X:Cx}{aj:aR}{W:WX}{e:Expr}{es:List Expr}{pos p:Pos}{x:Str}{k:Nat}{f:Addr}{fd:FuncData}{ps:List Str}
theorem aio{m:Mo->List Dat->aZ Dat}{as:QA}(tk:Takes X W)(F:FnOk X.prog X.w X.K X.mg X.base (L2.CX X.prog X.w) k f fd ps (JN X.K aj ps.length m))(hr:Room k X.A)(hg:Gl X x)(hm:X.mg x=some (.ref f))(hk:PySem.W.keepIn X.K (.ref f)=true)(hb:Binds X.K fd ps [])
  (ha:Hw aj X W (e::es) as) (hl:(e::es).length=ps.length) (hd:(x==("__debug__" : Str))=false) (hs:(e::es).all nst=true) (hn:∀M ρ ds,as M ρ=.ok ds->ds.length=(e::es).length):GE aj X W false (.Call (.Name x p) (e::es) [] pos) (Jj m as):=by
 have hs':=hs
 rw[arJ,aqW]at hs'
 refine PE.weak (pe_callS (E:=fun σ=>WE W σ) F hr hg hm hk hb (fun σ=>passAt tk σ) ha hd (cD hs'.1 es) (star_any es hs'.2)) fun σ H Q ⟨g,ρ,M,I,h⟩=>?_
 refine⟨g,ρ,M,I,?_⟩
 have h:=h.bnd
 cases has:as M ρ with
 |exc x=>rw[has]at h;exact fun H' c dd e r=>h H' g c dd (Gr.ex e) (I.ex e) r
 |bad=>rw[has]at h;exact False.elim h
 |ok ds=>
  rw[has]at h
  have h:(m M ds).sat (fun d M'=>∀v H' g',Gr false g g' H H'->SInv X.K aj σ H' g' ρ M'->Rep X.K g' H' v d->Q v H') (gE X.K aj W false g H σ ρ):=h
  intro vs H1 e1 r1
  exact⟨by rw[r1.length,hn M ρ ds has];exact hl,g,M,ds,I.kd.ex e1,I.wok.ex e1 I.kd,r1,h.mono (fun d M' kk v H' g' c k' w' r'=>kk v H' g' ((Gr.ex e1).trans c.gr) ((I.ex e1).call c k' w') r') fun x M' kk H' g' cc dd c k' w' r'=>kk H' g' cc dd ((Gr.ex e1).trans c.gr) ((I.ex e1).call c k' w') r'⟩
end
def Ft.has(ft:Ft)(c f:Str):Bool:=match ft.lookup c with
 |some fs=>fs.contains f
 |none=>false
def LR(ft:Ft)(aj:aR):Prop:=∀c f,ft.has c f=true->f∈aj.fl c
def unH:Dat->Option Nat
 |.dict [(.none,.int (.ofNat h))]=>some h
 |_=>none
theorem afK{d:Dat}{h:Nat}(e:unH d=some h):d=obj h:=by
 unfold unH at e
 split at e
 ·cases e;rfl
 ·cases e
def kJ(M:Mo)(d:Dat):Option (Nat×Inst):=(unH d).bind fun h=>(M[h]?).bind fun i=>match i.cls=="" with
 |true=>none
 |false=>some (h,i)
theorem Ih{M:Mo}{d:Dat}{h:Nat}{i:Inst}(e:kJ M d=some (h,i)):d=obj h/\M[h]?=some i/\i.cls≠"":=by
 unfold kJ at e
 obtain⟨h',e1,e⟩:=aqU.mp e
 obtain⟨i',e2,e⟩:=aqU.mp e
 split at e
 ·cases e
 ·next hc=>
  cases e
  exact⟨afK e1,e2,fun z=>by rw[z]at hc;cases hc⟩
def uO(ft:Ft)(o:QF)(f:Str)(e:GF):SF:=fun M ρ=>(e M ρ).then ρ fun d M1=>((o M1 ρ).at M1).then ρ fun od M2=>match kJ M2 od with
 |some (h,i)=>match ft.has i.cls f&&decide (i.fs.length < 100) with
  |true=>.next ρ (M2.set h (i.put f (.dat d)))
  |false=>.bad
 |none=>.bad
theorem SInv.chg{K:aqV}{aj:aR}{σ:L2.St}{H H':Hp}{g g':Gh}{ρ:Env}{M M':Mo}{h:Nat}{f:Str}(I:SInv K aj σ H g ρ M)(c:Chg M g g' H H' h f)(w:gj K aj g' H' M'):SInv K aj σ H' g' ρ M':=I.call c.gc c.kd w
section
variable{X:Cx}{aj:aR}{W:WX}{o e:Expr}{f:Str}{pos pos':Pos}{ft:Ft}{fo:QF}
theorem Hr{K:aqV}{g:Gh}{H:Hp}{M:Mo}{d:Dat}{v:V}{h:Nat}{i:Inst}(co:jK K aj)(fk:LR ft aj)(w:gj K aj g H M)(r:eG K g H v d)(hi:kJ M d=some (h,i))(hf:ft.has i.cls f=true):∃a C dx fs,d=obj h/\M[h]?=some i/\i.cls≠""/\g.tbl[h]?=some a/\v=.ref a/\aj i.cls=some C/\H a=some (.ins C dx fs)/\cM K aj g H h fs i.fs/\Cls K C/\NoAttr K C f/\f∈aj.fl i.cls:=by
 obtain⟨rfl,h1,h2⟩:=Ih hi
 obtain⟨a,rfl,ha⟩:=Km r
 obtain⟨C,dx,fs,c1,c2,c3⟩:=w.ins h a i ha h1 h2
 have hfl:=fk _ _ hf
 obtain⟨k1,k2⟩:=co i.cls C f c1 hfl
 exact⟨a,C,dx,fs,rfl,h1,h2,ha,rfl,c1,c2,c3,k1,k2,hfl⟩
theorem ahZ{fe:GF}(co:jK X.K aj)(fk:LR ft aj)(ho:QW aj X W o fo)(he:GE aj X W false e fe)(hs:swapsWith e (some (.Attribute o f pos')) pos.line X.env=pure false):SE aj X W false (.Assign [.Attribute o f pos'] e pos) (uO ft fo f fe):=by
 refine PS.weak (ps_fld ho he hs) fun D σ H ⟨g,ρ,M,I,z⟩=>?_
 refine tE.go I (dB (σ:=σ) z) fun d M1 v H1 g1 k1 r1 I1 rv=>?_
 refine tW.go I1 (k:=fun od=>((match kJ M1 od with
  |some (h,i)=>match ft.has i.cls f&&decide (i.fs.length < 100) with
   |true=>u9.next ρ (M1.set h (i.put f (.dat d)))
   |false=>.bad
  |none=>.bad).sat (sN X.K aj false D.nx g H) (sR X.K aj false D.rt g H) (sN X.K aj false D.bk g H) (sN X.K aj false D.ct g H) (sX X.K aj W false g H))) ?_ fun od u H2 k2 e2 ru=>?_
 ·have k1:=Out.ju (dB (σ:=σ) k1)
  exact k1.mono (fun _ y=>y) fun x y H' c dd ex rx=>y H' g1 c dd (r1.trans (Gr.ex ex)) (I1.ex ex) rx
 ·have I2:=I1.ex e2
  split at k2
  ·next h i hi=>
   split at k2
   ·next hb=>
    rw[aqW]at hb
    obtain⟨a,C,dx,fs,_,m1,m2,ha,rfl,c1,c2,c3,c4,c5,c6⟩:=Hr co fk I2.wok ru hi hb.1
    refine⟨a,C,dx,fs,rfl,c2,c4,c5,?_,?_⟩
    ·have:=of_decide_eq_true hb.2
     rw[c3.len]
     omega
    ·have ch:=U3 (f:=f) (C:=C) (dx:=dx) (fs':=putF f v fs) I2.kd I2.wok ha m1 m2
     have w':=I2.wok.chg I2.kd ch ha m1 m2 c6 c1 c3 upd_same (fl:=.dat d) (show Rep X.K g1 _ v d from(rv.ex e2 I1.kd).gr ch.gc.gr I2.kd)
     exact k2 σ _ g1 ((r1.trans (Gr.ex e2)).trans ch.gc.gr) (I2.chg ch w')
   ·exact False.elim k2
  ·exact False.elim k2
end
mutual
theorem Rep.mv{K:aqV}{g g':Gh}{H:Hp}(tb:∀(h:Nat) (a:Addr),g.tbl[h]?=some a->g'.tbl[h]?=some a)(n:∀a,g'.A a->g.A a):∀{v:V} {d:Dat},Rep K g H v d->Rep K g' H v d
 |_,_,.non=>.non
 |_,_,.bl b=>.bl b
 |_,_,.int i=>.int i
 |_,_,.str x=>.str x
 |_,_,.tup h t=>.tup h (aM.mv tb n t)
 |_,_,.lst h t=>.lst (h.elim (fun z=>.inl ⟨z.1,fun y=>z.2 (n _ y)⟩) .inr) (aM.mv tb n t)
 |_,_,.obj h=>.obj (tb _ _ h)
theorem aM.mv{K:aqV}{g g':Gh}{H:Hp}(tb:∀(h:Nat) (a:Addr),g.tbl[h]?=some a->g'.tbl[h]?=some a)(n:∀a,g'.A a->g.A a):∀{vs:List V} {ds:List Dat},aM K g H vs ds->aM K g' H vs ds
 |_,_,.nil=>.nil
 |_,_,.cons h t=>.cons (Rep.mv tb n h) (aM.mv tb n t)
end
def Ep(ft:Ft)(o:QF)(f:Str)(e:IF):SF:=fun M ρ=>((e M ρ).at M).then ρ fun xs M0=>((o (M0++[⟨"",[]⟩]) ρ).at (M0++[⟨"",[]⟩])).then ρ fun od M2=>match kJ M2 od with
 |some (h,i)=>match ft.has i.cls f&&decide (i.fs.length < 100) with
  |true=>.next ρ (M2.set h (i.put f (.lst M0.length xs)))
  |false=>.bad
 |none=>.bad
theorem Ln{K:aqV}{aj:aR}{σ:L2.St}{H H':Hp}{g:Gh}{ρ:Env}{M:Mo}{l:Addr}{o:HO}(I:SInv K aj σ H g ρ M)(nl:H l=none)(e:Ex H H')(hl:H' l=some o)(m:Iz o):Gr false g (g.push l) H H'/\SInv K aj σ H' (g.push l) ρ (M++[⟨"",[]⟩])/\(g.push l).tbl[M.length]?=some l/\(g.push l).ow l=none/\(M++[(⟨"",[]⟩:Inst)])[M.length]?=some ⟨"",[]⟩:=by
 have gr:=Ub (g:=g) e nl
 have kd:=abp I.kd e nl hl m
 have wk:=YZ (c:="") I.kd I.wok e nl (.inl rfl)
 refine⟨gr,I.grow gr e rfl kd wk,?_,?_,?_⟩
 ·show(g.tbl++[l])[M.length]?=_
  rw[←I.wok.len,arj (aro _),Nat.sub_self]
  rfl
 ·cases hz:g.ow l with
  |none=>exact hz
  |some p=>
   obtain⟨u,h1,_⟩:=I.kd.ob l (.inl (.inr (by rw[hz];exact fun y=>nomatch y)))
   rw[nl]at h1
   cases h1
 ·rw[arj (aro _),Nat.sub_self]
  rfl
section
variable{X:Cx}{aj:aR}{W:WX}{o e:Expr}{f:Str}{pos pos' p1 apos epos spos:Pos}{ft:Ft}{fo:QF}
theorem ahx{fe:IF}(co:jK X.K aj)(fk:LR ft aj)(ho:QW aj X W o fo)(he:FE aj X W e fe)(hs:swapsWith e (some (.Attribute o f pos')) pos.line X.env=pure false):SE aj X W false (.Assign [.Attribute o f pos'] e pos) (Ep ft fo f fe):=by
 refine PS.weak (ps_fld ho he hs) fun D σ H ⟨g,ρ,M,I,z⟩=>?_
 refine⟨g,ρ,M,I,?_⟩
 unfold Ep at z
 cases hf:fe M ρ with
 |exc x=>rw[hf]at z;exact fun H' c dd e r=>z σ H' g c dd (Gr.ex e) (I.ex e) r.fr
 |bad=>rw[hf]at z;exact False.elim z
 |ok xs=>
  rw[hf]at z
  intro l us H1 nl e1 hl rs
  obtain⟨gr,I1,tb,ow,mm⟩:=Ln I nl e1 hl trivial
  have rs1:aM X.K (g.push l) H1 us xs:=aM.mv (g:=g.add l) (g':=g.push l) (fun h a z=>gr.tb (g:=g) z) (fun a z=>by
   rcases Y0 z with z|rfl
   ·rcases z with z|z|z
    ·exact .inl z
    ·exact .inr (.inl z)
    ·exact .inr (.inr (show g.Lo a∨a=l from Or.inl z))
   ·exact .inr (.inr (show g.Lo a∨a=a from Or.inr rfl))) rs
  have z:(((fo (M++[⟨"",[]⟩]) ρ).at (M++[⟨"",[]⟩])).then ρ fun od M2=>match kJ M2 od with
   |some (h,i)=>match ft.has i.cls f&&decide (i.fs.length < 100) with
    |true=>.next ρ (M2.set h (i.put f (.lst M.length xs)))
    |false=>.bad
   |none=>.bad).sat (sN X.K aj false D.nx g H) (sR X.K aj false D.rt g H) (sN X.K aj false D.bk g H) (sN X.K aj false D.ct g H) (sX X.K aj W false g H):=z
  have k1:=Out.ju (dB (σ:=σ) z)
  refine tW.go I1 (k1.mono (fun _ y=>y) fun x y H' c dd ex rx=>y H' _ c dd (gr.trans (Gr.ex ex)) (I1.ex ex) rx) fun od u H2 k2 e2 ru=>?_
  have I2:=I1.ex e2
  split at k2
  ·next h i hi=>
   split at k2
   ·next hb=>
    rw[aqW]at hb
    obtain⟨a,C,dx,fs,_,m1,m2,ha,rfl,c1,c2,c3,c4,c5,c6⟩:=Hr co fk I2.wok ru hi hb.1
    have nla:l≠a:=fun z=>by
     subst z
     cases I2.wok.inj _ _ _ ha tb
     rw[mm]at m1
     cases m1
     exact m2 rfl
    refine⟨a,C,dx,fs,rfl,c2,c4,c5,?_,?_⟩
    ·have:=of_decide_eq_true hb.2
     rw[c3.len]
     omega
    ·have ch:=U5 (f:=f) (C:=C) (dx:=dx) (fs':=putF f (.ref l) fs) I2.kd I2.wok ha m1 m2 tb mm ow
     have w':=I2.wok.chg I2.kd ch ha m1 m2 c6 c1 c3 upd_same (v:=.ref l) (fl:=.lst M.length xs) ⟨l,us,rfl,by rw[upd_ne nla];exact e2 _ _ hl,if_pos rfl,(rs1.ex e2 I1.kd).gr ch.gc.gr I2.kd,ch.gc.gr.tb tb⟩
     exact k2 σ _ _ ((gr.trans (Gr.ex e2)).trans ch.gc.gr) (I2.chg ch w')
   ·exact False.elim k2
  ·exact False.elim k2
def Fb(M:Mo)(f:Str)(d:Dat):Option (Nat×Inst×Nat×List Dat):=(kJ M d).bind fun p=>match p.2.fs.lookup f with
 |some (.lst n xs)=>some (p.1,p.2,n,xs)
 |_=>none
theorem Uh{K:aqV}{g:Gh}{H:Hp}{M:Mo}{d:Dat}{v:V}{h n:Nat}{i:Inst}{xs:List Dat}(co:jK K aj)(w:gj K aj g H M)(r:eG K g H v d)(hi:Fb M f d=some (h,i,n,xs)) :
  ∃a C dx fs l us,d=obj h/\M[h]?=some i/\i.cls≠""/\i.fs.lookup f=some (.lst n xs)/\g.tbl[h]?=some a/\v=.ref a/\aj i.cls=some C/\H a=some (.ins C dx fs)/\cM K aj g H h fs i.fs/\Cls K C/\NoAttr K C f/\f∈aj.fl i.cls/\fs.lookup f=some (.ref l)/\H l=some (.lst us)/\g.ow l=some (h,f)/\aM K g H us xs/\g.tbl[n]?=some l:=by
 unfold Fb at hi
 obtain⟨⟨h',i'⟩,h1,hi⟩:=aqU.mp hi
 split at hi
 ·next n' xs' hl=>
  cases hi
  obtain⟨rfl,m1,m2⟩:=Ih h1
  obtain⟨a,rfl,ha⟩:=Km r
  obtain⟨C,dx,fs,c1,c2,c3⟩:=w.ins _ a _ ha m1 m2
  have hfl:=w.fd _ _ m1 f (lookup_mem hl)
  obtain⟨k1,k2⟩:=co _ C f c1 hfl
  obtain⟨u,l1,l,us,rfl,l3,l4,l5,l6⟩:=c3.get hl
  exact⟨a,C,dx,fs,l,us,rfl,m1,m2,hl,ha,rfl,c1,c2,c3,k1,k2,hfl,l1,l3,l4,l5,l6⟩
 ·cases hi
theorem abA{K:aqV}{σ:L2.St}{ρ:Env}{g:Gh}{H:Hp}{M:Mo}{h n:Nat}{i:Inst}{ys:List Dat}{a C dx l:Addr}{fs:List (Str×V)}{us':List V}(I:SInv K aj σ H g ρ M)(m1:M[h]?=some i)(m2:i.cls≠"")(ha:g.tbl[h]?=some a)(c1:aj i.cls=some C)(c2:H a=some (.ins C dx fs))(c3:cM K aj g H h fs i.fs)(hfl:f∈aj.fl i.cls)(l1:fs.lookup f=some (.ref l))(l4:g.ow l=some (h,f))(l6:g.tbl[n]?=some l)(rs:aM K g H us' ys) :
  Gr false g g H (upd H l (.lst us'))/\SInv K aj σ (upd H l (.lst us')) g ρ (M.set h (i.put f (.lst n ys))):=by
 have ch:=ac4 (o':=.lst us') I.kd I.wok l4 trivial
 have nla:a≠l:=fun z=>by
  subst z
  rw[I.wok.tw h a i ha m1 m2]at l4
  cases l4
 have w':=I.wok.chg I.kd ch ha m1 m2 hfl c1 (dx:=dx) c3 (v:=.ref l) (fl:=.lst n ys) (by rw[upd_ne nla,Mf l1];exact c2) ⟨l,us',rfl,upd_same,l4,rs.gr ch.gc.gr I.kd,l6⟩
 exact⟨ch.gc.gr,I.chg ch w'⟩
def Du(f:Str)(o:QF)(e:GF):SF:=fun M ρ=>((o M ρ).at M).then ρ fun od M0=>match Fb M0 f od with
 |some (_,_,n,_)=>(e M0 ρ).then ρ fun d M1=>match Fb M1 f od with
  |some (h,i,n',xs)=>match n==n'&&decide (xs.length < 100000) with
   |true=>.next ρ (M1.set h (i.put f (.lst n (xs++[d]))))
   |false=>.bad
  |none=>.bad
 |none=>.bad
theorem aip{fe:GF}(co:jK X.K aj)(ho:QW aj X W o fo)(hb:baseOk o=true)(he:GE aj X W false e fe)(hs:nst e=true)(hl:(apos.endLine==pos.line)=true) :
  SE aj X W false (.Expr (.Call (.Attribute (.Attribute o f p1) "append" apos) [e] [] pos) epos) (Du f fo fe):=by
 have h0:=pe_fld (X:=X) (pos:=p1) (f:=f) ho (mW hb)
 have h1:=pa_cons he pa_nil (cD hs [])
 have key:=pe_bm (X:=X) (cpos:=pos) (apos:=apos) PySem.F.plainAttrs_list PySem.F.slot_list_append PySem.F.type_list_append mt_append h0 h1 (mW rfl) (few (by simp[hs]) (by simp)) hl (cD hs []) (by with_unfolding_all rfl)
 refine PS.weak (ps_expr key (by with_unfolding_all rfl)) fun D σ H ⟨g,ρ,M,I,z⟩=>?_
 unfold Du at z
 have k1:=Out.ju (dB (σ:=σ) z)
 refine tW.go I (k1.mono (fun _ y=>y) fun x y H' c dd ex rx=>y H' _ c dd (Gr.ex ex) (I.ex ex) rx) fun od u H1 k2 e1 ru=>?_
 have I1:=I.ex e1
 split at k2
 ·next h0' i0 n xs0 hi=>
  obtain⟨a,C,dx,fs,l,us,rfl,m1,m2,ml,ha,rfl,c1,c2,c3,c4,c5,c6,l1,l3,l4,l5,l6⟩:=Uh co I1.wok ru hi
  refine⟨a,C,dx,fs,.ref l,rfl,c2,c4,c5,l1,.inl ⟨rfl,us,sq_of l3⟩,?_⟩
  refine tE.go I1 ((dB (σ:=σ) k2).mono (fun _ _ y=>y) fun x M' y=>y.gr (Gr.ex e1)) fun d M1 v H2 g2 k3 r2 I2 rv=>?_
  split at k3
  ·next h i n' xs hi2=>
   split at k3
   ·next hg=>
    rw[aqW]at hg
    cases eq_of_beq hg.1
    have ru2:eG X.K g2 H2 (.ref a) (obj h0'):=Rep.weak (.obj (r2.tb ha))
    obtain⟨a',C',dx',fs',l',us',eh,n1,n2,nl,hb',ea,d1,d2,d3,d4,d5,d6,p1,p3,p4,p5,p6⟩:=Uh co I2.wok ru2 hi2
    cases ea
    have el:l'=l:=ari (p6.symm.trans (r2.tb l6))
    subst el
    obtain⟨gr,I3⟩:=abA (us':=us'++[v]) (ys:=xs++[d]) I2 n1 n2 hb' d1 d2 d3 d6 p1 p4 p6 (p5.append (.cons rv .nil))
    refine⟨l',us',v,rfl,rfl,p3,sz_lt (by rw[p5.length];exact of_decide_eq_true hg.2),?_⟩
    exact k3 σ _ g2 (((Gr.ex e1).trans r2).trans gr) I3
   ·exact False.elim k3
  ·exact False.elim k3
 ·exact False.elim k2
def Rm(f:Str)(o fi e:QF):SF:=fun M ρ=>((e M ρ).at M).then ρ fun d _=>((o M ρ).at M).then ρ fun od _=>match Fb M f od with
 |some (h,i,n,xs)=>((fi M ρ).at M).then ρ fun k _=>match k with
  |.int k=>match ixN xs.length k with
   |some j=>.next ρ (M.set h (i.put f (.lst n (xs.set j d))))
   |none=>.bad
  |_=>.bad
 |none=>.bad
theorem agJ{i:Expr}{fi fe:QF}(co:jK X.K aj)(ho:QW aj X W o fo)(hb:baseOk o=true)(he:QE aj X W e fe)(hi:QE aj X W i fi)
  (ha:∀v,assign (.Subscript (.Attribute o f p1) i spos) X.env v=(do
   let ov ←holding [v] (eval (.Attribute o f p1) X.env)
   let iv ←holding [v,ov] (eval i X.env)
   standAt spos
   holding [v,ov,iv] (setItem ov iv v)
   release [v,ov,iv] []))
  (hs:swapsWithSole [.Subscript (.Attribute o f p1) i spos] e pos.line X.env=pure false) (h1:(assignEach [.Subscript (.Attribute o f p1) i spos] X.env).map (·.2)=[assign (.Subscript (.Attribute o f p1) i spos) X.env]):SE aj X W false (.Assign [.Subscript (.Attribute o f p1) i spos] e pos) (Rm f fo fi fe):=by
 have h0:=pe_fld (X:=X) (pos:=p1) (f:=f) ho (mW hb)
 refine PS.weak (ps_asg he (pg_sub h0 hi set_list ha) hs (by with_unfolding_all rfl) h1) fun D σ H ⟨g,ρ,M,I,z⟩=>?_
 unfold Rm at z
 have k1:=Out.ju (dB (σ:=σ) z)
 refine tQ.go I (k1.mono (fun _ y=>y) fun x y H' c dd ex rx=>y H' _ c dd (Gr.ex ex) (I.ex ex) rx) fun d v H1 k2 e1 rv=>?_
 have I1:=I.ex e1
 have k2:=Out.ju (dB (σ:=σ) k2)
 refine tW.go I1 (k2.mono (fun _ y=>y) fun x y H' c dd ex rx=>y H' _ c dd ((Gr.ex e1).trans (Gr.ex ex)) (I1.ex ex) rx) fun od u H2 k3 e2 ru=>?_
 have I2:=I1.ex e2
 have e12:=e1.trans e2
 split at k3
 ·next h i' n xs hl=>
  obtain⟨a,C,dx,fs,l,us,rfl,m1,m2,ml,ha',rfl,c1,c2,c3,c4,c5,c6,l1,l3,l4,l5,l6⟩:=Uh co I2.wok ru hl
  refine⟨a,C,dx,fs,.ref l,rfl,c2,c4,c5,l1,?_⟩
  have k3:=Out.ju (dB (σ:=σ) k3)
  refine tQ.go I2 (k3.mono (fun _ y=>y) fun x y H' c dd ex rx=>y H' _ c dd ((Gr.ex e12).trans (Gr.ex ex)) (I2.ex ex) rx) fun k w H3 k4 e3 rw'=>?_
  have I3:=I2.ex e3
  cases k with
  |int k=>
   simp only at k4
   split at k4
   ·next j hj=>
    cases rw'
    obtain⟨gr,I4⟩:=abA (us':=us.set j v) (ys:=xs.set j d) I3 m1 m2 ha' c1 (e3 _ _ c2) (c3.ex e3 I2.kd) c6 l1 l4 l6 (((l5.ex e3 I2.kd).set ((rv.ex e2 I1.kd).ex e3 I2.kd) j))
    refine⟨l,us,k,j,rfl,rfl,e3 _ _ l3,by rw[l5.length];exact hj,?_⟩
    exact k4 σ _ g ((Gr.ex (e12.trans e3)).trans gr) I4
   ·exact False.elim k4
  |_=>exact False.elim k4
 ·exact False.elim k3
def R8(ft:Ft)(f:Str)(o e:QF):SF:=fun M ρ=>((o M ρ).at M).then ρ fun od _=>match kJ M od with
 |some (h,i)=>match i.fs.lookup f,ft.has i.cls f&&decide (i.fs.length < 100) with
  |some (.dat (.int a)),true=>((e M ρ).at M).then ρ fun d _=>match d with
   |.int b=>.next ρ (M.set h (i.put f (.dat (.int (a+b)))))
   |_=>.bad
  |_,_=>.bad
 |none=>.bad
theorem aeP:InOp X .Add (fun x y H Q=>∃i j,x=.int i/\y=.int j/\Q (.int (i+j)) H):=by
 intro pins s σ H x y u v Q I rx ry h
 obtain⟨i,j,rfl,rfl,q⟩:=h
 exact iop_add pins s σ H _ _ u v Q I rx ry ⟨i,j,rfl,rfl,q⟩
theorem ahj{fe:QF}{tpos:Pos}(co:jK X.K aj)(fk:LR ft aj)(ho:QW aj X W o fo)(he:QE aj X W e fe):SE aj X W false (.AugAssign (.Attribute o f tpos) .Add e pos) (R8 ft f fo fe):=by
 refine PS.weak (ps_fldaug ho he aeP) fun D σ H ⟨g,ρ,M,I,z⟩=>?_
 unfold R8 at z
 have k1:=Out.ju (dB (σ:=σ) z)
 refine tW.go I (k1.mono (fun _ y=>y) fun x y H' c dd ex rx=>y H' _ c dd (Gr.ex ex) (I.ex ex) rx) fun od u H1 k2 e1 ru=>?_
 have I1:=I.ex e1
 split at k2
 ·next h i hi=>
  split at k2
  ·next b hlk hb=>
   rw[aqW]at hb
   obtain⟨a,C,dx,fs,_,m1,m2,ha,rfl,c1,c2,c3,c4,c5,c6⟩:=Hr co fk I1.wok ru hi hb.1
   obtain⟨v,l1,l2⟩:=c3.get hlk
   refine⟨a,C,dx,fs,v,rfl,c2,c4,c5,l1,?_⟩
   have k2:=Out.ju (dB (σ:=σ) k2)
   refine tQ.go I1 (k2.mono (fun _ y=>y) fun x y H' c dd ex rx=>y H' _ c dd ((Gr.ex e1).trans (Gr.ex ex)) (I1.ex ex) rx) fun d w H2 k3 e2 rd=>?_
   have I2:=I1.ex e2
   cases d with
   |int j=>
    cases rd
    have l2:Rep X.K g H1 v (.int b):=l2
    cases l2
    refine⟨b,j,rfl,rfl,dx,fs,e2 _ _ c2,?_,?_⟩
    ·have:=of_decide_eq_true hb.2
     rw[c3.len]
     omega
    ·have ch:=U3 (f:=f) (C:=C) (dx:=dx) (fs':=putF f (.int (b+j)) fs) I2.kd I2.wok ha m1 m2
     have w':=I2.wok.chg I2.kd ch ha m1 m2 c6 c1 (c3.ex e2 I1.kd) upd_same (v:=.int (b+j)) (fl:=.dat (.int (b+j))) (show Rep X.K g _ _ _ from .int _)
     exact k3 σ _ g ((Gr.ex (e1.trans e2)).trans ch.gc.gr) (I2.chg ch w')
   |_=>exact False.elim k3
  ·exact False.elim k2
 ·exact False.elim k2
end
mutual
def uz:Dat->Option NestedKey
 |.none=>some .none
 |.int i=>some (.num i)
 |.str x=>some (.text x)
 |.tuple ds=>(xU ds).map .tup
 |.bool _=>none
 |.list _=>none
 |.dict _=>none
def xU:List Dat->Option (List NestedKey)
 |[]=>some []
 |d::ds=>(uz d).bind fun k=>(xU ds).bind fun ks=>some (k::ks)
end
mutual
theorem Ay:∀{d:Dat} {k:NestedKey},uz d=some k->k.data=d
 |.none,_,h=>by cases h;rfl
 |.int i,_,h=>by cases h;rfl
 |.str x,_,h=>by cases h;rfl
 |.tuple ds,_,h=>by
  rw[uz,arF]at h
  obtain⟨ks,h1,rfl⟩:=h
  rw[NestedKey.data,Rx h1]
theorem Rx:∀{ds:List Dat} {ks:List NestedKey},xU ds=some ks->NestedKey.datas ks=ds
 |[],_,h=>by cases h;rfl
 |d::ds,_,h=>by
  rw[xU]at h
  obtain⟨k,h1,h⟩:=aqU.mp h
  obtain⟨ks,h2,h⟩:=aqU.mp h
  cases h
  rw[NestedKey.datas,Ay h1,Rx h2]
end
mutual
theorem abx:∀a b:NestedKey,PyData.eqv a.data b.data=NestedKey.beq a b
 |.none,.none=>by simp[NestedKey.data,PyData.eqv,NestedKey.beq]
 |.none,.num _=>by simp[NestedKey.data,PyData.eqv,NestedKey.beq]
 |.none,.text _=>by simp[NestedKey.data,PyData.eqv,NestedKey.beq]
 |.none,.tup _=>by simp[NestedKey.data,PyData.eqv,NestedKey.beq]
 |.num _,.none=>by simp[NestedKey.data,PyData.eqv,NestedKey.beq]
 |.num a,.num b=>by simp[NestedKey.data,PyData.eqv,NestedKey.beq];rfl
 |.num _,.text _=>by simp[NestedKey.data,PyData.eqv,NestedKey.beq]
 |.num _,.tup _=>by simp[NestedKey.data,PyData.eqv,NestedKey.beq]
 |.text _,.none=>by simp[NestedKey.data,PyData.eqv,NestedKey.beq]
 |.text _,.num _=>by simp[NestedKey.data,PyData.eqv,NestedKey.beq]
 |.text a,.text b=>by simp[NestedKey.data,PyData.eqv,NestedKey.beq];rfl
 |.text _,.tup _=>by simp[NestedKey.data,PyData.eqv,NestedKey.beq]
 |.tup _,.none=>by simp[NestedKey.data,PyData.eqv,NestedKey.beq]
 |.tup _,.num _=>by simp[NestedKey.data,PyData.eqv,NestedKey.beq]
 |.tup _,.text _=>by simp[NestedKey.data,PyData.eqv,NestedKey.beq]
 |.tup as,.tup bs=>by
  rw[NestedKey.data,NestedKey.data,PyData.eqv,NestedKey.beq]
  exact Yn as bs
theorem Yn:∀as bs:List NestedKey,PyData.eqvAll (NestedKey.datas as) (NestedKey.datas bs)=NestedKey.beqAll as bs
 |[],[]=>by simp[NestedKey.datas,PyData.eqvAll,NestedKey.beqAll]
 |[],_::_=>by simp[NestedKey.datas,PyData.eqvAll,NestedKey.beqAll]
 |_::_,[]=>by simp[NestedKey.datas,PyData.eqvAll,NestedKey.beqAll]
 |a::as,b::bs=>by
  rw[NestedKey.datas,NestedKey.datas,PyData.eqvAll,NestedKey.beqAll,abx a b,Yn as bs]
end
theorem aa3(a b:NestedKey):PyData.eqv a.data b.data=decide (a=b):=by rw[abx,NestedKey.decide_eq]
section
variable{X:Cx}{pins:List (Addr×Obj)}{σ:L2.St}{H:Hp}{s:Shared}{g:Gh}
mutual
theorem key_is(I:L2.Inv X pins σ H s):∀{v:V} {d:Dat} {k:NestedKey} {u:Value},Rep X.K g H v d->uz d=some k->RelV v u->NestedIs s.heap k u
 |_,_,_,u,.non,e,r=>by
  cases e
  obtain rfl:u=.none:=r
  exact .none
 |_,_,_,_,.int i,e,r=>by
  cases e
  obtain⟨t,rfl⟩:=r
  exact .int i t
 |_,_,_,_,.str x,e,r=>by
  cases e
  obtain⟨t,rfl⟩:=r
  exact .text x t
 |_,_,_,u,.tup (a:=a) h t,e,r=>by
  rw[uz,arF]at e
  obtain⟨ks,h1,rfl⟩:=e
  obtain rfl:u=.ref a:=r
  obtain⟨its,r1,⟨o,e1,c1,n,d1⟩,_⟩:=I.tuple h
  exact .tup e1 c1 d1 (by simpa using abn I t h1 r1)
 |_,_,_,_,.bl b,e,r=>by cases e
 |_,_,_,_,.lst _ _,e,r=>by cases e
 |_,_,_,_,.obj _,e,r=>by cases e
theorem abn(I:L2.Inv X pins σ H s):∀{vs:List V} {ds:List Dat} {ks:List NestedKey} {us:List Value},aM X.K g H vs ds->xU ds=some ks->Vals vs us->NestedAll s.heap ks us
 |_,_,_,_,.nil,e,r=>by
  cases e
  cases r
  exact .nil
 |_,_,_,_,.cons h t,e,r=>by
  rw[xU]at e
  obtain⟨k,h1,e⟩:=aqU.mp e
  obtain⟨ks,h2,e⟩:=aqU.mp e
  cases e
  cases r with
  |cons r1 r2=>exact .cons (key_is I h h1 r1) (abn I t h2 r2)
end
end
mutual
theorem abe:∀k:NestedKey,uz k.data=some k
 |.none=>rfl
 |.num _=>rfl
 |.text _=>rfl
 |.tup ks=>by rw[NestedKey.data,uz,Zh ks];rfl
theorem Zh:∀ks:List NestedKey,xU (NestedKey.datas ks)=some ks
 |[]=>rfl
 |k::ks=>by rw[NestedKey.datas,xU,abe k,Zh ks];rfl
end
def dhas:Bool->List (Dat×Dat)->Dat->Out Bool
 |false,kvs,.int i=>.ok (kvs.any fun p=>PyData.eqv p.1 (.int i))
 |true,kvs,.tuple ds=>match uz (.tuple ds) with
  |some k=>match decide (k.depth<=8) with
   |true=>.ok (kvs.any fun p=>PyData.eqv p.1 (.tuple ds))
   |false=>.bad
  |none=>.bad
 |_,_,_=>.bad
def zq(M:Mo)(f:Str)(d:Dat):Option (Nat×Inst×Bool×List (Dat×Dat)):=(kJ M d).bind fun p=>match p.2.fs.lookup f with
 |some (.dic b kvs)=>some (p.1,p.2,b,kvs)
 |_=>none
section
variable{aj:aR}{f:Str}
theorem Gz{K:aqV}{g:Gh}{H:Hp}{M:Mo}{d:Dat}{v:V}{h:Nat}{i:Inst}{b:Bool}{kvs:List (Dat×Dat)}(co:jK K aj)(w:gj K aj g H M)(r:eG K g H v d)(hi:zq M f d=some (h,i,b,kvs)) :
  ∃a C dx fs l,d=obj h/\M[h]?=some i/\i.cls≠""/\i.fs.lookup f=some (.dic b kvs)/\g.tbl[h]?=some a/\v=.ref a/\aj i.cls=some C/\H a=some (.ins C dx fs)/\cM K aj g H h fs i.fs/\Cls K C/\NoAttr K C f/\f∈aj.fl i.cls/\fs.lookup f=some (.ref l)/\g.ow l=some (h,f)/\jH K aj g H l b kvs:=by
 unfold zq at hi
 obtain⟨⟨h',i'⟩,h1,hi⟩:=aqU.mp hi
 split at hi
 ·next b' kvs' hl=>
  cases hi
  obtain⟨rfl,m1,m2⟩:=Ih h1
  obtain⟨a,rfl,ha⟩:=Km r
  obtain⟨C,dx,fs,c1,c2,c3⟩:=w.ins _ a _ ha m1 m2
  have hfl:=w.fd _ _ m1 f (lookup_mem hl)
  obtain⟨k1,k2⟩:=co _ C f c1 hfl
  obtain⟨u,l1,l,rfl,l3,l4⟩:=c3.get hl
  exact⟨a,C,dx,fs,l,rfl,m1,m2,hl,ha,rfl,c1,c2,c3,k1,k2,hfl,l1,l3,l4⟩
 ·cases hi
end
theorem Uq{kv:List (Key×V)}{i:Int}:∀{kvs:List (Dat×Dat)},kvs.map (·.1)=kv.map (fun p=>keyD p.1)->(kvs.any fun p=>PyData.eqv p.1 (.int i))=(valV kv (Sum.inl i)).isSome:=by
 induction kv with
 |nil=>
  intro kvs e
  cases kvs with
  |nil=>rfl
  |cons _ _=>cases e
 |cons p r ih=>
  intro kvs e
  cases kvs with
  |nil=>cases e
  |cons q t=>
   simp only[aqZ,List.cons.injEq]at e
   rw[arX,ih e.2,e.1]
   by_cases h:p.1=Sum.inl i
   ·rw[valV_pos h,h]
    simp[keyD,PyData.eqv]
   ·rw[valV_neg h]
    have:PyData.eqv (keyD p.1) (.int i)=false:=by
     cases hp:p.1 with
     |inl j=>
      have:j≠i:=fun z=>h (by rw[hp,z])
      simp[keyD,PyData.eqv,this]
     |inr x=>simp[keyD,PyData.eqv]
    rw[this,Bool.false_or]
theorem IK{xs:List m9}{k:NestedKey}:∀{kvs:List (Dat×Dat)},kvs.map (·.1)=xs.map (fun x=>x.1.data)->(kvs.any fun p=>PyData.eqv p.1 k.data)=(atKey xs k).isSome:=by
 induction xs with
 |nil=>
  intro kvs e
  cases kvs with
  |nil=>rfl
  |cons _ _=>cases e
 |cons p r ih=>
  intro kvs e
  cases kvs with
  |nil=>cases e
  |cons q t=>
   simp only[aqZ,List.cons.injEq]at e
   rw[arX,ih e.2,e.1,aa3]
   unfold atKey
   rw[List.find?_cons]
   cases hd:decide (p.1=k) with
   |true=>rfl
   |false=>rfl
theorem Ho{X:Cx}{pins:List (Addr×Obj)}{σ:L2.St}{H:Hp}{s:Shared}{g:Gh}{l:Addr}{o:Obj}{xs:List m9}{ks:List Dat}(I:L2.Inv X pins σ H s)(h1:H l=some (iT l o))(h2:lK X.w l o xs)(h3:ks=xs.map fun x=>x.1.data)(h4:aM X.K g H (xs.map fun x=>V.ref x.2.1) ks) :
  s.heap.DictOfH (nestedKind X.prog X.w) l xs:=by
 obtain⟨z1,_,_⟩:=(show ObjOk X.prog X.w H s.heap l (iT l o) from I.hok l _ h1)
 obtain⟨es,ep,e1,e2⟩:=h2.ent
 refine⟨o,es,ep,z1,h2.ex,e1,e2,fun x hx=>?_,h2.nd⟩
 refine⟨?_,h2.dep x hx⟩
 obtain⟨n,hn⟩:=List.mem_iff_getElem?.mp hx
 obtain⟨d,hd1,hd2⟩:=h4.get' (i:=n) (v:=V.ref x.2.1) (by rw[aq9,hn];rfl)
 rw[h3,aq9,hn]at hd1
 cases hd1
 exact key_is I hd2 (abe x.1) rfl
def rInD(X:Cx)(neg:Bool):R2:=fun x y H Q=>(∃l kv i,y=.ref l/\H l=some (.dK kv)/\x=.int i/\Q (.bl (neg ^^ (valV kv (Sum.inl i)).isSome)) H)∨
 ∃(l:Addr) (o:Obj) (xs:List m9) (g:Gh) (d:Dat) (b:Addr) (k:NestedKey),y=.ref l/\H l=some (iT l o)/\lK X.w l o xs/\aM X.K g H (xs.map fun x=>V.ref x.2.1) (xs.map fun x=>x.1.data)/\x=.ref b/\Rep X.K g H x d/\uz d=some k/\k.depth<=8/\Q (.bl (neg ^^ (atKey xs k).isSome)) H
section
variable{X:Cx}
theorem op_inD(hu:X.A.units+64 < cLine):OpR X (compareOp .In) (rInD X false):=by
 intro pins s σ H x y v u Q I rx ry h
 rcases h with⟨l,kv,i,rfl,hl,rfl,q⟩|⟨l,o,xs,g,d,b,k,rfl,h1,h2,h3,rfl,h4,h5,h6,q⟩
 ·obtain rfl:u=Value.ref l:=ry
  exact d_in (by omega) I (DGet.k (k:=Sum.inl i) hl) rx fun s' I'=>⟨.bl _,H,I',rfl,by simpa using q⟩
 ·obtain rfl:u=Value.ref l:=ry
  obtain rfl:v=Value.ref b:=rx
  refine wpAny_in_heap (knd:=nestedKind X.prog X.w) (k:=k) (show X.A.in1.units+8 < cLine by show X.A.units+1+8 < cLine;omega) ⟨key_is I h4 h5 rfl,h6⟩ h2.sys (Ho I h1 h2 rfl h3) ?_
  exact⟨.bl _,H,I.tok _,rfl,by simpa using q⟩
theorem op_notInD(hu:X.A.units+64 < cLine):OpR X (compareOp .NotIn) (rInD X true):=by
 intro pins s σ H x y v u Q I rx ry h
 rcases h with⟨l,kv,i,rfl,hl,rfl,q⟩|⟨l,o,xs,g,d,b,k,rfl,h1,h2,h3,rfl,h4,h5,h6,q⟩
 ·obtain rfl:u=Value.ref l:=ry
  exact d_notIn (by omega) I (DGet.k (k:=Sum.inl i) hl) rx fun s' I'=>⟨.bl _,H,I',rfl,by simpa using q⟩
 ·obtain rfl:u=Value.ref l:=ry
  obtain rfl:v=Value.ref b:=rx
  refine notIn_keyed (knd:=nestedKind X.prog X.w) (k:=k) (show X.A.in1.units+8 < cLine by show X.A.units+1+8 < cLine;omega) ⟨key_is I h4 h5 rfl,h6⟩ h2.sys ⟨xs,Ho I h1 h2 rfl h3,rfl⟩ ?_
  rw[valueAt_pairsH,Option.isSome_map]
  exact⟨.bl _,H,I.tok _,rfl,by simpa using q⟩
end
def Pb(neg:Bool)(f:Str)(k o:QF):QF:=fun M ρ=>(k M ρ).bind fun d=>(o M ρ).bind fun od=>match zq M f od with
 |some (_,_,b,kvs)=>(dhas b kvs d).bind fun r=>.ok (.bool (neg ^^ r))
 |none=>.bad
section
variable{X:Cx}{aj:aR}{W:WX}{o k:Expr}{f:Str}{pos p1:Pos}{fo fk:QF}{neg:Bool}{op:CmpOp}
theorem agk(co:jK X.K aj)(hw:aj.w=X.w)(σ:L2.St)(H:Hp)(Q:VK)(h:tQ X.K aj W (Pb neg f fk fo) σ H Q):tOp (rInD X neg) (tQ X.K aj W fk) (tFld X.K (tW X.K aj W fo) f) σ H Q:=by
 obtain⟨g,ρ,M,I,h⟩:=h
 refine tQ.go I h.bnd fun d v H1 h1 e1 r1=>?_
 have I1:=I.ex e1
 refine tW.go I1 (h1.bnd.mono (fun _ z=>z) fun _ z=>z.ex e1) fun od u H2 h2 e2 r2=>?_
 have I2:=I1.ex e2
 split at h2
 ·next hh i b kvs hd=>
  obtain⟨a,C,dx,fs,l,rfl,m1,m2,ml,ha,rfl,c1,c2,c3,c4,c5,c6,l1,l2,l3⟩:=Gz co I2.wok r2 hd
  refine⟨a,C,dx,fs,.ref l,rfl,c2,c4,c5,l1,?_⟩
  have r1':=r1.ex e2 I1.kd
  unfold dhas at h2
  split at h2
  ·next i'=>
   obtain⟨kv,k1,k2,k3⟩:=l3
   cases r1'
   refine .inl ⟨l,kv,i',rfl,k1,rfl,?_⟩
   rw[Uq k2]at h2
   exact h2 _ H2 (e1.trans e2) (.bl _)
  ·next ds=>
   split at h2
   ·next kk hk=>
    split at h2
    ·next hdep=>
     obtain⟨o',xs,vs,k1,k2,k3,k4,k5,k6⟩:=l3
     have ek:=Ay hk
     rw[←ek,IK k3]at h2
     rw[k3]at k4
     rw[hw]at k2
     cases r1' with
     | @tup b us _ hs ht=>exact .inr ⟨l,o',xs,g,_,b,kk,rfl,k1,k2,k4,rfl,.tup hs ht,hk,of_decide_eq_true hdep,h2 _ H2 (e1.trans e2) (.bl _)⟩
    ·exact False.elim h2
   ·exact False.elim h2
  ·exact False.elim h2
 ·exact False.elim h2
theorem ajC(co:jK X.K aj)(hw:aj.w=X.w)(hr:OpR X (compareOp op) (rInD X neg))(hk:QE aj X W k fk)(ho:QW aj X W o fo)(hb:baseOk o=true):QE aj X W (.Compare k [op] [.Attribute o f p1] pos) (Pb neg f fk fo):=
 PE.weak (pe_cmpR hr hk (pe_fld ho (mW hb)) (by cases op <;> rfl)) fun σ H Q h=>agk co hw σ H Q h
end
def DPx(X:Cx)(H:Hp)(a:Addr)(y v:V)(R:Hp->Prop):Prop:=(∃kvs i,H a=some (.dK kvs)/\y=.int i/\kvs.length < sizeLine/\R (upd H a (.dK (putK kvs (Sum.inl i) v))))∨
 ∃(o:Obj) (xs:List m9) (g:Gh) (d:Dat) (b:Addr) (k:NestedKey),H a=some (iT a o)/\lK X.w a o xs/\aM X.K g H (xs.map fun x=>V.ref x.2.1) (xs.map fun x=>x.1.data)/\y=.ref b/\Rep X.K g H y d/\uz d=some k/\k.depth<=8/\xs.length < sizeLine/\∀(o':Obj) (u:Value),RelV v u->lK X.w a o' (storedH xs k b u)->R (upd H a (iT a o'))
theorem Lr{P:Program}{w:World}{H:Hp}{h:Heap}{l:Addr}{o:Obj}(e:h.get? l=some o):ObjOk P w H h l (iT l o):=⟨e,⟨o,e⟩,fun _ _ e1 k=>k _ e1⟩
theorem aal{xs:List m9}{k:NestedKey}{b:Addr}{u:Value}:(storedH xs k b u).map (·.1)=if (atKey xs k).isSome then xs.map (·.1) else xs.map (·.1)++[k]:=by
 unfold storedH
 split
 ·rw[arw]
  refine List.map_congr_left fun x _=>?_
  show(putAt k u x).1=x.1
  unfold putAt
  split <;> rfl
 ·simp
theorem RW{xs:List m9}{k:NestedKey}{b:Addr}{u:Value}:(storedH xs k b u).length<=xs.length+1:=by
 unfold storedH
 split <;> simp
theorem R4{xs:List m9}{k:NestedKey}{b:Addr}{u:Value}(h:∀x∈xs,x.1.depth<=8)(hk:k.depth<=8):∀x∈storedH xs k b u,x.1.depth<=8:=fun x hx=>by
 have:x.1∈(storedH xs k b u).map (·.1):=aq8.mpr ⟨x,hx,rfl⟩
 rw[aal]at this
 have old:∀{z:NestedKey},z∈xs.map (·.1)->z.depth<=8:=fun {z} m=>by
  obtain⟨y,hy,rfl⟩:=aq8.mp m
  exact h y hy
 split at this
 ·exact old this
 ·rcases aq5.mp this with z|z
  ·exact old z
  ·rw[aq2.mp z]
   exact hk
section
variable{X:Cx}{o i value:Expr}{td ty tv:TE}{pos pos':Pos}
def anE(X:Cx)(td ty tv:TE):TS:=fun D σ H=>tv σ H fun v H1=>td σ H1 fun x H2=>ty σ H2 fun y H3=>∃a,x=.ref a/\DPx X H3 a y v fun H4=>D.nx σ H4
theorem afS(hu:X.A.units+64 < cLine)(ho:PE X o td)(hi:PE X i ty)(hv:PE X value tv)(hs:swapsWith value (some (.Subscript o i pos')) pos.line X.env=pure false):PS X (.Assign [.Subscript o i pos'] value pos) (anE X td ty tv):=by
 refine⟨fun pins s σ H D I h=>?_⟩
 refine wpAny_Assign_Subscript (thn (hv.run pins s σ H _ I h) fun r s1 ⟨v,H1,I1,rv,q1⟩=>thn (ho.run pins s1 σ H1 _ I1 q1) fun u s2 ⟨x,H2,I2,rx,q2⟩=>thn (hi.run pins s2 σ H2 _ I2 q2) fun iv s3 ⟨y,H3,I3,ry,a,ex,q3⟩=>?_) hs
 subst ex
 obtain rfl:u=Value.ref a:=rx
 rcases q3 with⟨kvs,j,h1,rfl,hl,q⟩|⟨ob,xs,g,d,b,k,h1,h2,h3,rfl,h4,h5,h6,hl,q⟩
 ·exact d_setItem (by omega) I3 (DPut.k (k:=Sum.inl j) h1 hl) ry rv fun s4 I4=>⟨σ,_,I4,q⟩
 ·obtain rfl:iv=Value.ref b:=ry
  refine wpAny_setItem_heap (knd:=nestedKind X.prog X.w) (k:=k) (hsz:=Nat.le_of_lt hl) (show X.A.in1.units+8 < cLine by show X.A.units+1+8 < cLine;omega) ⟨key_is I3 h4 h5 rfl,h6⟩ (Ho I3 h1 h2 rfl h3) fun h' dd hs'=>?_
  obtain⟨o',es,ep,g1,g2,g3,g4,g5,g6⟩:=dd
  have nd:lK X.w a o' (storedH xs k b r):=⟨h2.sys,g2,⟨es,ep,g3,g4⟩,g6,by have:=RW (xs:=xs) (k:=k) (b:=b) (u:=r);omega,R4 h2.dep h6⟩
  exact⟨σ,_,d_write I3 (by rw[h1];exact True.intro) hs' ⟨o',g1⟩ (Lr g1),q o' r rv nd⟩
end
theorem aM.back{K:aqV}{g:Gh}{H:Hp}{vs:List V}{ds:List Dat}{v:V}{d:Dat}(h:aM K g H vs ds)(r:Rep K g H v d):aM K g H (vs++[v]) (ds++[d]):=h.append (.cons r .nil)
theorem Ny{K:aqV}{aj:aR}{f:Str}{σ:L2.St}{ρ:Env}{g:Gh}{H:Hp}{M:Mo}{h:Nat}{i:Inst}{b:Bool}{kvs':List (Dat×Dat)}{a C dx l:Addr}{fs:List (Str×V)}{o':HO}(I:SInv K aj σ H g ρ M)(m1:M[h]?=some i)(m2:i.cls≠"")(ha:g.tbl[h]?=some a)(c1:aj i.cls=some C)(c2:H a=some (.ins C dx fs))(c3:cM K aj g H h fs i.fs)(hfl:f∈aj.fl i.cls)(l1:fs.lookup f=some (.ref l))(l4:g.ow l=some (h,f))(mu:Iz o')
  (new:Gr false g g H (upd H l o')->jH K aj g (upd H l o') l b kvs'):Gr false g g H (upd H l o')/\SInv K aj σ (upd H l o') g ρ (M.set h (i.put f (.dic b kvs'))):=by
 have ch:=ac4 (o':=o') I.kd I.wok l4 mu
 have nla:a≠l:=fun z=>by
  subst z
  rw[I.wok.tw h a i ha m1 m2]at l4
  cases l4
 have w':=I.wok.chg I.kd ch ha m1 m2 hfl c1 (dx:=dx) c3 (v:=.ref l) (fl:=.dic b kvs') (by rw[upd_ne nla,Mf l1];exact c2) ⟨l,rfl,l4,new ch.gc.gr⟩
 exact⟨ch.gc.gr,I.chg ch w'⟩
def Nr(f:Str)(o k e:QF):SF:=fun M ρ=>((e M ρ).at M).then ρ fun v _=>((o M ρ).at M).then ρ fun od _=>match zq M f od with
 |some (h,i,b,kvs)=>((k M ρ).at M).then ρ fun d _=>match dhas b kvs d,decide (kvs.length < 100000) with
  |.ok false,true=>.next ρ (M.set h (i.put f (.dic b (kvs++[(d,v)]))))
  |_,_=>.bad
 |none=>.bad
def M5(f:Str)(o k:QF):SF:=fun M ρ=>((o M ρ).at M).then ρ fun od _=>match zq M f od with
 |some (h,i,b,kvs)=>((k M ρ).at M).then ρ fun d _=>match dhas b kvs d,decide (kvs.length<=100000) with
  |.ok true,true=>.next ρ (M.set h (i.put f (.dic b (kvs.filter fun p=>!PyData.eqv p.1 d))))
  |_,_=>.bad
 |none=>.bad
theorem U4{kvs:List (Dat×Dat)}{b r:Bool}{d:Dat}(h:dhas b kvs d=.ok r):(kvs.any fun p=>PyData.eqv p.1 d)=r/\((b=false/\∃i,d=.int i)∨(b=true/\∃ds k,d=.tuple ds/\uz d=some k/\k.depth<=8)):=by
 unfold dhas at h
 split at h
 ·next i=>
  cases h
  exact⟨rfl,.inl ⟨rfl,i,rfl⟩⟩
 ·next ds=>
  split at h
  ·next k hk=>
   split at h
   ·next hd=>
    cases h
    exact⟨rfl,.inr ⟨rfl,ds,k,rfl,hk,of_decide_eq_true hd⟩⟩
   ·cases h
  ·cases h
 ·cases h
section
variable{X:Cx}{aj:aR}{W:WX}{o e i:Expr}{f:Str}{pos pos' p1:Pos}{fo fe fk:QF}
theorem ah0(co:jK X.K aj)(hw:aj.w=X.w)(hu:X.A.units+64 < cLine)(ho:QW aj X W o fo)(hb:baseOk o=true)(hk:QE aj X W i fk)(he:QE aj X W e fe)(hs:swapsWith e (some (.Subscript (.Attribute o f p1) i pos')) pos.line X.env=pure false) :
  SE aj X W false (.Assign [.Subscript (.Attribute o f p1) i pos'] e pos) (Nr f fo fk fe):=by
 refine PS.weak (afS hu (pe_fld ho (mW hb)) hk he hs) fun D σ H ⟨g,ρ,M,I,z⟩=>?_
 unfold Nr at z
 have k1:=Out.ju (dB (σ:=σ) z)
 refine tQ.go I (k1.mono (fun _ y=>y) fun x y H' c dd ex rx=>y H' _ c dd (Gr.ex ex) (I.ex ex) rx) fun d v H1 k2 e1 rv=>?_
 have I1:=I.ex e1
 have k2:=Out.ju (dB (σ:=σ) k2)
 refine tW.go I1 (k2.mono (fun _ y=>y) fun x y H' c dd ex rx=>y H' _ c dd ((Gr.ex e1).trans (Gr.ex ex)) (I1.ex ex) rx) fun od u H2 k3 e2 ru=>?_
 have I2:=I1.ex e2
 have e12:=e1.trans e2
 split at k3
 ·next h i' b kvs hl=>
  obtain⟨a,C,dx,fs,l,rfl,m1,m2,ml,ha,rfl,c1,c2,c3,c4,c5,c6,l1,l2,l3⟩:=Gz co I2.wok ru hl
  refine⟨a,C,dx,fs,.ref l,rfl,c2,c4,c5,l1,?_⟩
  have k3:=Out.ju (dB (σ:=σ) k3)
  refine tQ.go I2 (k3.mono (fun _ y=>y) fun x y H' c dd ex rx=>y H' _ c dd ((Gr.ex e12).trans (Gr.ex ex)) (I2.ex ex) rx) fun kd w H3 k4 e3 rk=>?_
  have I3:=I2.ex e3
  have l3':=l3.ex e3 I2.kd
  have rv3:=(rv.ex e2 I1.kd).ex e3 I2.kd
  refine⟨l,rfl,?_⟩
  split at k4
  ·next hh hz=>
   obtain⟨ha2,hcase⟩:=U4 hh
   have hz:=of_decide_eq_true hz
   rcases hcase with⟨rfl,j,rfl⟩|⟨rfl,ds,kk,rfl,hkk,hdep⟩
   ·obtain⟨kv,q1,q2,q3⟩:=l3'
    cases rk
    have hlen:kv.length=kvs.length:=by
     have:=congrArg List.length q2
     simpa using this.symm
    rw[Uq q2]at ha2
    have hn:valV kv (Sum.inl j)=none:=by
     cases hv:valV kv (Sum.inl j) with
     |none=>rfl
     |some _=>rw[hv]at ha2;cases ha2
    refine .inl ⟨kv,j,q1,rfl,sz_lt (by rw[hlen];exact hz),?_⟩
    rw[putK_new v hn]
    obtain⟨gr,I4⟩:=Ny (b:=false) (kvs':=kvs++[(.int j,d)]) (o':=.dK (kv++[(Sum.inl j,v)])) I3 m1 m2 ha c1 (e3 _ _ c2) (c3.ex e3 I2.kd) c6 l1 l2 trivial fun gr=>⟨_,upd_same,by simp[q2,keyD],by
     rw[arC,arC]
     exact(q3.gr gr I3.kd).back (rv3.gr gr I3.kd)⟩
    exact k4 σ _ g ((Gr.ex (e12.trans e3)).trans gr) I4
   ·obtain⟨o',xs,vs,q1,q2,q3,q4,q5,q6⟩:=l3'
    have hlen:xs.length=kvs.length:=by
     have:=congrArg List.length q3
     simpa using this.symm
    have ek:=Ay hkk
    rw[←ek,IK q3]at ha2
    have hn:atKey xs kk=none:=by
     cases hv:atKey xs kk with
     |none=>rfl
     |some _=>rw[hv]at ha2;cases ha2
    have q4':=q4
    rw[q3]at q4'
    rw[hw]at q2
    cases rk with
    | @tup bb us _ hs' ht=>
     refine .inr ⟨o',xs,g,_,bb,kk,q1,q2,q4',rfl,.tup hs' ht,hkk,hdep,sz_lt (by rw[hlen];exact hz),fun o2 u2 ru2 nd=>?_⟩
     rw[storedH_new hn]at nd
     obtain⟨gr,I4⟩:=Ny (b:=true) (kvs':=kvs++[(.tuple ds,d)]) (o':=iT l o2) I3 m1 m2 ha c1 (e3 _ _ c2) (c3.ex e3 I2.kd) c6 l1 l2 trivial fun gr=>⟨o2,xs++[(kk,bb,u2)],vs++[v],upd_same,by rw[hw];exact nd,by simp[q3,ek],by
      rw[arC,arC]
      exact(q4.gr gr I3.kd).back ((Rep.tup hs' ht).gr gr I3.kd),by
      rw[arC]
      exact q5.append (.cons ru2 .nil),by
      rw[arC]
      exact(q6.gr gr I3.kd).back (rv3.gr gr I3.kd)⟩
     exact k4 σ _ g ((Gr.ex (e12.trans e3)).trans gr) I4
  ·exact False.elim k4
 ·exact False.elim k3
end
section
variable{X:Cx}{o i:Expr}{td ty:TE}{pos tpos:Pos}
def amX(X:Cx)(td ty:TE):TS:=fun D σ H=>td σ H fun x H2=>ty σ H2 fun y H3=>∃a,x=.ref a/\((∃kvs i,H3 a=some (.dK kvs)/\y=.int i/\(valV kvs (Sum.inl i)).isSome=true/\D.nx σ (upd H3 a (.dK (dropK kvs (Sum.inl i)))))∨
 ∃(o:Obj) (xs:List m9) (g:Gh) (d:Dat) (b:Addr) (k:NestedKey),H3 a=some (iT a o)/\lK X.w a o xs/\aM X.K g H3 (xs.map fun x=>V.ref x.2.1) (xs.map fun x=>x.1.data)/\y=.ref b/\Rep X.K g H3 y d/\uz d=some k/\k.depth<=8/\(atKey xs k).isSome=true/\∀(o':Obj),lK X.w a o' (withoutH xs k)->D.nx σ (upd H3 a (iT a o')))
theorem afp(hu:X.A.units+64 < cLine)(ho:PE X o td)(hi:PE X i ty):PS X (.Delete [.Subscript o i tpos] pos) (amX X td ty):=by
 refine⟨fun pins s σ H D I h=>?_⟩
 refine wpAny_Delete (wpAny_deleteEach_cons (wpAny_delete_Subscript (thn (ho.run pins s σ H _ I h) fun u s1 ⟨x,H1,I1,rx,q1⟩=>thn (hi.run pins s1 σ H1 _ I1 q1) fun iv s2 ⟨y,H2,I2,ry,a,ex,q2⟩=>?_)))
 subst ex
 obtain rfl:u=Value.ref a:=rx
 rcases q2 with⟨kvs,j,h1,rfl,hl,q⟩|⟨ob,xs,g,d,b,k,h1,h2,h3,rfl,h4,h5,h6,hl,q⟩
 ·exact d_delItem (k:=Sum.inl j) I2 h1 ry hl fun s3 I3=>wpAny_deleteEach_nil ⟨σ,_,I3,q⟩
 ·obtain rfl:iv=Value.ref b:=ry
  obtain⟨p,hp⟩:=Option.isSome_iff_exists.mp hl
  refine wpAny_delItem_heap (knd:=nestedKind X.prog X.w) (k:=k) (hsz:=h2.len) (show X.A.in1.units+8 < cLine by show X.A.units+1+8 < cLine;omega) ⟨key_is I2 h4 h5 rfl,h6⟩ h2.sys (Ho I2 h1 h2 rfl h3) hp fun h' dd hs'=>?_
  obtain⟨o',es,ep,g1,g2,g3,g4,g5,g6⟩:=dd
  have nd:lK X.w a o' (withoutH xs k):=⟨h2.sys,g2,⟨es,ep,g3,g4⟩,g6,ars (ark _ _) h2.len,fun x hx=>h2.dep x (arh.mp hx).1⟩
  exact wpAny_deleteEach_nil ⟨σ,_,d_write I2 (by rw[h1];exact True.intro) hs' ⟨o',g1⟩ (Lr g1),q o' nd⟩
end
theorem Qe{α β:Type}(f:α->β)(c:α->Bool):∀l:List α,(((l.map f).zip l).filter fun p=>c p.2).map (·.1)=(l.filter c).map f
 |[]=>rfl
 |a::l=>by
  rw[aqZ,arv,arx,arx]
  cases c a
  ·exact Qe f c l
  ·simp only[if_true,aqZ,Qe f c l]
theorem agn{K:aqV}{g:Gh}{H:Hp}(kk:NestedKey):∀{xs:List m9} {vs:List V} {kvs:List (Dat×Dat)},kvs.map (·.1)=xs.map (fun x=>x.1.data)->aM K g H (xs.map fun x=>V.ref x.2.1) (kvs.map (·.1))->Vals vs (xs.map (·.2.2))->aM K g H vs (kvs.map (·.2))->
  ∃vs',(kvs.filter fun p=>!PyData.eqv p.1 kk.data).map (·.1)=(withoutH xs kk).map (fun x=>x.1.data)/\aM K g H ((withoutH xs kk).map fun x=>V.ref x.2.1) ((kvs.filter fun p=>!PyData.eqv p.1 kk.data).map (·.1))/\Vals vs' ((withoutH xs kk).map (·.2.2))/\aM K g H vs' ((kvs.filter fun p=>!PyData.eqv p.1 kk.data).map (·.2))
 |[],_,[],_,_,.nil,_=>⟨[],rfl,.nil,.nil,.nil⟩
 |[],_,_::_,h,_,_,_=>by cases h
 |_::_,_,[],h,_,_,_=>by cases h
 |x::xs,_,q::qs,h1,.cons r1 t1,.cons w1 w2,.cons r2 t2=>by
  simp only[aqZ,List.cons.injEq]at h1
  obtain⟨vs',i1,i2,i3,i4⟩:=agn kk h1.2 t1 w2 t2
  have hq:(!PyData.eqv q.1 kk.data)=decide (x.1≠kk):=by
   rw[h1.1,aa3]
   by_cases hz:x.1=kk <;> simp[hz]
  unfold withoutH
  rw[arx,arx,hq]
  cases hb:decide (x.1≠kk) with
  |true=>exact⟨_::vs',by simp only[if_true,aqZ,h1.1];exact congrArg _ i1,by simp only[if_true,aqZ];exact .cons r1 i2,by simp only[if_true,aqZ];exact .cons w1 i3,by simp only[if_true,aqZ];exact .cons r2 i4⟩
  |false=>
   simp only[arp,if_false]
   exact⟨vs',i1,i2,i3,i4⟩
theorem ajG{K:aqV}{g:Gh}{H:Hp}{α:Type}(c:α->Bool)(key:α->Dat)(dd:Dat->Bool):∀{vs:List V} {kvs:List (Dat×Dat)} {xs:List α},(∀x∈xs,c x=dd (key x))->kvs.map (·.1)=xs.map key->vs.length=xs.length->aM K g H vs (kvs.map (·.2))->
  (kvs.filter fun p=>dd p.1).map (·.1)=(xs.filter c).map key/\aM K g H (((vs.zip xs).filter fun p=>c p.2).map (·.1)) ((kvs.filter fun p=>dd p.1).map (·.2))
 |[],[],[],_,_,_,_=>⟨rfl,.nil⟩
 |[],[],_::_,_,h,_,_=>by cases h
 |[],_::_,_,_,_,_,h=>by cases h
 |_::_,[],_,_,_,_,h=>by cases h
 |_::_,_::_,[],_,h,_,_=>by cases h
 |u::us,q::qs,x::xs,hc,hk,hl,.cons h t=>by
  simp only[aqZ,List.cons.injEq]at hk
  have hq:=hc x aq1
  rw[←hk.1]at hq
  obtain⟨i1,i2⟩:=ajG c key dd (fun y hy=>hc y (aq0 _ hy)) hk.2 (asj hl) t
  rw[arv,arx,arx,arx,hq]
  cases hb:dd q.1 with
  |true=>exact⟨by simp only[if_true,aqZ,i1,hk.1],by simp only[if_true,aqZ];exact .cons h i2⟩
  |false=>exact⟨by simpa using i1,by simpa using i2⟩
section
variable{X:Cx}{aj:aR}{W:WX}{o i:Expr}{f:Str}{pos tpos p1:Pos}{fo fk:QF}
theorem agY(co:jK X.K aj)(hw:aj.w=X.w)(hu:X.A.units+64 < cLine)(ho:QW aj X W o fo)(hb:baseOk o=true)(hk:QE aj X W i fk):SE aj X W false (.Delete [.Subscript (.Attribute o f p1) i tpos] pos) (M5 f fo fk):=by
 refine PS.weak (afp hu (pe_fld ho (mW hb)) hk) fun D σ H ⟨g,ρ,M,I,z⟩=>?_
 unfold M5 at z
 have k2:=Out.ju (dB (σ:=σ) z)
 refine tW.go I (k2.mono (fun _ y=>y) fun x y H' c dd ex rx=>y H' _ c dd (Gr.ex ex) (I.ex ex) rx) fun od u H2 k3 e2 ru=>?_
 have I2:=I.ex e2
 split at k3
 ·next h i' b kvs hl=>
  obtain⟨a,C,dx,fs,l,rfl,m1,m2,ml,ha,rfl,c1,c2,c3,c4,c5,c6,l1,l2,l3⟩:=Gz co I2.wok ru hl
  refine⟨a,C,dx,fs,.ref l,rfl,c2,c4,c5,l1,?_⟩
  have k3:=Out.ju (dB (σ:=σ) k3)
  refine tQ.go I2 (k3.mono (fun _ y=>y) fun x y H' c dd ex rx=>y H' _ c dd ((Gr.ex e2).trans (Gr.ex ex)) (I2.ex ex) rx) fun kd w H3 k4 e3 rk=>?_
  have I3:=I2.ex e3
  have l3':=l3.ex e3 I2.kd
  refine⟨l,rfl,?_⟩
  split at k4
  ·next hh hz=>
   obtain⟨ha2,hcase⟩:=U4 hh
   rcases hcase with⟨rfl,j,rfl⟩|⟨rfl,ds,kk,rfl,hkk,hdep⟩
   ·obtain⟨kv,q1,q2,q3⟩:=l3'
    cases rk
    rw[Uq q2]at ha2
    refine .inl ⟨kv,j,q1,rfl,ha2,?_⟩
    have hf:=fun(H':Hp)(r:aM X.K g H' (kv.map (·.2)) (kvs.map (·.2)))=>ajG (K:=X.K) (g:=g) (H:=H') (fun p:Key×V=>decide (p.1≠Sum.inl j)) (fun p=>keyD p.1) (fun z=>!PyData.eqv z (.int j)) (vs:=kv.map (·.2)) (kvs:=kvs) (xs:=kv) (fun x _=>by
     cases hx:x.1 with
     |inl z=>by_cases hz:z=j <;> simp[keyD,PyData.eqv,hz]
     |inr z=>simp[keyD,PyData.eqv]) q2 (by simp) r
    have ez:(((kv.map (·.2)).zip kv).filter fun p=>decide (p.2.1≠Sum.inl j)).map (·.1)=(dropK kv (Sum.inl j)).map (·.2):=Qe (·.2) (fun p:Key×V=>decide (p.1≠Sum.inl j)) kv
    obtain⟨gr,I4⟩:=Ny (b:=false) (kvs':=kvs.filter fun p=>!PyData.eqv p.1 (.int j)) (o':=.dK (dropK kv (Sum.inl j))) I3 m1 m2 ha c1 (e3 _ _ c2) (c3.ex e3 I2.kd) c6 l1 l2 trivial fun gr=>⟨_,upd_same,(hf _ (q3.gr gr I3.kd)).1,by
     rw[←ez]
     exact(hf _ (q3.gr gr I3.kd)).2⟩
    exact k4 σ _ g ((Gr.ex (e2.trans e3)).trans gr) I4
   ·obtain⟨o',xs,vs,q1,q2,q3,q4,q5,q6⟩:=l3'
    have ek:=Ay hkk
    rw[←ek,IK q3]at ha2
    rw[hw]at q2
    have q4':=q4
    rw[q3]at q4'
    cases rk with
    | @tup bb us _ hs' ht=>
     refine .inr ⟨o',xs,g,_,bb,kk,q1,q2,q4',rfl,.tup hs' ht,hkk,hdep,ha2,fun o2 nd=>?_⟩
     obtain⟨gr,I4⟩:=Ny (b:=true) (kvs':=kvs.filter fun p=>!PyData.eqv p.1 (.tuple ds)) (o':=iT l o2) I3 m1 m2 ha c1 (e3 _ _ c2) (c3.ex e3 I2.kd) c6 l1 l2 trivial fun gr=>by
      obtain⟨vs',i1,i2,i3,i4⟩:=agn kk q3 (q4.gr gr I3.kd) q5 (q6.gr gr I3.kd)
      rw[ek]at i1 i2 i4
      exact⟨o2,withoutH xs kk,vs',upd_same,by rw[hw];exact nd,i1,i2,i3,i4⟩
     exact k4 σ _ g ((Gr.ex (e2.trans e3)).trans gr) I4
  ·exact False.elim k4
 ·exact False.elim k3
end
def ItD(l:Addr)(o:Obj)(xs:List m9):It:=
 ⟨fun i H=>H l=some (iT l o)/\i < xs.length,fun i H x H'=>H'=H/\∃e,xs[i]?=some e/\x=.ref e.2.1,fun i H=>H l=some (iT l o)/\xs.length<=i⟩
theorem pin_at{X:Cx}{pins:List (Addr×Obj)}{σ:L2.St}{H:Hp}{s:Shared}{l:Addr}{o:Obj}(I:L2.Inv X pins σ H s)(h:H l=some (iT l o)):s.heap.get? l=some o:=(show ObjOk X.prog X.w H s.heap l (iT l o) from I.hok l _ h).1
theorem lK.at{w:World}{l:Addr}{o:Obj}{xs:List m9}{es:Array DictEntry}{ep:Nat}(n:lK w l o xs)(h:o.data=.dict es ep):es.size=xs.length/\∀(i:Nat) (e:m9),xs[i]?=some e->∃en,es[i]?=some en/\en.key=.ref e.2.1:=by
 obtain⟨es',ep',h1,h2⟩:=n.ent
 rw[h]at h1
 cases h1
 refine⟨?_,fun i e hi=>⟨adQ w e,?_,rfl⟩⟩
 ·have:=congrArg List.length h2
  simpa using this
 ·rw[←arO,h2,aq9,hi]
  rfl
theorem alL{P:Program}{w:World}{K:aqV}{tg:Expr}{l:Addr}{o:Obj}{xs:List m9}{es:Array DictEntry}{ep:Nat}(it:Addr)(n:lK w l o xs)(hod:o.data=.dict es ep):Turn P w K tg (ItD l o xs) [it] it (fun i h=>h.IsKeyIter it l i xs.length ep) where
 mem:=aq2.mpr rfl
 obj:=fun i h st b hb=>by
  cases aq2.mp hb
  obtain⟨oi,e,c,dd⟩:=st
  refine⟨oi,e,fun v z=>?_⟩
  rw[dd]at z
  cases z
 keep:=fun i h h' st k=>st.at (k it (aq2.mpr rfl))
 item:=by
  intro X hP hw hK hc i pins s σ H E I hf st hg
  subst hP hw hK
  obtain⟨g0,g1,g2,g3,g4,g5⟩:=hf it (aq2.mpr rfl)
  obtain⟨sz,ent⟩:=n.at hod
  have hlt:i < xs.length:=hg.2
  have hx:xs[i]?=some xs[i]:=aqY hlt
  obtain⟨en,e1,e2⟩:=ent i _ hx
  refine next_key_item st (pin_at I hg.1) hod sz e1 ?_
  intro h' st' sb
  have J:L2.Inv X pins σ H { s with heap:=h' }:=I.turned (t':=s.toks) (fun b ob hb e=>(sb.2 b hb).trans e) g0 g1 g3 g4 g5
  obtain⟨oi,a1,a2,a3⟩:=id st'
  exact⟨en.key,rfl,go_of (s:={ s with heap:=h' }) a1 a2 a3 (by decide) ⟨.ref xs[i].2.1,H,J,e2,⟨rfl,_,hx,rfl⟩,st',fun b hb=>(hf b hb).1⟩⟩
 done:=by
  intro X hP hw hK hc i pins s σ H E I hf st hg
  subst hP hw hK
  obtain⟨g0,g1,g2,g3,g4,g5⟩:=hf it (aq2.mpr rfl)
  exact next_key_end (I.ok.hd hc) st (pin_at I hg.1) hod (n.at hod).1 hg.2 fun h' eb=>⟨rfl,I.turned (t':=s.toks) (fun b ob hb e=>eb b ob hb e) g0 g1 g3 g4 g5⟩
 self:=fun A i s Q E st h=>by
  refine wpAny_pyIter_slot st.typeIs PySem.F.slot_dict_keyiterator_iter (wpAny_call_entry PySem.F.slot_dict_keyiterator_iter st.typeIs PySem.F.entry_dict_keyiterator_iter ?_ (PySem.F.args_dict_keyiterator_iter_1 _))
  exact wpAny_pure ⟨_,rfl,"dict_keyiterator",_,st.typeIs,PySem.F.slot_dict_keyiterator_next.lookup,h⟩
def am1(X:Cx)(td:TE):TI:=fun σ H R=>td σ H fun x H1=>∃l o xs,x=.ref l/\H1 l=some (iT l o)/\lK X.w l o xs/\R (ItD l o xs) H1
theorem aiW{X:Cx}{tg e:Expr}{td:TE}(he:PE X e td):PI X tg e (am1 X td):=by
 constructor
 intro pins s σ H R I h
 refine thn (he.run pins s σ H _ I h) ?_
 rintro u s1 ⟨x,H1,I1,rx,l,o,xs,rfl,hl,n,q⟩
 obtain rfl:u=Value.ref l:=rx
 obtain⟨es,ep,hd,_⟩:=n.ent
 refine iter_keys n.sys (pin_at I1 hl) n.ex hd (pi_one (tk:=s1.toks) I1 _ (alL _ n hd) ⟨_,Heap.get?_push_size _ rfl,rfl,?_⟩ q)
 rw[(n.at hd).1] <;> rfl
theorem agI{K:aqV}{aj:aR}{l:Addr}{o:Obj}{xs:List m9}{ks:List Dat}:JT K (ItD l o xs) (fun g H=>H l=some (iT l o)/\aM K g H (xs.map fun x=>V.ref x.2.1) ks) ks where
 go:=fun g i H c hi=>⟨c.1,by have:=c.2.length;simp at this;omega⟩
 yld:=fun g i H x H' d k c e y=>by
  obtain⟨rfl,en,h1,rfl⟩:=y
  obtain⟨v,h2,h3⟩:=c.2.get e
  rw[aq9,h1]at h2
  cases h2
  exact⟨Ex.refl _,h3⟩
 stop:=fun g i H c e=>⟨c.1,by have:=c.2.length;simp at this;omega⟩
 ex:=fun g H H' k c e=>⟨e _ _ c.1,c.2.ex e k⟩
 add:=fun g g' H H' k c r e=>⟨e _ _ c.1,c.2.gr r k⟩
def Dj(f:Str)(o:QF):IF:=fun M ρ=>(o M ρ).bind fun od=>match zq M f od with
 |some (_,_,true,kvs)=>.ok (kvs.map (·.1))
 |_=>.bad
def CG(f:Str)(o:QF):QF:=fun M ρ=>(o M ρ).bind fun od=>match zq M f od with
 |some (_,_,_,kvs)=>.ok (.list (kvs.map (·.1)))
 |none=>.bad
section
variable{X:Cx}{aj:aR}{W:WX}{o tg:Expr}{f:Str}{pos p p1:Pos}{fo:QF}
theorem afV(co:jK X.K aj)(hw:aj.w=X.w)(ho:QW aj X W o fo)(hb:baseOk o=true):QI aj X W false tg (.Attribute o f p1) (Dj f fo):=by
 have h0:=aiW (tg:=tg) (pe_fld (X:=X) (pos:=p1) (f:=f) ho (mW hb))
 refine⟨fun pins s σ H R I h=>h0.run pins s σ H R I ?_⟩
 obtain⟨g,ρ,M,J,h⟩:=h
 unfold Dj at h
 refine tW.go J h.bnd fun od u H1 k2 e1 ru=>?_
 have J1:=J.ex e1
 split at k2
 ·next h i kvs hl=>
  obtain⟨a,C,dx,fs,l,rfl,m1,m2,ml,ha,rfl,c1,c2,c3,c4,c5,c6,l1,l2,o',xs,vs,q1,q2,q3,q4,q5,q6⟩:=Gz co J1.wok ru hl
  rw[hw]at q2
  exact⟨a,C,dx,fs,.ref l,rfl,c2,c4,c5,l1,l,o',xs,rfl,q1,q2,k2 _ _ H1 e1 (agI (aj:=aj)) ⟨q1,q4⟩ fun z=>nomatch z⟩
 ·exact False.elim k2
end
theorem aeZ{P:Program}{w:World}{A:Around}{l I:Addr}{o:Obj}{xs:List m9}{es:Array DictEntry}{ep:Nat}(hh:A.handled=none)(hne:l≠I)(n:lK w l o xs)(hd:o.data=.dict es ep):Walks P w A I [I,l] [I] xs.length (fun i v=>∃e,xs[i]?=some e/\v=Value.ref e.2.1) (fun i h=>h.IsKeyIter I l i xs.length ep/\h.get? l=some o) where
 sub:=fun b hb=>by simp at hb;simp[hb]
 frame:=fun i h h' st k=>⟨st.1.at (k I (by simp)),k l (by simp) o st.2⟩
 item:=fun i s Q E hi st hQ=>by
  obtain⟨sz,ent⟩:=n.at hd
  have hx:xs[i]?=some xs[i]:=aqY hi
  obtain⟨en,e1,e2⟩:=ent i _ hx
  refine next_key_item st.1 st.2 hd sz e1 ?_
  intro h' st' sb
  exact hQ en.key h' s.toks ⟨_,hx,e2⟩ ⟨st',(sb.2 l hne).trans st.2⟩ fun b ob hb e=>(sb.2 b fun z=>hb (by simp[z])).trans e
 done:=fun s Q E st hQ=>next_key_end hh st.1 st.2 hd (n.at hd).1 (aro _) fun h' eb=>hQ h' s.toks fun b ob hb e=>eb b ob (fun z=>hb (by simp[z])) e
 self:=fun i s Q E st hQ=>wpAny_pyIter_keyiter st.1 hQ
theorem agR{P:Program}{w:World}{l:Addr}{o:Obj}{xs:List m9}(n:lK w l o xs):PySem.W.KdlSrc P w "dict" l l xs.length (fun i v=>∃e,xs[i]?=some e/\v=Value.ref e.2.1) (fun h=>h.get? l=some o) where
 type:=fun s e=>⟨o,e,n.ex.1⟩
 there:=fun h e=>⟨Heap.lt_size e,Heap.lt_size e⟩
 keep:=fun h h' e k=>k l (.inl rfl) o e
 notList:=by decide
 notTuple:=by decide
 hint:=fun A E s Q e hq=>PySem.W.kdl_hint_dict ⟨o,e,n.ex.1⟩ hq
 iter:=fun A s hh e=>by
  obtain⟨es,ep,hd,_⟩:=n.ent
  refine⟨_,_,fun E Q hq=>iter_keys n.sys e n.ex hd hq,aeZ hh (arE (Heap.lt_size e)) n hd,⟨_,Heap.get?_push_size _ rfl,rfl,?_⟩,Heap.get?_push_of_some _ e⟩
  rw[(n.at hd).1] <;> rfl
def acW(X:Cx):List V->Hp->VK->Prop:=fun xs H Q=>(∃p kvs,xs=[.ref p]/\H p=some (.dK kvs)/\∀q,H q=none->Q (.ref q) (upd H q (.lst (kvs.map fun kv=>kV kv.1))))∨∃p o es,xs=[.ref p]/\H p=some (iT p o)/\lK X.w p o es/\∀q,H q=none->Q (.ref q) (upd H q (.lst (es.map fun e=>V.ref e.2.1)))
theorem acB{X:Cx}(hc:X.calm=true):CallR X (.type "list") (acW X):=by
 intro pins s σ H xs us Q I r h
 rcases h with h|⟨p,o,es,rfl,hp,n,q⟩
 ·exact call_list_dK hc pins s σ H xs us Q I r h
 ·obtain⟨u,rfl,rx⟩:=vals1 r
  obtain rfl:u=Value.ref p:=rx
  refine PySem.W.kdl_call (agR n) (I.ok.hd hc) (pin_at I hp) n.len ?_
  intro h' tk acc c' keep hS hacc
  have el:acc.toList.length=es.length:=by
   rw[arD]
   exact hacc.1
  refine⟨.ref s.heap.objs.size,upd H s.heap.objs.size (.lst (es.map fun e=>V.ref e.2.1)),I.laid keep (aro _) (show ObjOk X.prog X.w _ _ _ (.lst (es.map fun e=>V.ref e.2.1)) from⟨by rw[aq7];exact n.len,acc.toList,c',?_,?_⟩),rfl,q _ (I.hok.fresh (aro _))⟩
  ·refine vals_of_at (by rw[aq7,el]) fun j x w h1 h2=>?_
   obtain⟨e,he,rfl⟩:=hacc.2 j w (by rw[←arO];exact h2)
   rw[aq9,he]at h1
   cases h1
   rfl
  ·rw[Array.toArray_toList]
   exact hS
section
variable{X:Cx}{aj:aR}{W:WX}{o e:Expr}{f:Str}{pos p p1 pos':Pos}{fo:QF}
theorem Y4{K:aqV}{g:Gh}{H:Hp}:∀{kv:List (Key×V)} {kvs:List (Dat×Dat)},kvs.map (·.1)=kv.map (fun p=>keyD p.1)->aM K g H (kv.map fun p=>kV p.1) (kvs.map (·.1))
 |[],[],_=>.nil
 |[],_::_,h=>by cases h
 |_::_,[],h=>by cases h
 |a::kv,b::kvs,h=>by
  simp only[aqZ,List.cons.injEq]at h
  rw[aqZ,aqZ,h.1]
  refine .cons ?_ (Y4 h.2)
  cases a.1 with
  |inl i=>exact .int i
  |inr x=>exact .str x
theorem aeS(co:jK X.K aj)(hw:aj.w=X.w)(σ:L2.St)(H:Hp)(Q:VK)(h:tQ X.K aj W (CG f fo) σ H Q):tFld X.K (tW X.K aj W fo) f σ H fun x H1=>acW X [x] H1 Q:=by
 obtain⟨g,ρ,M,J,h⟩:=h
 unfold CG at h
 refine tW.go J h.bnd fun od u H1 k2 e1 ru=>?_
 have J1:=J.ex e1
 split at k2
 ·next h i b kvs hl=>
  obtain⟨a,C,dx,fs,l,rfl,m1,m2,ml,ha,rfl,c1,c2,c3,c4,c5,c6,l1,l2,l3⟩:=Gz co J1.wok ru hl
  refine⟨a,C,dx,fs,.ref l,rfl,c2,c4,c5,l1,?_⟩
  cases b with
  |false=>
   obtain⟨kv,q1,q2,q3⟩:=l3
   exact .inl ⟨l,kv,rfl,q1,fun q nq=>k2 (.ref q) _ (e1.trans (Ex.new nq)) (.lst (.inl ⟨.inl upd_same,J1.kd.fresh nq⟩) (Y4 q2))⟩
  |true=>
   obtain⟨o',xs,vs,q1,q2,q3,q4,q5,q6⟩:=l3
   rw[hw]at q2
   exact .inr ⟨l,o',xs,rfl,q1,q2,fun q nq=>k2 (.ref q) _ (e1.trans (Ex.new nq)) (.lst (.inl ⟨.inl upd_same,J1.kd.fresh nq⟩) (q4.ex (Ex.new nq) J1.kd))⟩
 ·exact False.elim k2
theorem ae8(co:jK X.K aj)(hw:aj.w=X.w)(hc:X.calm=true)(hg:Gl X "list")(hm:X.mg "list"=none)(ho:QW aj X W o fo)(hb:baseOk o=true):QE aj X W (.Call (.Name "list" p) [.Attribute o f p1] [] pos) (CG f fo):=by
 have h1:=pa_cons (pe_fld (X:=X) (pos:=p1) (f:=f) ho (mW hb)) pa_nil (cD rfl [])
 have hv:BV (.type "list") "list":=⟨by decide +kernel,by decide,by decide⟩
 refine PE.weak (pe_callTy (pos:=pos) (p:=p) (acB hc) hg hm hv.1 h1 hv.2.1 hv.2.2 (cD rfl []) (by with_unfolding_all rfl)) fun σ H Q h=>?_
 exact aeS co hw σ H Q h
def Nf(ft:Ft)(o:QF)(f:Str)(b:Bool):SF:=fun M ρ=>((o (M++[⟨"",[]⟩]) ρ).at (M++[⟨"",[]⟩])).then ρ fun od M2=>match kJ M2 od with
 |some (h,i)=>match ft.has i.cls f&&decide (i.fs.length < 100) with
  |true=>.next ρ (M2.set h (i.put f (.dic b [])))
  |false=>.bad
 |none=>.bad
def al6(X:Cx)(b:Bool):TE:=fun _ H Q=>∀p,H p=none->match b with
 |false=>Q (.ref p) (upd H p (.dK []))
 |true=>∀o,lK X.w p o []->Q (.ref p) (upd H p (iT p o))
theorem aia{b:Bool}:PE X (.Dict [] [] pos) (al6 X b):=by
 cases b with
 |false=>exact PE.weak pe_dnewK fun σ H Q h p np=>h p np
 |true=>
  refine⟨fun pins s σ H Q I h=>wpAny_Dict_empty ?_⟩
  have hz:(s.heap.push { cls:=.type "dict",data:=.dict #[] }).get? s.heap.objs.size=some { cls:=.type "dict",data:=.dict #[] }:=Heap.get?_push_size _ rfl
  have hs:(s.heap.objs.size==sysModules)=false:=beq_eq_false_iff_ne.mpr (Ne.symm (arE I.big))
  exact⟨.ref s.heap.objs.size,_,I.laid (a:=s.heap.objs.size) (o:=iT s.heap.objs.size _) (t':=s.toks) (fun _ _ q=>Heap.get?_push_of_some _ q) (aro _) (Lr hz),rfl,h _ (I.hok.fresh (aro _)) _ ⟨hs,⟨rfl,rfl,rfl⟩,⟨#[],0,rfl,rfl⟩,List.nodup_nil,arK _,fun x hx=>absurd hx arB⟩⟩
theorem agV{ft:Ft}{b:Bool}(co:jK X.K aj)(fk:LR ft aj)(hw:aj.w=X.w)(ho:QW aj X W o fo)(hs:swapsWith (.Dict [] [] p) (some (.Attribute o f pos')) pos.line X.env=pure false):SE aj X W false (.Assign [.Attribute o f pos'] (.Dict [] [] p) pos) (Nf ft fo f b):=by
 refine PS.weak (ps_fld ho (aia (b:=b)) hs) fun D σ H ⟨g,ρ,M,I,z⟩=>?_
 have core:∀(l:Addr) (ob:HO),H l=none->Iz ob->(∀(g':Gh) (H':Hp),H' l=some ob->jH X.K aj g' H' l b [])->tW X.K aj W fo σ (upd H l ob) (fun x H2=>∃a C dx fs,x=.ref a/\H2 a=some (.ins C dx fs)/\Cls X.K C/\NoAttr X.K C f/\fs.length < 1000/\D.nx σ (upd H2 a (.ins C dx (putF f (.ref l) fs)))):=by
  intro l ob nl mu at'
  obtain⟨gr,I1,tb,ow,mm⟩:=Ln I nl (Ex.new nl) upd_same mu
  unfold Nf at z
  have k1:=Out.ju (dB (σ:=σ) z)
  refine tW.go I1 (k1.mono (fun _ y=>y) fun x y H' c dd ex rx=>y H' _ c dd (gr.trans (Gr.ex ex)) (I1.ex ex) rx) fun od u H2 k2 e2 ru=>?_
  have I2:=I1.ex e2
  split at k2
  ·next h i hi=>
   split at k2
   ·next hb=>
    rw[aqW]at hb
    obtain⟨a,C,dx,fs,_,m1,m2,ha,rfl,c1,c2,c3,c4,c5,c6⟩:=Hr co fk I2.wok ru hi hb.1
    have nla:l≠a:=fun z=>by
     subst z
     cases I2.wok.inj _ _ _ ha tb
     rw[mm]at m1
     cases m1
     exact m2 rfl
    refine⟨a,C,dx,fs,rfl,c2,c4,c5,?_,?_⟩
    ·have:=of_decide_eq_true hb.2
     rw[c3.len]
     omega
    ·have ch:=U5 (f:=f) (C:=C) (dx:=dx) (fs':=putF f (.ref l) fs) I2.kd I2.wok ha m1 m2 tb mm ow
     have w':=I2.wok.chg I2.kd ch ha m1 m2 c6 c1 c3 upd_same (v:=.ref l) (fl:=.dic b []) ⟨l,rfl,if_pos rfl,at' _ _ (by rw[upd_ne nla];exact e2 _ _ upd_same)⟩
     exact k2 σ _ _ ((gr.trans (Gr.ex e2)).trans ch.gc.gr) (I2.chg ch w')
   ·exact False.elim k2
  ·exact False.elim k2
 intro l nl
 cases b with
 |false=>exact core l _ nl trivial fun g' H' h=>⟨[],h,rfl,.nil⟩
 |true=>exact fun ob nd=>core l _ nl trivial fun g' H' h=>⟨ob,[],[],h,by rw[hw];exact nd,rfl,.nil,.nil,.nil⟩
end
def akY(X:Cx)(D:Addr)(vs:List Nat)(g:TG)(tk:TE)(σ:L2.St)(Nx:Hp->Prop)(x:V)(H:Hp):Prop:=
 g x (L2.wipe σ vs) H fun σ2 H2=>L2.wipe σ2 vs=L2.wipe σ vs/\tk σ2 H2 fun y H4=>∃(o:Obj) (xs:List m9) (gg:Gh) (d:Dat) (b:Addr) (k:NestedKey),y=.ref b/\H4 D=some (iT D o)/\lK X.w D o xs/\aM X.K gg H4 (xs.map fun x=>V.ref x.2.1) (xs.map fun x=>x.1.data)/\Rep X.K gg H4 y d/\uz d=some k/\k.depth<=8/\xs.length < sizeLine/\
  ∀o',lK X.w D o' (storedH xs k b (.bool true))->Nx (upd H4 D (iT D o'))
def ajs(X:Cx)(wi:TI)(g:TG)(tk:TE)(vs:List Nat):TE:=fun σ H Q=>wi σ H fun J H1=>∀D,H1 D=none->∃W:Nat->Nat->Hp->Prop,(∃m,∀o,lK X.w D o []->W 0 m (upd H1 D (iT D o)))/\
 ∀i m H,W i m H->(J.stop i H/\Q (.ref D) H)∨(J.go i H/\∃Nx:Hp->Prop,(∀H',Nx H'->∃m',m' < m/\W (i+1) m' H')/\∀x H',J.yld i H x H'->akY X D vs g tk σ Nx x H')
section
variable{X:Cx}
theorem afA{pins:List (Addr×Obj)}{σ:L2.St}{H:Hp}{s:Shared}{E:Value->Shared->Prop}{D b:Addr}{o:Obj}{xs:List m9}{gg:Gh}{d:Dat}{k:NestedKey}{u:Value}{Q:Unit->Shared->Prop}(hu:X.A.units+64 < cLine)(I:L2.Inv X pins σ H s)(hD:H D=some (iT D o))(n:lK X.w D o xs)(hr:aM X.K gg H (xs.map fun x=>V.ref x.2.1) (xs.map fun x=>x.1.data))(hk:Rep X.K gg H (.ref b) d)(hd:uz d=some k)(h8:k.depth<=8)(hz:xs.length < sizeLine)(ru:RelV (.bl true) u)
  (q:∀s' o',lK X.w D o' (storedH xs k b (.bool true))->L2.Inv X pins σ (upd H D (iT D o')) s'->Q () s'):wpAny (model X.prog X.w) X.A (dictSet D (.ref b) u) Q E s:=by
 obtain rfl:u=.bool true:=ru
 refine wpAny_dictSet_heap (knd:=nestedKind X.prog X.w) (k:=k) (hsz:=Nat.le_of_lt hz) (show X.A.units+8 < cLine by omega) ⟨key_is I hk hd rfl,h8⟩ (Ho I hD n rfl hr) ?_
 intro h' dd hs'
 obtain⟨o',es,ep,g1,g2,g3,g4,g5,g6⟩:=dd
 have nd:lK X.w D o' (storedH xs k b (.bool true)):=⟨n.sys,g2,⟨es,ep,g3,g4⟩,g6,by have:=RW (xs:=xs) (k:=k) (b:=b) (u:=.bool true);omega,R4 n.dep h8⟩
 exact q _ o' nd (d_write I (by rw[hD];exact True.intro) hs' ⟨o',g1⟩ (Lr g1))
theorem ak7{kx tg iter:Expr}{scope:Scope}{own:List (PySem.Str×Nat)}{pos vp:Pos}{vj:Nat}{wi:TI}{g:TG}{tk:TE}(hc:X.calm=true)(hN:X.N.Nodup)(hu:X.A.units+64 < cLine)(hi:PI X tg iter wi)(ok:BlkOk X.N X.env.scope scope own)
  (hg:∀(t:Shared) (G:Hp) (C:Addr) (cl:List (PySem.Str×Addr)) (fp:List Addr),PG (X.blk t G scope (compEnvC scope cl C X.env) fp) tg g)
  (hk:∀(t:Shared) (G:Hp) (C:Addr) (cl:List (PySem.Str×Addr)) (fp:List Addr),PE (X.blk t G scope (compEnvC scope cl C X.env) fp) kx tk) (hs:∀x,foldedSetIterable iter X.env x=pure x) :
  PE X (.DictComp kx (.Constant (.bool true) vj vp) [⟨tg,iter,[],0⟩] scope pos) (ajs X wi g tk (own.map (·.2))):=by
 refine⟨fun pins s σ H Q I h=>?_⟩
 rw[arm_eval_DictComp]
 have cells:∀y∈scope.names,y.2=.free->∃c,X.env.cells.lookup y.1=some c:=fun y hy e=>(ok.free y hy e).elim (fun k=>I.ok.has _ (.inl k)) (fun k=>I.ok.has _ (.inr k))
 refine wpAny_comprehension_free rfl hs (closure_ok cells) ok.kind (fun y hy e=>by rw[ok.uniq y hy,e]) (thn (hi.run pins s σ H _ I h) fun _ _ hx=>thn hx fun itv t0 h0=>?_)
 obtain⟨it,fp,tn,J,G0,rfl,I0,T,st0,f0,q⟩:=h0
 refine wpAny_newObj_type (newEnv_comp ?_)
 -- the new dict,at D
 obtain⟨D,hD⟩:∃D,D=t0.heap.objs.size:=⟨_,rfl⟩
 rw[←hD]
 obtain⟨W,⟨m0,w00⟩,turn⟩:=q D (I0.hok.fresh (Nat.le_of_eq hD.symm))
 obtain⟨ob,hob⟩:∃ob:Obj,ob={ cls:=.type "dict",data:=.dict #[] }:=⟨_,rfl⟩
 have nd0:lK X.w D ob []:=by
  rw[hob]
  exact⟨by rw[hD];exact beq_eq_false_iff_ne.mpr (Ne.symm (arE I0.big)),⟨rfl,rfl,rfl⟩,⟨#[],0,rfl,rfl⟩,List.nodup_nil,arK _,fun x hx=>absurd hx arB⟩
 have w0:=w00 ob nd0
 rw[←hob]
 obtain⟨t1,ht1⟩:∃t1:Shared,t1={ t0 with heap:=t0.heap.push ob }:=⟨_,rfl⟩
 obtain⟨G1,hG1⟩:∃G1,G1=upd G0 D (iT D ob):=⟨_,rfl⟩
 rw[←hG1]at w0
 have grow:∀b o,t0.heap.get? b=some o->t1.heap.get? b=some o:=fun b o e=>by rw[ht1];exact Heap.get?_push_of_some _ e
 have I1:L2.Inv X pins σ G1 t1:=by
  rw[ht1,hG1]
  refine I0.laid (t':=t0.toks) (fun b o e=>Heap.get?_push_of_some _ e) (Nat.le_of_eq hD.symm) (Lr ?_)
  rw[hD]
  exact Heap.get?_push_size _ (by rw[hob];rfl)
 have small:∀b∈fp,b < t0.heap.objs.size:=fun b hb=>by
  obtain⟨o,e,_⟩:=T.obj _ _ st0 b hb
  exact Heap.lt_size e
 have f1:∀b∈fp,FpOk X pins G1 b/\b < t1.heap.objs.size:=fun b hb=>by
  have hlt:=small b hb
  refine⟨⟨?_,(f0 b hb).2⟩,by rw[ht1];show b < (t0.heap.push ob).objs.size;rw[Heap.size_push];exact arV hlt⟩
  rw[hG1,upd_ne (by rw[hD];exact arE hlt)]
  exact(f0 b hb).1
 have st1:tn 0 t1.heap:=T.keep _ _ _ st0 fun b _ o e=>grow b o e
 have I2:=block_start I1 ok hN f1
 have pg:=hg t1 G1 t1.heap.objs.size (cellsFrom (t1.heap.objs.size+1) scope.names (cloFrom X.env.cells scope.names [])) fp
 have pk:=hk t1 G1 t1.heap.objs.size (cellsFrom (t1.heap.objs.size+1) scope.names (cloFrom X.env.cells scope.names [])) fp
 have none1:∀b∈fp,G1 b=none:=fun b hb=>(f1 b hb).1.1
 rw[show({ t0 with heap:=t0.heap.push ob }:Shared)=t1 from ht1.symm]
 obtain⟨ce,hce⟩:∃ce,ce=compEnvC scope (cellsFrom (t1.heap.objs.size+1) scope.names (cloFrom X.env.cells scope.names [])) t1.heap.objs.size X.env:=⟨_,rfl⟩
 rw[←hce]at I2 pg pk
 have cL:ce.locals=t1.heap.objs.size:=by rw[hce];rfl
 obtain⟨t2,ht2⟩:∃t2:Shared,t2={ t1 with heap:=pushCells (t1.heap.push { cls:=.type "dict",data:=.dict #[] }) scope.names }:=⟨_,rfl⟩
 rw[←ht2]at I2
 have st2:tn 0 t2.heap:=T.keep _ _ _ st1 fun b _ o e=>by rw[ht2];exact pushCells_keeps _ _ _ _ (Heap.get?_push_of_some _ e)
 have still:∀{σ':L2.St} {G':Hp} {t':Shared},L2.Inv (X.blk t1 G1 scope ce fp) [] σ' G' t'->(∀b∈fp,G' b=none)->∀b∈fp,FpOk (X.blk t1 G1 scope ce fp) [] G' b:=fun I' hn b hb=>
  ⟨hn b hb,(I'.ok.exf b hb).1,I'.ok.exfs b hb,.inl hb,fun x c e=>(I'.ok.exf b hb).2 x c e,fun p hp=>absurd (show p∈([]:List (Addr×Obj))++[] from hp) (by simp)⟩
 have pt:PTs (X.blk t1 G1 scope ce fp) [] tYes:=pts_nil
 have pv:PE (X.blk t1 G1 scope ce fp) (.Constant (.bool true) vj vp) (tC (.bl true)):=pe_bl
 have loop:codeAny (model X.prog X.w) X.A (.compLoop (.DictComp kx (.Constant (.bool true) vj vp) [⟨tg,iter,[],0⟩] scope pos) 0 (.ref it) (.ref D) ce) (compPost (model X.prog X.w) X.A X.xe none (EP X pins σ Q) (.ref D) t1.heap.objs.size) t2:=by
  refine compLoop_anyD (fun n t'=>∃i G',L2.Inv (X.blk t1 G1 scope ce fp) [] (L2.wipe σ (own.map (·.2))) G' t'/\tn i t'.heap/\(∀b∈fp,G' b=none)/\W i n G') ?_ m0 ⟨0,G1,I2,st2,none1,w0⟩
  rintro n t3 ⟨i,G3,I3,st3,n3,w3⟩
  rcases turn i n G3 w3 with⟨stop,fin⟩|⟨go,Nx,hNx,step⟩
  ·refine thnF (T.done (X.blk t1 G1 scope ce fp) rfl rfl rfl hc i [] t3 _ G3 (fun _ _=>False) I3 (still I3 n3) st3 stop) fun r t4 ⟨hr,I4⟩=>?_
   subst hr
   have I5:L2.Inv X pins σ G3 t4:=I1.call' (ch:=fp) I4.os I4.base I4.hok I4.bare fun b hb=>⟨(f1 b hb).1.2.2.2.1,(f1 b hb).1.2.1,(f1 b hb).1.2.2.2.2.1,(f1 b hb).1.2.2.2.2.2⟩
   have nC:G3 t1.heap.objs.size=none:=by rw[←cL];exact I4.free
   obtain⟨m,hn,_⟩:=I4.loc
   have hn':t4.heap.Ns t1.heap.objs.size m:=by rw[←cL];exact hn
   obtain⟨a0,a1,_,a3,a4,a5⟩:=I1.fpOk (aro _) nC
   exact⟨m,hn',fun h'' sb=>⟨.ref D,G3,I5.turned (t':=t4.toks) (fun b o hb e=>(sb.2 b hb).trans e) a0 a1 a3 a4 a5,rfl,fin⟩⟩
  ·refine thnF (T.item (X.blk t1 G1 scope ce fp) rfl rfl rfl hc i [] t3 _ G3 (fun _ _=>False) I3 (still I3 n3) st3 go) fun r t4 ⟨u,hr,h4⟩=>?_
   subst hr
   refine thnF h4 fun _ t5 ⟨x,G5,I5,r5,y5,st5,n5⟩=>?_
   refine thnF (pg.run _ t5 _ G5 x u _ (I5.pinned (still I5 n5) (T.obj _ _ st5)) r5 (step x G5 y5)) fun _ t6 ⟨σ6,G6,I6,hw6,q6⟩=>?_
   refine thnF (pt.run _ t6 σ6 G6 (fun b G=>b=true/\G=G6) I6 ⟨rfl,rfl⟩) fun b t7 ⟨G7,I7,hb7,hG7⟩=>?_
   subst hb7 hG7
   have over:∀{t':Shared} {G':Hp},L2.Inv (X.blk t1 G1 scope ce fp) ([]++pinsAt fp t5.heap) σ6 G' t'->Nx G'->∃m,m < n/\∃i G',L2.Inv (X.blk t1 G1 scope ce fp) [] (L2.wipe σ (own.map (·.2))) G' t'/\tn i t'.heap/\(∀b∈fp,G' b=none)/\W i m G':=fun {t' G'} I' nx=>by
    obtain⟨m',hm,w'⟩:=hNx G' nx
    have pin:∀b∈fp,∀o,t5.heap.get? b=some o->t'.heap.get? b=some o/\G' b=none:=fun b hb o e=>
     let z:=I'.pin (b,o) (arH _ (arH _ (mem_pinsAt hb e)))
     ⟨z.1,z.2.1⟩
    refine⟨m',hm,i+1,G',(I'.unpinned (pins:=[])).weak (by rw[←hw6,wipe_length]) (fun j v e=>?_),T.keep _ _ _ st5 fun b hb o e=>(pin b hb o e).1,fun b hb=>?_,w'⟩
    ·rw[←hw6]at e
     exact(wipe_some e).1
    ·obtain⟨o,e,_⟩:=T.obj _ _ st5 b hb
     exact(pin b hb o e).2
   simp only[if_true]
   refine thnF (pk.run _ t7 σ6 _ _ I7 q6) fun z t8 ⟨yv,G8,I8,r8,o8,xs8,g8,d8,b8,k8,ey,hD8,n8,hr8,hk8,hd8,h88,hz8,nx⟩=>?_
   subst ey
   obtain rfl:z=Value.ref b8:=r8
   refine thnF (pv.run _ t8 σ6 G8 (fun v G=>v=.bl true/\G=G8) I8 ⟨rfl,rfl⟩) fun z2 t9 ⟨y9,G9,I9,r9,hv9,hG9⟩=>?_
   subst hv9 hG9
   exact afA (X:=X.blk t1 G1 scope ce fp) hu I9 hD8 n8 hr8 hk8 hd8 h88 hz8 r9 fun s' o' nd I10=>over I10 (nx o' nd)
 have done:=codeAny_compStart_dict loop (T.self X.A 0 _ _ _ st2 loop)
 rw[hce,ht2]at done
 subst hob
 exact done
end
def Ef(tg:fG)(tk:QF)(M:Mo)(ρ:Env):List Dat->List (Dat×Dat)->Out (List (Dat×Dat))
 |[],acc=>.ok acc
 |d::ds,acc=>match tg d ρ with
  |none=>.bad
  |some ρ1=>(xY (tk M ρ1)).bind fun kd=>(dhas true acc kd).bind fun r=>Ef tg tk M ρ ds (match r with
   |true=>acc
   |false=>acc++[(kd,.bool true)])
def qDc(it:IF)(tg:fG)(vs:List Nat)(tk:QF):Mo->Env->Out (List (Dat×Dat)):=fun M ρ=>(it M ρ).bind fun ds=>Out.when (decide (ds.length<=50000)) (Ef tg tk M (bR ρ vs) ds [])
def ak6(K:aqV)(aj:aR)(W:WX)(f:Mo->Env->Out (List (Dat×Dat))):TE:=fun σ H Q=>∃g ρ M,SInv K aj σ H g ρ M/\(f M ρ).sat (fun kvs=>∀l o H',H l=none->Ex H H'->H' l=some (iT l o)->jH K aj (g.add l) H' l true kvs->Q (.ref l) H') (qD K aj W g H σ)
section
variable{X:Cx}{aj:aR}{W:WX}
theorem Vr{tg:fG}{tk:QF}{M:Mo}{ρ:Env}:∀{ds:List Dat} {acc:List (Dat×Dat)} {x:eE},Ef tg tk M ρ ds acc≠.exc x
 |[],_,_,h=>nomatch h
 |d::ds,acc,x,h=>by
  rw[Ef]at h
  split at h
  ·cases h
  ·next ρ1 e=>
   cases h1:tk M ρ1 with
   |bad=>rw[h1]at h;cases h
   |exc y=>rw[h1]at h;cases h
   |ok kd=>
    rw[h1]at h
    have h:((dhas true acc kd).bind fun r=>Ef tg tk M ρ ds (match r with
     |true=>acc
     |false=>acc++[(kd,.bool true)]))=.exc x:=h
    cases h2:dhas true acc kd with
    |bad=>rw[h2]at h;cases h
    |exc y=>
     unfold dhas at h2
     split at h2
     ·cases h2
     ·split at h2
      ·split at h2 <;> cases h2
      ·cases h2
     ·cases h2
    |ok r=>
     rw[h2]at h
     exact Vr h
theorem afz{xs:List m9}{k:NestedKey}(h:∀x∈xs,x.2.2=.bool true):xs.map (putAt k (.bool true))=xs:=by
 have:∀x∈xs,putAt k (.bool true) x=x:=fun x hx=>by
  unfold putAt
  split
  ·obtain⟨a,b,c⟩:=x
   have:c=.bool true:=h _ hx
   rw[this]
  ·rfl
 calc xs.map (putAt k (.bool true))=xs.map id:=List.map_congr_left this
  _=xs:=List.map_id xs
theorem abm:∀{xs:List m9},(∀x∈xs,x.2.2=.bool true)->Vals (List.replicate xs.length (.bl true)) (xs.map (·.2.2))
 |[],_=>.nil
 |x::xs,h=>by
  rw[arb,List.replicate_succ,aqZ,h x aq1]
  exact .cons rfl (abm fun y hy=>h y (aq0 _ hy))
theorem aby{K:aqV}{g:Gh}{H:Hp}:∀{kvs:List (Dat×Dat)} {n:Nat},n=kvs.length->(∀p∈kvs,p.2=.bool true)->aM K g H (List.replicate n (.bl true)) (kvs.map (·.2))
 |[],_,h,_=>by subst h;exact .nil
 |p::kvs,_,e,h=>by
  subst e
  rw[arb,List.replicate_succ,aqZ,h p aq1]
  exact .cons (.bl true) (aby rfl fun y hy=>h y (aq0 _ hy))
theorem alm{it:IF}{tg:fG}{js vs:List Nat}{tk:QF}(hw:aj.w=X.w)(hj:∀j∈js,j∈vs)(σ:L2.St)(H:Hp)(Q:VK)(h:ak6 X.K aj W (qDc it tg vs tk) σ H Q) :
  ajs X (tI X.K aj W false it) (xK X.K aj js tg) (tQ X.K aj WF tk) vs σ H Q:=by
 obtain⟨g,ρ,M,I,h⟩:=h
 refine⟨g,ρ,M,I,h.bnd.mono (fun ds hk J C H1 e1 w c _ D nD=>?_) fun _ z=>z⟩
 obtain⟨hz,hk⟩:=hk.pC
 have hlen:=of_decide_eq_true hz
 obtain⟨total,htot,hQ⟩:∃total,Ef tg tk M (bR ρ vs) ds []=.ok total/\∀l o H',H l=none->Ex H H'->H' l=some (iT l o)->jH X.K aj (g.add l) H' l true total->Q (.ref l) H':=by
  cases hc:Ef tg tk M (bR ρ vs) ds [] with
  |bad=>rw[hc]at hk;exact False.elim hk
  |exc x=>exact absurd hc Vr
  |ok total=>
   rw[hc]at hk
   exact⟨total,rfl,hk⟩
 have I1:=(I.ex e1).wipe vs
 have kD:∀{Ha:Hp} {o:Obj},Ex H1 Ha->Ha D=some (iT D o)->SInv X.K aj (L2.wipe σ vs) Ha (g.add D) (bR ρ vs) M:=fun ea hu=>I1.add nD ea hu trivial
 let Pv:Nat->Hp->Prop:=fun i Ha=>Ex H1 Ha/\i<=ds.length/\∃o xs acc,Ha D=some (iT D o)/\lK X.w D o xs/\acc.map (·.1)=xs.map (fun x=>x.1.data)/\aM X.K (g.add D) Ha (xs.map fun x=>V.ref x.2.1) (acc.map (·.1))/\(∀x∈xs,x.2.2=.bool true)/\(∀p∈acc,p.2=.bool true)/\acc.length<=i/\Ef tg tk M (bR ρ vs) (ds.drop i) acc=.ok total
 refine⟨fun i m Ha=>m=ds.length - i/\Pv i Ha,⟨ds.length,fun o n0=>⟨rfl,Ex.new nD,arK _,o,[],[],upd_same,n0,rfl,.nil,fun x hx=>absurd hx arB,fun x hx=>absurd hx arB,aro _,by rw[ar7];exact htot⟩⟩,?_⟩
 rintro i m Ha ⟨rfl,ea,hi,o,xs,acc,hu,nd,hK,hR,hT,hA,hy,hs⟩
 have Ia:=kD ea hu
 have Ca:=w.add g (g.add D) H1 Ha (I.kd.ex e1) c (Gh.Dc nD ea) ea
 have lxs:xs.length=acc.length:=by
  have:=congrArg List.length hK
  simpa using this.symm
 by_cases hlt:i < ds.length
 ·refine .inr ⟨w.go _ i Ha Ca hlt,Pv (i+1),fun H' p=>⟨ds.length - (i+1),by omega,rfl,p⟩,fun x H' y=>?_⟩
  have hd:ds[i]?=some ds[i]:=aqY hlt
  obtain⟨e2,rx⟩:=w.yld _ i Ha x H' _ Ia.kd Ca hd y
  have I2:=Ia.ex e2
  rw[arN hlt,Ef]at hs
  split at hs
  ·cases hs
  ·next ρ1 he=>
   refine⟨g.add D,_,M,_,ρ1,I2,rx,he,fun ws I3=>⟨w6 js ws _ vs hj |>.trans (Ao σ vs),?_⟩⟩
   cases htk:tk M ρ1 with
   |bad=>rw[htk]at hs;cases hs
   |exc z=>rw[htk]at hs;cases hs
   |ok kd=>
    rw[htk]at hs
    have hs:((dhas true acc kd).bind fun r=>Ef tg tk M (bR ρ vs) (ds.drop (i+1)) (match r with
     |true=>acc
     |false=>acc++[(kd,.bool true)]))=.ok total:=hs
    refine⟨g.add D,ρ1,M,I3,?_⟩
    rw[htk]
    intro v H4 e4 ry
    have I4:=I3.ex e4
    have hu4:=e4 _ _ (e2 _ _ hu)
    have hR4:=(hR.ex e2 Ia.kd).ex e4 I2.kd
    cases hh:dhas true acc kd with
    |bad=>rw[hh]at hs;cases hs
    |exc z=>rw[hh]at hs;cases hs
    |ok r=>
     rw[hh]at hs
     obtain⟨ha2,hcase⟩:=U4 hh
     rcases hcase with⟨z,_⟩|⟨_,dd,kk,rfl,hkk,hdep⟩
     ·cases z
     ·have ek:=Ay hkk
      rw[←ek,IK hK]at ha2
      have hRx:=hR4
      rw[hK]at hRx
      cases ry with
      | @tup bb us _ hs' ht=>
       refine⟨o,xs,g.add D,_,bb,kk,rfl,hu4,nd,hRx,.tup hs' ht,hkk,hdep,sz_lt (by omega),fun o' nd'=>?_⟩
       have eD:Ex H1 (upd H4 D (iT D o')):=Ex.mut ((ea.trans e2).trans e4) nD
       have lD:(g.add D).Lo D:=.inr rfl
       have up:Gr true (g.add D) (g.add D) H4 (upd H4 D (iT D o')):=Gr.upd I4.kd hu4 (.inr lD)
       cases r with
       |true=>
        obtain⟨q,hq⟩:=Option.isSome_iff_exists.mp ha2
        rw[storedH_old hq,afz hT]at nd'
        exact⟨eD,hlt,o',xs,acc,upd_same,nd',hK,hR4.gr up I4.kd,hT,hA,by omega,hs⟩
       |false=>
        have hn:atKey xs kk=none:=by
         cases hv:atKey xs kk with
         |none=>rfl
         |some _=>rw[hv]at ha2;cases ha2
        rw[storedH_new hn]at nd'
        have hs:Ef tg tk M (bR ρ vs) (ds.drop (i+1)) (acc++[(.tuple dd,.bool true)])=.ok total:=hs
        refine⟨eD,hlt,o',xs++[(kk,bb,.bool true)],acc++[(.tuple dd,.bool true)],upd_same,nd',by simp[hK,ek],?_,?_,?_,by simp;omega,hs⟩
        ·rw[arC,arC]
         exact(hR4.gr up I4.kd).back ((Rep.tup hs' ht).gr up I4.kd)
        ·intro x hx
         rcases aq5.mp hx with z|z
         ·exact hT x z
         ·rw[aq2.mp z]
        ·intro x hx
         rcases aq5.mp hx with z|z
         ·exact hA x z
         ·rw[aq2.mp z]
 ·have e:i=ds.length:=by omega
  refine .inl ⟨w.stop _ i Ha Ca e,?_⟩
  rw[e,arT]at hs
  cases hs
  exact hQ D o Ha (yr e1 D nD) (e1.trans ea) hu ⟨o,xs,List.replicate xs.length (.bl true),hu,by rw[hw];exact nd,hK,hR,abm hT,aby lxs hA⟩
def Rk(ft:Ft)(o:QF)(f:Str)(e:Mo->Env->Out (List (Dat×Dat))):SF:=fun M ρ=>((e M ρ).at M).then ρ fun kvs _=>((o (M++[⟨"",[]⟩]) ρ).at (M++[⟨"",[]⟩])).then ρ fun od M2=>match kJ M2 od with
 |some (h,i)=>match ft.has i.cls f&&decide (i.fs.length < 100) with
  |true=>.next ρ (M2.set h (i.put f (.dic true kvs)))
  |false=>.bad
 |none=>.bad
end
theorem ZC{K:aqV}{g:Gh}{H:Hp}{l:Addr}{vs:List V}{ds:List Dat}(h:aM K (g.add l) H vs ds):aM K (g.push l) H vs ds:=aM.mv (g:=g.add l) (g':=g.push l) (fun h a z=>by
  have z:g.tbl[h]?=some a:=z
  show(g.tbl++[l])[h]?=some a
  rw[aq6 (aqX.mp z).1]
  exact z) (fun a z=>by
  rcases Y0 z with z|rfl
  ·rcases z with z|z|z
   ·exact .inl z
   ·exact .inr (.inl z)
   ·exact .inr (.inr (show g.Lo a∨a=l from Or.inl z))
  ·exact .inr (.inr (show g.Lo a∨a=a from Or.inr rfl))) h
section
variable{X:Cx}{aj:aR}{W:WX}{o e:Expr}{f:Str}{pos pos':Pos}{ft:Ft}{fo:QF}
theorem ag4{fe:Mo->Env->Out (List (Dat×Dat))}{te:TE}(co:jK X.K aj)(fk:LR ft aj)(ho:QW aj X W o fo)(he:PE X e te)(hte:∀σ H Q,ak6 X.K aj W fe σ H Q->te σ H Q)(hs:swapsWith e (some (.Attribute o f pos')) pos.line X.env=pure false):SE aj X W false (.Assign [.Attribute o f pos'] e pos) (Rk ft fo f fe):=by
 refine PS.weak (ps_fld ho he hs) fun D σ H ⟨g,ρ,M,I,z⟩=>hte σ H _ ⟨g,ρ,M,I,?_⟩
 unfold Rk at z
 cases hf:fe M ρ with
 |exc x=>rw[hf]at z;exact fun H' c dd e r=>z σ H' g c dd (Gr.ex e) (I.ex e) r.fr
 |bad=>rw[hf]at z;exact False.elim z
 |ok kvs=>
  rw[hf]at z
  intro l ob H1 nl e1 hl dic
  obtain⟨gr,I1,tb,ow,mm⟩:=Ln I nl e1 hl trivial
  have dic1:jH X.K aj (g.push l) H1 l true kvs:=by
   obtain⟨o',xs,vs,q1,q2,q3,q4,q5,q6⟩:=dic
   exact⟨o',xs,vs,q1,q2,q3,ZC q4,q5,ZC q6⟩
  have z:(((fo (M++[⟨"",[]⟩]) ρ).at (M++[⟨"",[]⟩])).then ρ fun od M2=>match kJ M2 od with
   |some (h,i)=>match ft.has i.cls f&&decide (i.fs.length < 100) with
    |true=>.next ρ (M2.set h (i.put f (.dic true kvs)))
    |false=>.bad
   |none=>.bad).sat (sN X.K aj false D.nx g H) (sR X.K aj false D.rt g H) (sN X.K aj false D.bk g H) (sN X.K aj false D.ct g H) (sX X.K aj W false g H):=z
  have k1:=Out.ju (dB (σ:=σ) z)
  refine tW.go I1 (k1.mono (fun _ y=>y) fun x y H' c dd ex rx=>y H' _ c dd (gr.trans (Gr.ex ex)) (I1.ex ex) rx) fun od u H2 k2 e2 ru=>?_
  have I2:=I1.ex e2
  split at k2
  ·next h i hi=>
   split at k2
   ·next hb=>
    rw[aqW]at hb
    obtain⟨a,C,dx,fs,_,m1,m2,ha,rfl,c1,c2,c3,c4,c5,c6⟩:=Hr co fk I2.wok ru hi hb.1
    have nla:l≠a:=fun z=>by
     subst z
     cases I2.wok.inj _ _ _ ha tb
     rw[mm]at m1
     cases m1
     exact m2 rfl
    refine⟨a,C,dx,fs,rfl,c2,c4,c5,?_,?_⟩
    ·have:=of_decide_eq_true hb.2
     rw[c3.len]
     omega
    ·have ch:=U5 (f:=f) (C:=C) (dx:=dx) (fs':=putF f (.ref l) fs) I2.kd I2.wok ha m1 m2 tb mm ow
     have w':=I2.wok.chg I2.kd ch ha m1 m2 c6 c1 c3 upd_same (v:=.ref l) (fl:=.dic true kvs) ⟨l,rfl,if_pos rfl,jH.chg ch.gc.gr I2.kd (upd_ne nla) (dic1.ex e2 I1.kd)⟩
     exact k2 σ _ _ ((gr.trans (Gr.ex e2)).trans ch.gc.gr) (I2.chg ch w')
   ·exact False.elim k2
  ·exact False.elim k2
end
end Rf
namespace Ear
open PySem PySem.Spec PyProof.Rows L2 Evl RZ
abbrev xZ(K:aqV)(H:Hp)(v:V)(r:Rw):Prop:=Dp K H v (rD r)
@[irreducible]def LC (K:aqV) (w:World):List V->Hp->VK->Prop:=fun vs H Q=>∃(l:Addr) (ws:List V) (R D:List Rw),vs=[V.ref l]/\SqL K H l ws/\fB (xZ K H) ws R/\D.length<=76/\(∀r∈R,r∈D)/\
 ∀(p:Addr) (L:List Ent),H p=none->(∀e∈L,xZ K H (.ref e.1) e.2)->(L.map Prod.snd).Nodup->(∀r,r∈L.map Prod.snd↔r∈R)->L.length<=76->Q (.ref p) (upd H p (M4 w p L))
@[irreducible]def Qq (K:aqV) (w:World):List V->Hp->VK->Prop:=fun vs H Q=>∃(a:Addr) (L:List Ent),vs=[V.ref a]/\H a=some (M4 w a L)/\(∀e∈L,xZ K H (.ref e.1) e.2)/\(L.map Prod.snd).Nodup/\L.length<=76/\
 ∀(ys:List V) (M:List Rw) (p:Addr),fB (xZ K H) ys M->VH M->(∀r,r∈M↔r∈L.map Prod.snd)->H p=none->Q (.ref p) (upd H p (.lst ys))
section
variable{X:Cx}
theorem ae1{pins:List (Addr×Obj)}{σ:L2.St}{H:Hp}{s:Shared}(I:Inv X pins σ H s){t:Addr}{r:Rw}(h:xZ X.K H (.ref t) r):RI s.heap r t:=by
 refine⟨?_,by rw[af2];decide⟩
 unfold xZ rD dT at h
 cases h with
 |tup h1 t1=>
  cases t1 with
  |cons a1 t1=>
   cases t1 with
   |cons a2 t1=>
    cases t1
    cases a1
    cases a2 with
    |tup h2 t2=>
     obtain⟨us,rv,⟨o,ho,hc,n,hd⟩,_⟩:=I.tuple h1
     obtain⟨us2,rv2,⟨o2,ho2,hc2,n2,hd2⟩,_⟩:=I.tuple h2
     refine .tup ho hc hd ?_
     cases rv with
     |cons r1 rv=>
      cases rv with
      |cons r2 rv=>
       cases rv
       obtain⟨tk,rfl⟩:=r1
       cases r2
       have e:∀{vs:List V} {l:List Int},DpAll X.K H vs (l.map PyData.int)->vs=l.map V.int:=by
        intro vs l
        induction l generalizing vs with
        |nil=>intro z;cases z;rfl
        |cons i l ih=>
         intro z
         cases z with
         |cons b1 b2=>
          cases b1
          rw[ih b2]
          rfl
       rw[e t2]at rv2
       exact .cons (.int r.1 tk) (.cons (.tup ho2 hc2 hd2 (by simpa using Wj (P:=X.prog) (w:=X.w) r.2 us2 rv2)) .nil)
theorem Q9{K:aqV}{H:Hp}:∀(ws:List V) (R:List Rw),fB (xZ K H) ws R->∃ks:List Ent,ws=(ks.map fun p=>V.ref p.1)/\ks.map Prod.snd=R/\∀p∈ks,xZ K H (.ref p.1) p.2
 |[],[],_=>⟨[],rfl,rfl,by simp⟩
 |[],_::_,h=>nomatch h.1
 |_::_,[],h=>nomatch h.1
 |v::ws,r::R,h=>by
  obtain⟨ks,e1,e2,e3⟩:=Q9 ws R ⟨asj h.1,fun i v x a b=>h.2 (i+1) v x a b⟩
  have hr:xZ K H v r:=h.2 0 v r rfl rfl
  have ev:∃t,v=.ref t:=by
   have z:=hr
   unfold xZ rD at z
   cases z with
   |tup _ _=>exact⟨_,rfl⟩
  obtain⟨t,rfl⟩:=ev
  refine⟨(t,r)::ks,by rw[aqZ,←e1],by rw[aqZ,e2],fun p hp=>?_⟩
  rcases ara.mp hp with e|hp
  ·rw[e];exact hr
  ·exact e3 p hp
theorem aaC(hu:X.A.units+65 < cLine)(hc:X.calm=true):CallR X (.type "set") (LC X.K X.w):=by
 intro pins s σ H vs us Q I r h
 unfold LC at h
 obtain⟨l,ws,R,D,rfl,hl,hA,hD,hRD,q⟩:=h
 rw[Vals.ref1 r]
 obtain⟨ks,e1,e2,e3⟩:=Q9 ws R hA
 obtain⟨its,rv,pl,hz⟩:=I.list hl
 rw[e1]at rv
 have mem:∀p∈ks,p.2∈R:=fun p hp=>by
  rw[←e2]
  exact aq8.mpr ⟨p,hp,rfl⟩
 have hn:H s.heap.objs.size=none:=I.hok.fresh (aro _)
 refine aay (P:=X.prog) (w:=X.w) (hf:=fun r=>(ou X.prog X.w).hash r) (fun _=>rfl) ks D hD (fun p hp=>hRD _ (mem p hp)) (I.ok.hd hc) pl.isList (by simpa using Vt rv) (fun p hp=>ae1 I (e3 p hp)) (by omega) fun h' tk L es ep t S g k=>?_
 have fitL:t.fits es.size=true:=qH.fits (s:={ s with heap:=h',toks:=tk }) S
 have new:ObjOk X.prog X.w (upd H s.heap.objs.size (M4 X.w s.heap.objs.size L)) h' s.heap.objs.size (M4 X.w s.heap.objs.size L):=by
  obtain⟨o,ho,hr⟩:=S.ob
  refine⟨⟨_,es,ep,t,S.ob,S.en,fitL,S.tab.ris,S.ld⟩,⟨o,ho⟩,fun h1 h2 z k2=>?_⟩
  obtain⟨hf2,es2,ep2,t2,⟨o2,ho2,hr2⟩,rest⟩:=(show acg X.w h1 s.heap.objs.size L from z)
  exact⟨hf2,es2,ep2,t2,⟨o2,k2 o2 ho2,hr2⟩,rest⟩
 refine⟨.ref s.heap.objs.size,upd H s.heap.objs.size (M4 X.w s.heap.objs.size L),I.laid (t':=tk) k (aro _) new,rfl,q _ L hn (fun e he=>e3 e (arU (g.sub e he))) S.nd (fun r=>⟨fun m=>?_,fun m=>?_⟩) S.few⟩
 ·obtain⟨e,he,e5⟩:=aq8.mp m
  rw[←e5]
  exact mem e (arU (g.sub e he))
 ·rw[←e2]at m
  obtain⟨p,hp,e5⟩:=aq8.mp m
  rw[←e5]
  exact g.all p (by rw[List.take_length];exact hp)
theorem acz(hu:X.A.units+65 < cLine)(hc:X.calm=true):CallR X (.builtin "sorted") (Qq X.K X.w):=by
 intro pins s σ H vs us Q I r h
 unfold Qq at h
 obtain⟨a,L,rfl,ha,hL,nd,few,q⟩:=h
 rw[Vals.ref1 r]
 obtain⟨hf,es,ep,t,⟨o,ho,hex,hd⟩,en,fit,ris,led⟩:acg X.w s.heap a L:=(I.hok a _ ha).1
 have len:=zJ en
 have ev:∀K:List Ent,(∀p∈K,p∈L)->PySem.W.EachIs (fun v (r:Rw)=>(∃p∈L,v=Value.ref p.1/\r=p.2)/\∃as,Reads s.heap v (rD r) as) ((ents hf K).map (·.2)) (K.map Prod.snd):=by
  intro K
  induction K with
  |nil=>exact fun _=>.nil
  |cons p K ih=>
   intro hK
   have hp:=hK p aq1
   exact .cons ⟨⟨p,hp,rfl,rfl⟩,Dp.reads I (rD p.2) (.ref p.1) (.ref p.1) (hL p hp) rfl⟩ (ih fun x hx=>hK x (aq0 _ hx))
 refine Od (enc:=rD) (bs:=L.map Prod.snd) (I.ok.hd hc) ⟨o,ho,hex.1,hd⟩ fit (by unfold scanBound;omega) ris led (by rw[en];exact ev L fun p hp=>hp) (ase V2) (PySem.W.Sortable.tuples fun b=>⟨_,_,rfl⟩) (fun b _=>by rw[(aeM b).2];omega) fun s' p out c cs k g' o' hp hg pc eo=>?_
 have mp:=arZ cs (PySem.W.dataLe false rD)
 have ndm:(cs.mergeSort (PySem.W.dataLe false rD)).Nodup:=(mp.trans pc).nodup_iff.mpr nd
 have srt:=arW (le:=PySem.W.dataLe false rD) (fun a b c k1 k2=>by rw[Mh,decide_eq_true_eq]at *;exact List.le_trans k1 k2) (fun a b=>by rw[Mh,Mh,ar3,decide_eq_true_eq,decide_eq_true_eq];exact List.le_total _ _) cs
 generalize cs.mergeSort (PySem.W.dataLe false rD)=M at mp ndm srt eo
 obtain⟨ys,v1,v2⟩:=WL out M eo
 have up:VH M:=by
  refine List.Pairwise.imp₂ (fun a b h1 h2=>?_) srt ndm
  rw[Mh,decide_eq_true_eq]at h1
  by_cases c:rk a < rk b
  ·exact c
  ·exact absurd (adG (List.le_antisymm h1 (List.not_lt.mp c))) h2
 have hfr:H p=none:=I.hok.fresh hp
 have hlen:ys.length<=sizeLine:=by
  rw[v2.1,mp.length_eq,pc.length_eq,aq7,sizeLine_eq]
  omega
 have J:Inv X pins σ (upd H p (.lst ys)) { s with heap:=s'.heap,gens:=s'.gens,drawn:=s'.drawn,toks:=s'.toks }:=
  I.call (ch:=[]) (Un.laid k hp hfr) (I.hok.laid k hp ⟨hlen,out,c,v1,hg⟩) (by rw[g'];exact I.bare) (fun _ z=>nomatch z)
 have es':s'={ s with heap:=s'.heap,gens:=s'.gens,drawn:=s'.drawn,toks:=s'.toks }:=by
  cases s'
  cases s
  cases o'
  rfl
 rw[es']
 refine⟨.ref p,_,J,rfl,q ys M p (v2.imp fun v r ⟨e,he,h1,h2⟩=>?_) up (fun r=>(mp.trans pc).mem_iff) hfr⟩
 subst h1 h2
 exact hL e he
end
end Ear
namespace Rf
open PySem PySem.Spec PyProof.Rows L2 Evl
def acj:Dat->Option Ear.Rw
 |.tuple [.int o,.tuple ds]=>(intsOf ds).map fun l=>(o,l)
 |_=>none
def Ed:List Dat->Option (List Ear.Rw)
 |[]=>some []
 |d::ds=>(acj d).bind fun r=>(Ed ds).bind fun rs=>some (r::rs)
theorem DK:∀{ds:List Dat} {l:List Int},intsOf ds=some l->ds=l.map PyData.int
 |[],l,h=>by cases h;rfl
 |.int i::ds,l,h=>by
  rw[intsOf,arF]at h
  obtain⟨r,h1,rfl⟩:=h
  rw[DK h1]
  rfl
 |.none::_,_,h=>by cases h
 |.bool _::_,_,h=>by cases h
 |.str _::_,_,h=>by cases h
 |.list _::_,_,h=>by cases h
 |.tuple _::_,_,h=>by cases h
 |.dict _::_,_,h=>by cases h
theorem agC{d:Dat}{r:Ear.Rw}(h:acj d=some r):d=Ear.rD r:=by
 unfold acj at h
 split at h
 ·next o ds=>
  rw[arF]at h
  obtain⟨l,h1,rfl⟩:=h
  rw[DK h1]
  rfl
 ·cases h
theorem O7:∀{ds:List Dat} {rs:List Ear.Rw},Ed ds=some rs->ds=rs.map Ear.rD
 |[],_,h=>by cases h;rfl
 |d::ds,_,h=>by
  rw[Ed]at h
  obtain⟨r,h1,h⟩:=aqU.mp h
  obtain⟨rs,h2,h⟩:=aqU.mp h
  cases h
  rw[agC h1,O7 h2]
  rfl
def Rr(R:List Ear.Rw):List Ear.Rw:=R.mergeSort fun a b=>decide (Ear.rk a<=Ear.rk b)
def sortI(l:List Int):List Int:=l.mergeSort fun a b=>decide (a<=b)
def bK(R:List Ear.Rw):List Ear.Rw:=Rr R.eraseDups
def Ad(l:List Int):List Int:=sortI l.eraseDups
theorem YD:∀(n:Nat) (l:List Int),jT n (l.map PyData.int)=true:=fun n l=>by
 induction l with
 |nil=>rfl
 |cons i l ih=>simp[jT,okd,ih]
theorem YW(n:Nat)(r:Ear.Rw):okd (n+2) (Ear.rD r)=true:=by
 unfold Ear.rD Ear.dT
 simp[okd,jT,YD]
theorem aic(n:Nat)(R:List Ear.Rw):jT (n+2) (R.map Ear.rD)=true:=by
 induction R with
 |nil=>rfl
 |cons r R ih=>simp[jT,YW,ih]
def Jo:Dat->Out Dat
 |.list ds=>match intsOf ds with
  |some l=>.ok (.list ((sortI l).map PyData.int))
  |none=>match Ed ds with
   |some R=>.ok (.list ((Rr R).map Ear.rD))
   |none=>.bad
 |_=>.bad
def Qx:Dat->Out Dat
 |.list ds=>match Ed ds with
  |some R=>match decide (R.eraseDups.length<=76) with
   |true=>.ok (.list ((bK R).map Ear.rD))
   |false=>.bad
  |none=>.bad
 |_=>.bad
theorem Vu{β:Type}{enc:β->Dat}{le:β->β->Bool}(h:∀a b,PySem.W.dataLe false id (enc a) (enc b)=le a b)(l:List β):(l.map enc).mergeSort (PySem.W.dataLe false id)=(l.mergeSort le).map enc:=by
 rw[List.map_mergeSort (r:=le) (s:=PySem.W.dataLe false id) (fun a _ b _=>(h a b).symm)]
theorem vO{α:Type}[BEq α][LawfulBEq α]{l:List α}{x:α}:x∈l.eraseDups↔x∈l:=by
 induction hn:l.length using Nat.strongRecOn generalizing l with
 |_ n ih=>
  cases l with
  |nil=>simp
  |cons a r=>
   rw[List.eraseDups_cons]
   simp only[arb]at hn
   have hl:(r.filter fun b=>!b==a).length<=r.length:=ark _ _
   rw[ara,ih _ (by omega) rfl,arh,ara]
   constructor
   ·rintro(h|h)
    ·exact .inl h
    ·exact .inr h.1
   ·rintro(h|h)
    ·exact .inl h
    ·by_cases e:x=a
     ·exact .inl e
     ·exact .inr ⟨h,by simpa using e⟩
theorem Es{α:Type}[BEq α][LawfulBEq α]{l:List α}:l.eraseDups.Nodup:=by
 induction hn:l.length using Nat.strongRecOn generalizing l with
 |_ n ih=>
  cases l with
  |nil=>simp
  |cons a r=>
   rw[List.eraseDups_cons]
   simp only[arb]at hn
   have hl:(r.filter fun b=>!b==a).length<=r.length:=ark _ _
   refine asi.mpr ⟨fun h=>?_,ih _ (by omega) rfl⟩
   rw[vO,arh]at h
   simpa using h.2
theorem dW{R:List Ear.Rw}{r:Ear.Rw}:r∈bK R↔r∈R:=by
 unfold bK Rr
 rw[List.mem_mergeSort,vO]
theorem Yr(R:List Ear.Rw):Ear.VH (bK R):=by
 unfold Ear.VH bK Rr
 have srt:=arW (le:=fun a b:Ear.Rw=>decide (Ear.rk a<=Ear.rk b)) (fun a b c k1 k2=>by rw[decide_eq_true_eq]at *;exact List.le_trans k1 k2) (fun a b=>by rw[ar3,decide_eq_true_eq,decide_eq_true_eq];exact List.le_total _ _) R.eraseDups
 have nd:(R.eraseDups.mergeSort fun a b=>decide (Ear.rk a<=Ear.rk b)).Nodup:=(arZ _ _).nodup_iff.mpr Es
 refine List.Pairwise.imp₂ (fun a b h1 h2=>?_) srt nd
 rw[decide_eq_true_eq]at h1
 by_cases c:Ear.rk a < Ear.rk b
 ·exact c
 ·exact absurd (Ear.adG (List.le_antisymm h1 (List.not_lt.mp c))) h2
theorem Vo{l:List Int}{i:Int}:i∈Ad l↔i∈l:=by
 unfold Ad sortI
 rw[List.mem_mergeSort,vO]
theorem YT(l:List Int):(Ad l).Pairwise (· < ·):=by
 unfold Ad sortI
 have srt:=arW (le:=fun a b:Int=>decide (a<=b)) (fun a b c k1 k2=>by rw[decide_eq_true_eq]at *;omega) (fun a b=>by rw[ar3,decide_eq_true_eq,decide_eq_true_eq];omega) l.eraseDups
 have nd:(l.eraseDups.mergeSort fun a b=>decide (a<=b)).Nodup:=(arZ _ _).nodup_iff.mpr Es
 refine List.Pairwise.imp₂ (fun a b h1 h2=>?_) srt nd
 rw[decide_eq_true_eq]at h1
 have:a≠b:=h2
 omega
section
variable{K:aqV}{g:Gh}{H:Hp}
theorem Qa{xs:List V}{ds:List Dat}(h:aM K g H xs ds):∀{ys:List V} {es:List Dat},Ear.fB (Ear.ae3 xs ds) ys es->aM K g H ys es
 |[],[],_=>.nil
 |[],_::_,z=>nomatch z.1
 |_::_,[],z=>nomatch z.1
 |y::ys,e::es,z=>by
  obtain⟨i,h1,h2⟩:=z.2 0 y e rfl rfl
  obtain⟨d,h3,h4⟩:=h.get' h1
  rw[h2]at h3
  cases h3
  exact .cons h4 (Qa h ⟨asj z.1,fun i v x a b=>z.2 (i+1) v x a b⟩)
end
section
variable{X:Cx}{aj:aR}{W:WX}{a:Expr}{fa:QF}{p p2 pos pos2:Pos}
theorem agO:JV aj X.K W Jo (Ear.Jz X.K):=fun σ g H x d Q k rx h=>by
 unfold Jo at h
 split at h
 ·next ds=>
  obtain⟨l,us,rfl,h1,h2⟩:=iU rx
  unfold Ear.Jz
  split at h
  ·next ns hn=>
   have e:=DK hn
   subst e
   refine⟨l,us,ns.map PyData.int,rfl,h1,h2.dp (n:=12) (YD 12 ns),ase (fun a b=>by simp[PySem.W.alike]),PySem.W.Sortable.others (fun b=>⟨(fun z=>nomatch z),fun xs z=>nomatch z⟩),fun d hd=>by
    obtain⟨i,_,rfl⟩:=aq8.mp hd
    simp[PyData.depth],fun ys q hy nq=>?_⟩
   have hs:=Vu (enc:=PyData.int) (le:=fun a b:Int=>decide (a<=b)) (fun a b=>congrFun (congrFun (PySem.W.dataLe_int (fun k:Int=>k)) a) b) ns
   rw[hs]at hy
   exact h (.ref q) _ (Ex.new nq) (.lst (.inl ⟨.inl upd_same,k.fresh nq⟩) ((Qa h2 hy).ex (Ex.new nq) k))
  ·split at h
   ·next R hR=>
    have e:=O7 hR
    subst e
    refine⟨l,us,R.map Ear.rD,rfl,h1,h2.dp (n:=12) (aic 10 R),ase Ear.V2,PySem.W.Sortable.tuples (fun b=>⟨_,_,rfl⟩),fun d hd=>by
     obtain⟨i,_,rfl⟩:=aq8.mp hd
     rw[(Ear.aeM i).2]
     decide,fun ys q hy nq=>?_⟩
    ·have hs:=Vu (enc:=Ear.rD) (le:=fun a b:Ear.Rw=>decide (Ear.rk a<=Ear.rk b)) (fun a b=>by rw[←Ear.Mh];rfl) R
     rw[hs]at hy
     exact h (.ref q) _ (Ex.new nq) (.lst (.inl ⟨.inl upd_same,k.fresh nq⟩) ((Qa h2 hy).ex (Ex.new nq) k))
   ·exact False.elim h
 ·exact False.elim h
theorem ahz(hu:X.A.units+65 < cLine)(hg:Gl X "sorted")(hm:X.mg "sorted"=none)(ha:QW aj X W a fa)(hs:nst a=true):QE aj X W (.Call (.Name "sorted" p) [a] [] pos) (dH Jo fa):=
 agj (.inl rfl) (Ear.abP hu) agO hg hm ⟨by decide +kernel,by decide,by decide⟩ ha hs
theorem aa0{K:aqV}{g:Gh}{H:Hp}:∀{vs:List V} {l:List Int},DpAll K H vs (l.map PyData.int)->aM K g H vs (l.map PyData.int)
 |_,[],.nil=>.nil
 |_,_::_,.cons (.int i) t=>.cons (.int i) (aa0 t)
theorem ado{K:aqV}{g:Gh}{H:Hp}{v:V}{r:Ear.Rw}(h:Ear.xZ K H v r):Rep K g H v (Ear.rD r):=by
 unfold Ear.xZ Ear.rD at h
 cases h with
 |tup h1 t1=>
  cases t1 with
  |cons a1 t1=>
   cases a1
   cases t1 with
   |cons a2 t2=>
    cases t2
    cases a2 with
    |tup h2 t3=>exact .tup h1 (.cons (.int _) (.cons (.tup h2 (aa0 t3)) .nil))
theorem VR{K:aqV}{g:Gh}{H:Hp}:∀{vs:List V} {R:List Ear.Rw},aM K g H vs (R.map Ear.rD)->Ear.fB (Ear.xZ K H) vs R
 |_,[],.nil=>⟨rfl,fun i v x a b=>by simp at a⟩
 |_,r::R,.cons h t=>by
  have ih:=VR t
  refine⟨congrArg (· + 1) ih.1,fun i v x a b=>?_⟩
  cases i with
  |zero=>
   simp at a b
   subst a b
   exact h.dp (n:=12) (YW 10 _)
  |succ i=>exact ih.2 i v x (by simpa using a) (by simpa using b)
theorem Vw{K:aqV}{g:Gh}{H:Hp}:∀{vs:List V} {R:List Ear.Rw},Ear.fB (Ear.xZ K H) vs R->aM K g H vs (R.map Ear.rD)
 |[],[],_=>.nil
 |[],_::_,h=>nomatch h.1
 |_::_,[],h=>nomatch h.1
 |v::vs,r::R,h=>.cons (ado (h.2 0 v r rfl rfl)) (Vw ⟨asj h.1,fun i v x a b=>h.2 (i+1) v x a b⟩)
theorem ag0(hu:X.A.units+65 < cLine)(hc:X.calm=true)(hg:Gl X "sorted")(hm:X.mg "sorted"=none)(hg2:Gl X "set")(hm2:X.mg "set"=none)(ha:QW aj X W a fa)(hs:nst a=true):QE aj X W (.Call (.Name "sorted" p) [.Call (.Name "set" p2) [a] [] pos2] [] pos) (dH Qx fa):=by
 have h0:=pa_cons ha pa_nil (cD hs [])
 have h1:PE X (.Call (.Name "set" p2) [a] [] pos2) _:=pe_callTy (Ear.aaC hu hc) hg2 hm2 (by decide +kernel) h0 (by decide) (by decide) (cD hs []) (by with_unfolding_all rfl)
 have h2:=pa_cons h1 pa_nil (cD rfl [])
 refine PE.weak (pe_callB (p:=p) (pos:=pos) (Ear.acz hu hc) hg hm (by decide +kernel) h2 (by decide) (by decide) (cD rfl []) (by with_unfolding_all rfl)) fun σ H Q ⟨g,ρ,M,I,h⟩=>?_
 refine tW.go I h.bnd fun d v H1 h1 e1 r1=>?_
 have I1:=I.ex e1
 unfold Qx at h1
 split at h1
 ·next ds=>
  split at h1
  ·next R hR=>
   split at h1
   ·next hd=>
    have e:=O7 hR
    subst e
    obtain⟨l,us,rfl,s1,s2⟩:=iU r1
    unfold Ear.LC
    refine⟨l,us,R,R.eraseDups,rfl,s1,VR s2,of_decide_eq_true hd,fun r hr=>vO.mpr hr,fun q L nq hL nd mem few=>?_⟩
    have eq:Ex H1 (upd H1 q (Ear.M4 X.w q L)):=Ex.new nq
    unfold Ear.Qq
    refine⟨q,L,rfl,upd_same,fun e he=>?_,nd,few,fun ys S z hy up ms nz=>?_⟩
    ·exact(Rep.ex eq I1.kd (ado (g:=g) (hL e he))).dp (n:=12) (YW 10 _)
    ·have hS:S=bK R:=Ear.Ra up (Yr R) fun r=>by rw[ms,mem,dW]
     subst hS
     have I2:=I1.ex eq
     exact h1 (.ref z) _ ((e1.trans eq).trans (Ex.new nz)) (.lst (.inl ⟨.inl upd_same,I2.kd.fresh nz⟩) ((Vw hy).ex (Ex.new nz) I2.kd))
   ·exact False.elim h1
  ·exact False.elim h1
 ·exact False.elim h1
def Cu(it:IF)(tg:fG)(vs:List Nat)(tt:QT)(te:QF):QF:=fun M ρ=>(Bj it tg vs tt te M ρ).bind fun ds=>match intsOf ds with
 |some l=>Out.when (decide (l.length<=4000)) (.ok (.list ((Ad l).map PyData.int)))
 |none=>.bad
theorem RM{K:aqV}{g:Gh}{H:Hp}:∀ns:List Int,aM K g H (ns.map V.int) (ns.map PyData.int)
 |[]=>.nil
 |n::ns=>.cons (.int n) (RM ns)
theorem ahR{S T:List Int}(hs:S.Pairwise (· < ·))(ht:T.Pairwise (· < ·))(h:∀i,i∈S↔i∈T):S=T:=by
 induction S generalizing T with
 |nil=>
  cases T with
  |nil=>rfl
  |cons t T=>exact absurd ((h t).mpr aq1) arB
 |cons s S ih=>
  cases T with
  |nil=>exact absurd ((h s).mp aq1) arB
  |cons t T=>
   rw[List.pairwise_cons]at hs ht
   have e:s=t:=by
    rcases ara.mp ((h s).mp aq1) with e|e
    ·exact e
    ·rcases ara.mp ((h t).mpr aq1) with e2|e2
     ·exact e2.symm
     ·have:=ht.1 s e
      have:=hs.1 t e2
      omega
   subst e
   rw[ih hs.2 ht.2 fun i=>?_]
   constructor
   ·intro hi
    rcases ara.mp ((h i).mp (aq0 _ hi)) with e|e
    ·have:=hs.1 i hi
     omega
    ·exact e
   ·intro hi
    rcases ara.mp ((h i).mpr (aq0 _ hi)) with e|e
    ·have:=ht.1 i hi
     omega
    ·exact e
theorem acs{a b:List Dat}{l:List Int}(h:intsOf (a++b)=some l):∃x y,intsOf a=some x/\intsOf b=some y/\l=x++y:=by
 have e:=DK h
 obtain⟨x,y,rfl,h1,h2⟩:=List.append_eq_map_iff.mp e
 exact⟨x,y,by rw[←h1,lQ],by rw[←h2,lQ],rfl⟩
theorem alj{it:IF}{tg:fG}{js vs:List Nat}{tt:QT}{te:QF}(hj:∀j∈js,j∈vs)(σ:L2.St)(H:Hp)(Q:VK)(h:tQ X.K aj W (Cu it tg vs tt te) σ H Q) :
  tCB (Ear.MP X.w) (tCons (Ear.ajm X.w (tI X.K aj W false it) (xK X.K aj js tg) (jC X.K aj WF tt) (tQ X.K aj WF te) vs) tNil) σ H Q:=by
 obtain⟨g,ρ,M,I,h⟩:=h
 unfold Cu Bj at h
 have h:=h.bnd
 refine⟨g,ρ,M,I,h.bnd.mono (fun ds hk J C H1 e1 w c _ D nD=>?_) fun _ z=>z⟩
 obtain⟨hz,hk⟩:=hk.pC
 have hlen:=of_decide_eq_true hz
 obtain⟨total,htot,hk⟩:∃total,cP tg tt te M (bR ρ vs) ds=.ok total/\(match intsOf total with
   |some l=>Out.when (decide (l.length<=4000)) (Out.ok (PyData.list ((Ad l).map PyData.int)))
   |none=>Out.bad).sat (fun d=>∀v H',Ex H H'->Rep X.K g H' v d->Q v H') (qD X.K aj W g H σ):=by
  cases hc:cP tg tt te M (bR ρ vs) ds with
  |bad=>rw[hc]at hk;exact False.elim hk
  |exc x=>exact absurd hc mH
  |ok total=>
   rw[hc]at hk
   exact⟨total,rfl,hk⟩
 split at hk
 ·next nums hnums=>
  obtain⟨hz2,hk⟩:=Out.sat.pC hk
  have hlen2:=of_decide_eq_true hz2
  have I1:=(I.ex e1).wipe vs
  have kD:∀{Ha:Hp} {S:Int->Bool} {n:Nat},Ex H1 Ha->Ha D=some (SetO X.w D S n)->SInv X.K aj (L2.wipe σ vs) Ha (g.add D) (bR ρ vs) M:=fun ea hu=>I1.add nD ea hu trivial
  let Pv:Nat->Hp->Prop:=fun i Ha=>Ex H1 Ha/\i<=ds.length/\∃(S:Int->Bool) (n:Nat) (ys:List Int),Ha D=some (SetO X.w D S n)/\(∀j,S j=true↔j∈ys)/\n<=ys.length/\(cP tg tt te M (bR ρ vs) (ds.drop i)).sat (fun r=>total=ys.map PyData.int++r) fun _=>False
  refine⟨fun i m Ha=>m=ds.length - i/\Pv i Ha,⟨ds.length,rfl,Ex.new nD,arK _,_,0,[],upd_same,fun j=>by simp,aro _,?_⟩,?_⟩
  ·rw[ar7,htot]
   rfl
  ·rintro i m Ha ⟨rfl,ea,hi,S,n,ys,hu,hS,hn,hs⟩
   have Ia:=kD ea hu
   have Ca:=w.add g (g.add D) H1 Ha (I.kd.ex e1) c (Gh.Dc nD ea) ea
   by_cases hlt:i < ds.length
   ·refine .inr ⟨w.go _ i Ha Ca hlt,Pv (i+1),fun H' p=>⟨ds.length - (i+1),by omega,rfl,p⟩,fun x H' y=>?_⟩
    have hd:ds[i]?=some ds[i]:=aqY hlt
    obtain⟨e2,rx⟩:=w.yld _ i Ha x H' _ Ia.kd Ca hd y
    have I2:=Ia.ex e2
    rw[arN hlt,cP]at hs
    split at hs
    ·exact False.elim hs
    ·next ρ1 he=>
     refine⟨g.add D,_,M,_,ρ1,I2,rx,he,fun ws I3=>⟨w6 js ws _ vs hj |>.trans (Ao σ vs),?_⟩⟩
     refine jC.go I3 (wV hs.bnd) fun b H3 hb e3=>?_
     have I4:=I3.ex e3
     have hu3:=e3 _ _ (e2 _ _ hu)
     cases b with
     |false=>
      have hb:(cP tg tt te M (bR ρ vs) (ds.drop (i+1))).sat (fun r=>total=ys.map PyData.int++r) fun _=>False:=hb
      exact⟨(ea.trans e2).trans e3,hlt,S,n,ys,hu3,hS,hn,hb⟩
     |true=>
      have hb:((xY (te M ρ1)).bind fun y=>(cP tg tt te M (bR ρ vs) (ds.drop (i+1))).bind fun r=>Out.ok (y::r)).sat (fun r=>total=ys.map PyData.int++r) fun _=>False:=hb
      refine tQ.go I4 (wV hb.bnd) fun y v H4 hyv e4 ry=>?_
      have hu4:=e4 _ _ hu3
      obtain⟨r,hr,ht⟩:∃r,cP tg tt te M (bR ρ vs) (ds.drop (i+1))=.ok r/\total=ys.map PyData.int++y::r:=by
       cases hc:cP tg tt te M (bR ρ vs) (ds.drop (i+1)) with
       |bad=>rw[hc]at hyv;exact False.elim hyv
       |exc x=>exact absurd hc mH
       |ok r=>
        rw[hc]at hyv
        exact⟨r,rfl,hyv⟩
      rw[ht]at hnums
      obtain⟨xl,yl,q1,q2,q3⟩:=acs hnums
      cases y with
      |int kk=>
       cases ry
       have hyl:ys.length < nums.length:=by
        rw[lQ]at q1
        obtain rfl:ys=xl:=ari q1
        rw[intsOf,arF]at q2
        obtain⟨z,_,rfl⟩:=q2
        rw[q3]
        simp
       refine⟨kk,S,n,rfl,hu4,by unfold scanBound;omega,Ex.mut (((ea.trans e2).trans e3).trans e4) nD,hlt,_,_,ys++[kk],upd_same,fun j=>?_,?_,?_⟩
       ·simp[hS]
       ·split <;> simp <;> omega
       ·rw[hr]
        show total=_
        rw[ht]
        simp
      |_=>cases q2
   ·have e:i=ds.length:=by omega
    refine .inl ⟨w.stop _ i Ha Ca e,?_⟩
    rw[e,arT]at hs
    have hs:total=ys.map PyData.int++[]:=hs
    rw[arM]at hs
    rw[hs,lQ]at hnums
    obtain rfl:ys=nums:=ari hnums
    unfold Ear.MP
    refine⟨D,S,n,rfl,hu,fun ns z up mem _ nz=>?_⟩
    have hns:ns=Ad ys:=ahR up (YT ys) fun j=>by rw[mem,hS,Vo]
    subst hns
    have ex:=(e1.trans ea).trans (Ex.new (o:=.lst ((Ad ys).map V.int)) nz)
    have kk:=(I.ex (e1.trans ea)).kd
    exact hk (.ref z) _ ex (.lst (.inl ⟨.inl upd_same,kk.fresh nz⟩) (RM _))
 ·exact False.elim hk
theorem adx{elt tg iter:Expr}{ifs:List Expr}{scope:Scope}{own:List (Str×Nat)}{it:IF}{tgf:fG}{js:List Nat}{tt:QT}{te:QF}(hu:X.A.units+65 < cLine)(hc:X.calm=true)(hN:X.N.Nodup)(hg0:Gl X "sorted")(hm:X.mg "sorted"=none)(hi:QI aj X W false tg iter it)(ok:blkC X.N X.env.scope scope own=true)(hj:∀j∈js,j∈own.map (·.2))
  (hg:∀(s:Shared) (H:Hp) (C:Addr) (cl:List (Str×Addr)) (fp:List Addr),QG aj (X.blk s H scope (compEnvC scope cl C X.env) fp) tg js tgf)
  (ht:∀(s:Shared) (H:Hp) (C:Addr) (cl:List (Str×Addr)) (fp:List Addr),PTs (X.blk s H scope (compEnvC scope cl C X.env) fp) ifs (jC X.K aj WF tt))
  (he:∀(s:Shared) (H:Hp) (C:Addr) (cl:List (Str×Addr)) (fp:List Addr),QE aj (X.blk s H scope (compEnvC scope cl C X.env) fp) WF elt te) (hs:∀x,foldedSetIterable iter X.env x=pure x) :
  QE aj X W (.Call (.Name "sorted" p) [.SetComp elt [⟨tg,iter,ifs,0⟩] scope pos2] [] pos) (Cu it tgf (own.map (·.2)) tt te):=by
 have h1:=Ear.aiV (pos:=pos2) (g:=xK X.K aj js tgf) (tt:=jC X.K aj WF tt) (te:=tQ X.K aj WF te) hc hN hi (blkOk_by ok) (fun s H C cl fp=>hg s H C cl fp) ht (fun s H C cl fp=>he s H C cl fp) hs
 have h2:=pa_cons h1 pa_nil (cD rfl [])
 exact PE.weak (pe_callB (p:=p) (pos:=pos) (Ear.ac8 hu hc) hg0 hm (by decide +kernel) h2 (by decide) (by decide) (cD rfl []) (by with_unfolding_all rfl)) fun σ H Q h=>alj hj σ H Q h
end
def zY(ρ:Env):Bool:=ρ.all fun o=>match o with
 |some (.mut _)=>false
 |_=>true
theorem aag{ρ:Env}(h:zY ρ=true){i:Nat}{xs:List Dat}:ρ[i]?≠some (some (.mut xs)):=fun z=>by
 have:=arl.mp h _ (aq3 z)
 cases this
theorem SInv.loc{K:aqV}{aj:aR}{σ:L2.St}{H:Hp}{g:Gh}{ρ:Env}{M:Mo}{D:Addr}{us us':List V}(I:SInv K aj σ H g ρ M)(n:zY ρ=true)(hD:H D=some (.lst us))(lo:g.Lo D):SInv K aj σ (upd H D (.lst us')) g ρ M where
 kd:=I.kd.upd trivial
 wok:=I.wok.loc I.kd hD lo
 len:=I.len
 dat:=fun i d h=>by
  obtain⟨v,h1,h2⟩:=I.dat i d h
  exact⟨v,h1,ahn I.kd hD lo h2⟩
 own:=fun i xs h=>absurd h (aag n)
 sep:=fun i j xs ys l ne h1=>absurd h1 (aag n)
def iD(tg:fG)(tt:QT)(it1:IF)(tg1:fG)(vs1:List Nat)(tt1:QT)(te:QF)(M:Mo)(ρ:Env):List Dat->Out (List Dat)
 |[]=>.ok []
 |d::ds=>match tg d ρ with
  |none=>.bad
  |some ρ1=>(xY (tt M ρ1)).bind fun b=>if b=true then Out.when (zY ρ1) ((xY (it1 M ρ1)).bind fun es=>(cP tg1 tt1 te M (bR ρ1 vs1) es).bind fun r1=>(iD tg tt it1 tg1 vs1 tt1 te M ρ ds).bind fun r=>.ok (r1++r)) else iD tg tt it1 tg1 vs1 tt1 te M ρ ds
def abo(it:IF)(tg:fG)(vs:List Nat)(tt:QT)(it1:IF)(tg1:fG)(vs1:List Nat)(tt1:QT)(te:QF):IF:=fun M ρ=>(it M ρ).bind fun ds=>(iD tg tt it1 tg1 vs1 tt1 te M (bR ρ vs) ds).bind fun r=>Out.when (decide (r.length<=50000)) (.ok r)
def Dq(it:IF)(tg:fG)(vs:List Nat)(tt:QT)(it1:IF)(tg1:fG)(vs1:List Nat)(tt1:QT)(te:QF):QF:=fun M ρ=>(abo it tg vs tt it1 tg1 vs1 tt1 te M ρ).bind fun r=>.ok (.list r)
theorem yj{tg tg1:fG}{tt tt1:QT}{te:QF}{it1:IF}{vs1:List Nat}{M:Mo}{ρ:Env}:∀{ds:List Dat} {x:eE},iD tg tt it1 tg1 vs1 tt1 te M ρ ds≠.exc x
 |[],_,h=>nomatch h
 |d::ds,x,h=>by
  rw[iD]at h
  split at h
  ·cases h
  ·next ρ1 e=>
   cases h1:tt M ρ1 with
   |bad=>rw[h1]at h;cases h
   |exc y=>rw[h1]at h;cases h
   |ok b=>
    rw[h1]at h
    cases b with
    |false=>exact yj (ds:=ds) (x:=x) h
    |true=>
     cases hn:zY ρ1 with
     |false=>rw[hn]at h;cases h
     |true=>
      rw[hn]at h
      cases h2:it1 M ρ1 with
      |bad=>rw[h2]at h;cases h
      |exc y=>rw[h2]at h;cases h
      |ok es=>
       rw[h2]at h
       have h:((cP tg1 tt1 te M (bR ρ1 vs1) es).bind fun r1=>(iD tg tt it1 tg1 vs1 tt1 te M ρ ds).bind fun r=>Out.ok (r1++r))=.exc x:=h
       cases h3:cP tg1 tt1 te M (bR ρ1 vs1) es with
       |bad=>rw[h3]at h;cases h
       |exc y=>exact absurd h3 mH
       |ok r1=>
        rw[h3]at h
        have h:((iD tg tt it1 tg1 vs1 tt1 te M ρ ds).bind fun r=>Out.ok (r1++r))=.exc x:=h
        cases h4:iD tg tt it1 tg1 vs1 tt1 te M ρ ds with
        |bad=>rw[h4]at h;cases h
        |exc y=>exact absurd h4 yj
        |ok r=>rw[h4]at h;cases h
section
variable{K:aqV}{aj:aR}{W:WX}
theorem ahO{it it1:IF}{tg tg1:fG}{js vs js1 vs1:List Nat}{tt tt1:QT}{te:QF}(hj:∀j∈js,j∈vs)(hj1:∀j∈js1,j∈vs1)(σ:L2.St)(H:Hp)(Q:VK)(h:tFr K aj W (abo it tg vs tt it1 tg1 vs1 tt1 te) σ H Q) :
  tLc2 (tI K aj W false it) (xK K aj js tg) (jC K aj WF tt) (tI K aj WF true it1) (xK K aj js1 tg1) (jC K aj WF tt1) (tQ K aj WF te) vs vs1 σ H Q:=by
 obtain⟨g,ρ,M,I,h⟩:=h
 refine⟨g,ρ,M,I,h.bnd.mono (fun ds hk J C H1 e1 w c _ D nD=>?_) fun _ z=>z⟩
 obtain⟨total,htot,hlen,hQ⟩:∃total,iD tg tt it1 tg1 vs1 tt1 te M (bR ρ vs) ds=.ok total/\total.length<=50000/\∀l us H',H l=none->Ex H H'->H' l=some (.lst us)->aM K (g.add l) H' us total->Q (.ref l) H':=by
  cases hc:iD tg tt it1 tg1 vs1 tt1 te M (bR ρ vs) ds with
  |bad=>rw[hc]at hk;exact False.elim hk
  |exc x=>exact absurd hc yj
  |ok total=>
   rw[hc]at hk
   obtain⟨hz,hk⟩:=Out.sat.pC hk
   exact⟨total,rfl,of_decide_eq_true hz,hk⟩
 have I1:=(I.ex e1).wipe vs
 have kD:∀{Ha:Hp} {us:List V},Ex H1 Ha->Ha D=some (.lst us)->SInv K aj (L2.wipe σ vs) Ha (g.add D) (bR ρ vs) M:=fun ea hu=>I1.add nD ea hu trivial
 have lD:(g.add D).Lo D:=.inr rfl
 let Pv:Nat->Hp->Prop:=fun i Ha=>Ex H1 Ha/\i<=ds.length/\∃us ys,Ha D=some (.lst us)/\aM K (g.add D) Ha us ys/\(iD tg tt it1 tg1 vs1 tt1 te M (bR ρ vs) (ds.drop i)).sat (fun r=>total=ys++r) fun _=>False
 refine⟨fun i m Ha=>m=ds.length - i/\Pv i Ha,⟨ds.length,rfl,Ex.new nD,arK _,[],[],upd_same,.nil,?_⟩,?_⟩
 ·rw[ar7,htot]
  rfl
 ·rintro i m Ha ⟨rfl,ea,hi,us,ys,hu,hU,hs⟩
  have Ia:=kD ea hu
  have Ca:=w.add g (g.add D) H1 Ha (I.kd.ex e1) c (Gh.Dc nD ea) ea
  by_cases hlt:i < ds.length
  ·refine .inr ⟨w.go _ i Ha Ca hlt,Pv (i+1),fun H' p=>⟨ds.length - (i+1),by omega,rfl,p⟩,fun x H' y=>?_⟩
   have hd:ds[i]?=some ds[i]:=aqY hlt
   obtain⟨e2,rx⟩:=w.yld _ i Ha x H' _ Ia.kd Ca hd y
   have I2:=Ia.ex e2
   rw[arN hlt,iD]at hs
   split at hs
   ·exact False.elim hs
   ·next ρ1 he=>
    refine⟨g.add D,_,M,_,ρ1,I2,rx,he,fun ws I3=>⟨w6 js ws _ vs hj |>.trans (Ao σ vs),?_⟩⟩
    refine jC.go I3 (wV hs.bnd) fun b H3 hb e3=>?_
    have I4:=I3.ex e3
    have hu3:=e3 _ _ (e2 _ _ hu)
    have hU3:=(hU.ex e2 Ia.kd).ex e3 I2.kd
    cases b with
    |false=>
     have hb:(iD tg tt it1 tg1 vs1 tt1 te M (bR ρ vs) (ds.drop (i+1))).sat (fun r=>total=ys++r) fun _=>False:=hb
     exact⟨(ea.trans e2).trans e3,hlt,us,ys,hu3,hU3,hb⟩
    |true=>
     have hb:(Out.when (zY ρ1) ((xY (it1 M ρ1)).bind fun es=>(cP tg1 tt1 te M (bR ρ1 vs1) es).bind fun r1=>(iD tg tt it1 tg1 vs1 tt1 te M (bR ρ vs) (ds.drop (i+1))).bind fun r=>Out.ok (r1++r))).sat (fun r=>total=ys++r) fun _=>False:=hb
     obtain⟨nm,hb⟩:=hb.pC
     refine⟨g.add D,ρ1,M,I4,(wV (E':=qD K aj WF (g.add D) H3 _) hb.bnd).mono (fun es hk1 J1 C1 H4 e4 w1 c1 fm=>?_) fun _ z=>z⟩
     have fm:=fm rfl
     -- all that is added by this walk
     obtain⟨r1,r2,hr1,hr2,ht⟩:∃r1 r2,cP tg1 tt1 te M (bR ρ1 vs1) es=.ok r1/\iD tg tt it1 tg1 vs1 tt1 te M (bR ρ vs) (ds.drop (i+1))=.ok r2/\total=ys++(r1++r2):=by
      cases q1:cP tg1 tt1 te M (bR ρ1 vs1) es with
      |bad=>rw[q1]at hk1;exact False.elim hk1
      |exc y=>exact absurd q1 mH
      |ok r1=>
       rw[q1]at hk1
       have hk1:((iD tg tt it1 tg1 vs1 tt1 te M (bR ρ vs) (ds.drop (i+1))).bind fun r=>Out.ok (r1++r)).sat (fun r=>total=ys++r) fun _=>False:=hk1
       cases q2:iD tg tt it1 tg1 vs1 tt1 te M (bR ρ vs) (ds.drop (i+1)) with
       |bad=>rw[q2]at hk1;exact False.elim hk1
       |exc y=>exact absurd q2 yj
       |ok r2=>
        rw[q2]at hk1
        exact⟨r1,r2,rfl,rfl,hk1⟩
     let P1:Nat->Hp->Prop:=fun j Hb=>Ex H1 Hb/\SInv K aj (sets (L2.wipe σ vs) js ws) Hb (g.add D) ρ1 M/\C1 (g.add D) Hb/\j<=es.length/\∃us' zs,Hb D=some (.lst us')/\aM K (g.add D) Hb us' (ys++zs)/\(cP tg1 tt1 te M (bR ρ1 vs1) (es.drop j)).sat (fun r=>r1=zs++r) fun _=>False
     refine⟨fun j m Hb=>m=es.length - j/\P1 j Hb,⟨es.length,rfl,((ea.trans e2).trans e3).trans e4,I4.ex e4,c1,arK _,us,[],e4 _ _ hu3,by rw[arM];exact hU3.ex e4 I4.kd,?_⟩,?_⟩
     ·rw[ar7,hr1]
      rfl
     ·rintro j m Hb ⟨rfl,fb,Ib,Cb,hjl,us',zs,hub,hUb,hsb⟩
      by_cases hlj:j < es.length
      ·refine .inr ⟨w1.go _ j Hb Cb hlj,P1 (j+1),fun H' p=>⟨es.length - (j+1),by omega,rfl,p⟩,fun x H' y=>?_⟩
       have hdj:es[j]?=some es[j]:=aqY hlj
       obtain⟨f2,rx⟩:=w1.yld _ j Hb x H' _ Ib.kd Cb hdj y
       have J2:=(Ib.ex f2).wipe vs1
       rw[arN hlj,cP]at hsb
       split at hsb
       ·exact False.elim hsb
       ·next ρ2 he1=>
        refine⟨g.add D,_,M,_,ρ2,J2,rx,he1,fun ws1 J3=>⟨w6 js1 ws1 _ vs1 hj1 |>.trans (Ao _ vs1),?_⟩⟩
        refine jC.go J3 (wV hsb.bnd) fun b H6 hb6 e6=>?_
        have f26:=f2.trans e6
        have hu6:=f26 _ _ hub
        have hU6:=hUb.ex f26 Ib.kd
        cases b with
        |false=>
         have hb6:(cP tg1 tt1 te M (bR ρ1 vs1) (es.drop (j+1))).sat (fun r=>r1=zs++r) fun _=>False:=hb6
         exact⟨fb.trans f26,Ib.ex f26,w1.ex _ _ _ Ib.kd Cb f26,hlj,us',zs,hu6,hU6,hb6⟩
        |true=>
         have hb6:((xY (te M ρ2)).bind fun y=>(cP tg1 tt1 te M (bR ρ1 vs1) (es.drop (j+1))).bind fun r=>Out.ok (y::r)).sat (fun r=>r1=zs++r) fun _=>False:=hb6
         refine tQ.go (J3.ex e6) (wV hb6.bnd) fun y v H7 hyv e7 ry=>?_
         have f27:=f26.trans e7
         have Ib7:=Ib.ex f27
         have hu7:=f27 _ _ hub
         have hU7:=hUb.ex f27 Ib.kd
         have hyv:=hyv.bnd
         have hr:∃r,cP tg1 tt1 te M (bR ρ1 vs1) (es.drop (j+1))=.ok r/\r1=zs++y::r:=by
          cases q1:cP tg1 tt1 te M (bR ρ1 vs1) (es.drop (j+1)) with
          |bad=>rw[q1]at hyv;exact False.elim hyv
          |exc y=>exact absurd q1 mH
          |ok r=>
           rw[q1]at hyv
           exact⟨r,rfl,hyv⟩
         obtain⟨r,hr,hr1'⟩:=hr
         have hll:us'.length < 50000:=by
          rw[hUb.length]
          rw[ht,hr1']at hlen
          simp at hlen ⊢
          omega
         refine⟨us',hu7,sz_lt (Nat.lt_trans hll (by decide)),Ex.mut (fb.trans f27) nD,Ib7.loc nm hu7 lD,fm true _ _ _ _ Ib7.kd (w1.ex _ _ _ Ib.kd Cb f27) (Gr.upd Ib7.kd hu7 (.inr lD)),hlj,us'++[v],zs++[y],upd_same,?_,?_⟩
         ·rw[←List.append_assoc]
          exact YK Ib7.kd hu7 lD (hU7.append (.cons ry .nil))
         ·rw[hr]
          show r1=_
          rw[hr1']
          simp
      ·have e:j=es.length:=by omega
       refine .inl ⟨w1.stop _ j Hb Cb e,?_⟩
       rw[e,arT]at hsb
       have hsb:r1=zs++[]:=hsb
       rw[arM]at hsb
       subst hsb
       refine⟨fb,hlt,us',ys++r1,hub,hUb,?_⟩
       rw[hr2]
       show total=_
       rw[ht,List.append_assoc]
  ·have e:i=ds.length:=by omega
   refine .inl ⟨w.stop _ i Ha Ca e,?_⟩
   rw[e,arT]at hs
   have hs:total=ys++[]:=hs
   rw[arM]at hs
   subst hs
   exact hQ D us Ha (yr e1 D nD) (e1.trans ea) hu hU
theorem aeo{it it1:IF}{tg tg1:fG}{js vs js1 vs1:List Nat}{tt tt1:QT}{te:QF}(hj:∀j∈js,j∈vs)(hj1:∀j∈js1,j∈vs1)(σ:L2.St)(H:Hp)(Q:VK)(h:tQ K aj W (Dq it tg vs tt it1 tg1 vs1 tt1 te) σ H Q) :
  tLc2 (tI K aj W false it) (xK K aj js tg) (jC K aj WF tt) (tI K aj WF true it1) (xK K aj js1 tg1) (jC K aj WF tt1) (tQ K aj WF te) vs vs1 σ H Q:=by
 obtain⟨g,ρ,M,I,h⟩:=h
 refine ahO hj hj1 σ H Q ⟨g,ρ,M,I,h.bnd.mono (fun xs hk l us H' nl e hl r=>?_) fun _ z=>z⟩
 refine hk (.ref l) H' e (.lst (.inl ⟨.inl hl,fun z=>?_⟩) (aM.less (g:=g.add l) (g':=g) rfl (fun a z=>?_) r))
 ·exact I.kd.fresh nl z
 ·rcases z with z|z|z
  ·exact .inl z
  ·exact .inr (.inl z)
  ·exact .inr (.inr (.inl z))
end
section
variable{X:Cx}{aj:aR}{W:WX}{q:Bool}{elt tg iter tg1 iter1:Expr}{ifs ifs1:List Expr}{scope:Scope}{own:List (Str×Nat)}{it it1:IF}{tgf tgf1:fG}{js js1 vs1:List Nat}{tt tt1:QT}{te:QF}{pos cpos:Pos}
theorem ai1(hc:X.calm=true)(hN:X.N.Nodup)(hi:QI aj X W false tg iter it)(ok:blkC X.N X.env.scope scope own=true)(hv:∀i∈vs1,i∈own.map (·.2))(hj:∀j∈js,j∈own.map (·.2))(hj1:∀j∈js1,j∈vs1)
  (hg:∀(s:Shared) (H:Hp) (C:Addr) (cl:List (Str×Addr)) (fp:List Addr),QG aj (X.blk s H scope (compEnvC scope cl C X.env) fp) tg js tgf)
  (ht:∀(s:Shared) (H:Hp) (C:Addr) (cl:List (Str×Addr)) (fp:List Addr),PTs (X.blk s H scope (compEnvC scope cl C X.env) fp) ifs (jC X.K aj WF tt))
  (hi1:∀(s:Shared) (H:Hp) (C:Addr) (cl:List (Str×Addr)) (fp:List Addr),QI aj (X.blk s H scope (compEnvC scope cl C X.env) fp) WF true tg1 iter1 it1)
  (hg1:∀(s:Shared) (H:Hp) (C:Addr) (cl:List (Str×Addr)) (fp:List Addr),QG aj (X.blk s H scope (compEnvC scope cl C X.env) fp) tg1 js1 tgf1)
  (ht1:∀(s:Shared) (H:Hp) (C:Addr) (cl:List (Str×Addr)) (fp:List Addr),PTs (X.blk s H scope (compEnvC scope cl C X.env) fp) ifs1 (jC X.K aj WF tt1))
  (he:∀(s:Shared) (H:Hp) (C:Addr) (cl:List (Str×Addr)) (fp:List Addr),QE aj (X.blk s H scope (compEnvC scope cl C X.env) fp) WF elt te) (hs:∀x,foldedSetIterable iter X.env x=pure x) (hs1:∀env x,foldedSetIterable iter1 env x=pure x) :
  QE aj X W (.ListComp elt [⟨tg,iter,ifs,0⟩,⟨tg1,iter1,ifs1,0⟩] scope pos) (Dq it tgf (own.map (·.2)) tt it1 tgf1 vs1 tt1 te):=
 PE.weak (pe_lc2 (g:=xK X.K aj js tgf) (tt:=jC X.K aj WF tt) (wi1:=tI X.K aj WF true it1) (g1:=xK X.K aj js1 tgf1) (tt1:=jC X.K aj WF tt1) (te:=tQ X.K aj WF te) hc hN hi (blkOk_by ok) hv (fun s H C cl fp=>hg s H C cl fp) ht (fun s H C cl fp=>hi1 s H C cl fp) (fun s H C cl fp=>hg1 s H C cl fp) ht1 (fun s H C cl fp=>he s H C cl fp) hs hs1) fun σ H Q h=>aeo hj hj1 σ H Q h
theorem aii{j:Nat}{y:Str}{py:Pos}(hc:X.calm=true)(hN:X.N.Nodup)(hy:X.N[j]?=some y)(hyl:X.env.scope.names.lookup y=some .local)(hsw:swapsWith (.ListComp elt [⟨tg,iter,ifs,0⟩,⟨tg1,iter1,ifs1,0⟩] scope cpos) (some (.Name y py)) pos.line X.env=pure true)
  (hi:QI aj X W false tg iter it) (ok:blkC X.N X.env.scope scope own=true) (hv:∀i∈vs1,i∈own.map (·.2)) (hj:∀j∈js,j∈own.map (·.2)) (hj1:∀j∈js1,j∈vs1)
  (hg:∀(s:Shared) (H:Hp) (C:Addr) (cl:List (Str×Addr)) (fp:List Addr),QG aj (X.blk s H scope (compEnvC scope cl C X.env) fp) tg js tgf)
  (ht:∀(s:Shared) (H:Hp) (C:Addr) (cl:List (Str×Addr)) (fp:List Addr),PTs (X.blk s H scope (compEnvC scope cl C X.env) fp) ifs (jC X.K aj WF tt))
  (hi1:∀(s:Shared) (H:Hp) (C:Addr) (cl:List (Str×Addr)) (fp:List Addr),QI aj (X.blk s H scope (compEnvC scope cl C X.env) fp) WF true tg1 iter1 it1)
  (hg1:∀(s:Shared) (H:Hp) (C:Addr) (cl:List (Str×Addr)) (fp:List Addr),QG aj (X.blk s H scope (compEnvC scope cl C X.env) fp) tg1 js1 tgf1)
  (ht1:∀(s:Shared) (H:Hp) (C:Addr) (cl:List (Str×Addr)) (fp:List Addr),PTs (X.blk s H scope (compEnvC scope cl C X.env) fp) ifs1 (jC X.K aj WF tt1))
  (he:∀(s:Shared) (H:Hp) (C:Addr) (cl:List (Str×Addr)) (fp:List Addr),QE aj (X.blk s H scope (compEnvC scope cl C X.env) fp) WF elt te) (hs:∀x,foldedSetIterable iter X.env x=pure x) (hs1:∀env x,foldedSetIterable iter1 env x=pure x) :
  SE aj X W q (.Assign [.Name y py] (.ListComp elt [⟨tg,iter,ifs,0⟩,⟨tg1,iter1,ifs1,0⟩] scope cpos) pos) (bf (aF j) (gOf (Dq it tgf (own.map (·.2)) tt it1 tgf1 vs1 tt1 te))):=by
 refine PS.weak (ps_setLc2 (g:=xK X.K aj js tgf) (tt:=jC X.K aj WF tt) (wi1:=tI X.K aj WF true it1) (g1:=xK X.K aj js1 tgf1) (tt1:=jC X.K aj WF tt1) (te:=tQ X.K aj WF te) hc hN hy hyl hsw hi (blkOk_by ok) hv (fun s H C cl fp=>hg s H C cl fp) ht (fun s H C cl fp=>hi1 s H C cl fp) (fun s H C cl fp=>hg1 s H C cl fp) ht1 (fun s H C cl fp=>he s H C cl fp) hs hs1) fun D σ H ⟨g,ρ,M,I,z⟩=>?_
 refine aeo hj hj1 σ H _ ⟨g,ρ,M,I,(Out.ju (dB (σ:=σ) z)).mono (fun d kk v H' e r=>?_) fun x kk H' c dd e r=>kk H' g c dd (Gr.ex e) (I.ex e) r⟩
 exact kk _ H' g (Gr.ex e) ((I.ex e).set r)
end
def U0(neg:Bool)(kvs:List (Str×Dat))(k:QF):QF:=fun M ρ=>(k M ρ).bind fun d=>match d with
 |.str x=>.ok (.bool (neg ^^ (kvs.lookup x).isSome))
 |_=>.bad
def abQ(kvs:List (Str×Dat))(k:QF):QF:=fun M ρ=>(k M ρ).bind fun d=>match d with
 |.str x=>match kvs.lookup x with
  |some y=>.ok y
  |none=>.bad
 |_=>.bad
section
variable{X:Cx}{aj:aR}{W:WX}{a:Expr}{fa:QF}{x:Str}{p pos:Pos}{kvs:List (Str×Dat)}{k:Nat}
theorem adn{neg:Bool}{d:Addr}(D:abG X.w X.K d kvs)(σ:L2.St)(H:Hp)(Q:VK)(h:tQ X.K aj W (U0 neg kvs fa) σ H Q) :
  tOp (fun x y H Q=>∃(z:Str) (r:Option Value),x=.str z/\y=.ref d/\PySem.W.nsIn X.K d z=some r/\Q (.bl (neg ^^ r.isSome)) H) (tW X.K aj W fa) (tC (.ref d)) σ H Q:=by
 obtain⟨g,ρ,M,I,h⟩:=h
 refine tW.go I h.bnd fun e v H1 h1 e1 r1=>?_
 split at h1
 ·next z=>
  cases jZ r1
  obtain⟨es,n,_,_,hl⟩:=D
  have hz:=hl z
  cases hk:kvs.lookup z with
  |none=>
   rw[hk]at hz h1
   exact⟨z,none,rfl,rfl,hz,h1 _ H1 e1 (.bl _)⟩
  |some d'=>
   rw[hk]at hz h1
   obtain⟨v,u,h2,_⟩:=hz
   exact⟨z,some u,rfl,rfl,h2,h1 _ H1 e1 (.bl _)⟩
 ·exact False.elim h1
theorem opG{neg:Bool}{op:CmpOp}{d:Addr}(hn:(op=.In/\neg=false)∨(op=.NotIn/\neg=true))(D:abG X.w X.K d kvs):OpR X (compareOp op) (fun x y H Q=>∃(z:Str) (r:Option Value),x=.str z/\y=.ref d/\PySem.W.nsIn X.K d z=some r/\Q (.bl (neg ^^ r.isSome)) H):=by
 obtain⟨es,n,D,_⟩:=D
 rcases hn with⟨rfl,rfl⟩|⟨rfl,rfl⟩
 ·have:=op_in_kd (X:=X) D
  simpa only[Bool.false_xor] using this
 ·have:=op_notIn_kd (X:=X) D
  simpa only[Bool.true_xor] using this
theorem akX{neg:Bool}{op:CmpOp}(hn:(op=.In/\neg=false)∨(op=.NotIn/\neg=true))(g:bh X.prog X.w X.K X.mg X.base aj k x (.dic kvs))(hg:Gl X x)(hd:(x==("__debug__" : Str))=false)(ha:QW aj X W a fa):QE aj X W (.Compare a [op] [.Name x p] pos) (U0 neg kvs fa)/\tK aj X W (.Compare a [op] [.Name x p] pos) (bA (U0 neg kvs fa)):=by
 obtain⟨d,hm,D⟩:=g
 have hb:PE X (.Name x p) (tC (.ref d)):=pe_glob hg hm rfl hd
 refine⟨PE.weak (pe_cmpR (opG hn D) ha hb (by cases op <;> rfl)) fun σ H Q h=>adn D σ H Q h,PT.weak (pt_cmpR (opG hn D) ha hb (by cases op <;> rfl)) fun σ H Q ⟨g,ρ,M,I,h⟩=>?_⟩
 refine adn D σ H _ ⟨g,ρ,M,I,h.bnd.mono (fun d h1 v H' e' r'=>?_) fun _ z=>z⟩
 obtain⟨k,h2,h3⟩:=Eo r'.weak h1
 exact⟨k,h2,h3 H' e'⟩
theorem aiF(g:bh X.prog X.w X.K X.mg X.base aj k x (.dic kvs))(hg:Gl X x)(hd:(x==("__debug__" : Str))=false)(ha:QW aj X W a fa)(hp:PlainIx a):QE aj X W (.Subscript (.Name x p) a pos) (abQ kvs fa):=by
 obtain⟨d,hm,es,n,D,_,hl⟩:=g
 have hb:PE X (.Name x p) (tC (.ref d)):=pe_glob hg hm rfl hd
 refine PE.weak (pe_ix ix_kdict hb ha hp) fun σ H Q ⟨g,ρ,M,I,h⟩=>?_
 refine tW.go I h.bnd fun e v H1 h1 e1 r1=>?_
 split at h1
 ·next z=>
  cases jZ r1
  have hz:=hl z
  split at h1
  ·next y hk=>
   rw[hk]at hz
   obtain⟨v,u,h2,h3,h4⟩:=hz
   exact⟨d,z,v,rfl,rfl,⟨es,n,u,D.at_,D.lit,h2,h3⟩,h1 v H1 e1 (h4 g H1)⟩
  ·exact False.elim h1
 ·exact False.elim h1
end
structure Hs where
 Ms:List (Str×List (Str×MV))
 ft:Ft
 xm:List (Str×List (Str×Bool))
 df:List (Str×Bool)
 xf:List (Str×List Str)
structure Us(P:Program)(w:World)(K:aqV)(mg:Str->Option Value)(base:Heap)(aj:aR)(k:Nat)(h:Hs):Prop where
 ms:∀m tb,h.Ms.lookup m=some tb->∀c v,tb.lookup c=some v->bZ P w K mg base aj k c m v
 fk:LR h.ft aj
 co:jK K aj
 hw:aj.w=w
 xm:∀y tab,h.xm.lookup y=some tab->(∃D,aj y=some D)/\acy K aj y fun x=>tab.lookup x
 xf:∀y fs,h.xf.lookup y=some fs->∃C,aj y=some C/\XfC K C/\∀f∈fs,PySem.W.findIn K (.ref C) f=some none
structure Tc where
 N:List Str
 sc:Scope
 G:List (Str×GV)
 B:List Str
 hs:Hs
 ml:List Str
 top:Bool
structure Amb(aj:aR)(c:Tc)(X:Cx)(W:WX)(k:Nat):Prop where
 hN:X.N=c.N
 hs:X.env.scope=c.sc
 calm:X.calm=true
 nd:X.N.Nodup
 tk:Takes X W
 rm:Room k X.A
 gl:∀x v,c.G.lookup x=some v->bh X.prog X.w X.K X.mg X.base aj k x v
 bl:∀x,x∈c.B->X.mg x=none
 fn:c.top=true->∀x,X.fn x=true
 hk:Us X.prog X.w X.K X.mg X.base aj k c.hs
def gd{α:Type}(b:Bool)(o:Option α):Option α:=match b with
 |true=>o
 |false=>none
theorem aX{α:Type}{b:Bool}{o:Option α}{x:α}:gd b o=some x↔b=true/\o=some x:=by
 cases b
 ·exact⟨fun h=>(nomatch h),fun h=>(nomatch h.1)⟩
 ·exact⟨fun h=>⟨rfl,h⟩,fun h=>h.2⟩
def idx:List Str->Str->Option Nat
 |[],_=>none
 |y::ys,x=>match y==x with
  |true=>some 0
  |false=>(idx ys x).map (· + 1)
theorem Uv:∀{N:List Str} {x:Str} {i:Nat},idx N x=some i->N[i]?=some x
 |[],_,_,h=>nomatch h
 |y::ys,x,i,h=>by
  rw[idx]at h
  split at h
  ·next e=>
   cases h
   rw[List.getElem?_cons_zero,eq_of_beq e]
  ·rw[arF]at h
   obtain⟨j,h1,rfl⟩:=h
   rw[List.getElem?_cons_succ]
   exact Uv h1
def afs(sc:Scope)(x:Str):Bool:=match sc.names.lookup x with
 |some .local=>true
 |some .cell=>true
 |some .free=>true
 |_=>false
theorem ah7{sc:Scope}{x:Str}(h:afs sc x=true):Vis sc x:=by
 unfold afs at h
 unfold Vis
 split at h
 ·next e=>exact .inl e
 ·next e=>exact .inr (.inl e)
 ·next e=>exact .inr (.inr e)
 ·cases h
def Gn(x:Str):Bool:=(x==("__debug__" : Str)) || (x==("__classdict__" : Str))
theorem ug{x:Str}(h:Gn x=false):(x==("__debug__" : Str))=false/\(x==("__classdict__" : Str))=false:=by
 unfold Gn at h
 rw[Bool.or_eq_false_iff]at h
 exact h
def FZ(sc:Scope)(x:Str):Bool:=match sc.names.lookup x with
 |some .globalImplicit=>true
 |_=>false
def GJ(c:Tc)(x:Str):Option Nat:=gd (afs c.sc x&&!Gn x) (idx c.N x)
def aiw(c:Tc)(x:Str):Bool:=match c.sc.names.lookup x with
 |some .local=>true
 |some .cell=>c.top
 |_=>false
def vN(c:Tc)(x:Str):Option Nat:=gd (aiw c x) (idx c.N x)
section
variable{aj:aR}{c:Tc}{X:Cx}{W:WX}{k:Nat}{x:Str}{i:Nat}
theorem uo(a:Amb aj c X W k)(h:FZ c.sc x=true):Gl X x:=by
 unfold FZ at h
 unfold Gl PySem.Env.kindOf
 rw[a.hs]
 split at h
 ·assumption
 ·cases h
theorem wO(a:Amb aj c X W k)(h:GJ c x=some i):X.N[i]?=some x/\Vis X.env.scope x/\(x==("__debug__" : Str))=false/\(x==("__classdict__" : Str))=false:=by
 obtain⟨h1,h2⟩:=aX.mp h
 rw[aqW]at h1
 obtain⟨d1,d2⟩:=ug (by simpa using h1.2)
 exact⟨by rw[a.hN];exact Uv h2,by rw[a.hs];exact ah7 h1.1,d1,d2⟩
theorem m7(a:Amb aj c X W k)(h:vN c x=some i):X.N[i]?=some x/\L2.Loc X.env.scope x/\(X.fn x=true∨X.env.scope.names.lookup x=some .local):=by
 obtain⟨h1,h2⟩:=aX.mp h
 unfold aiw at h1
 refine⟨by rw[a.hN];exact Uv h2,?_⟩
 rw[a.hs]
 unfold L2.Loc
 split at h1
 ·next e=>exact⟨.inl e,.inr e⟩
 ·next e=>exact⟨.inr e,.inl (a.fn h1 x)⟩
 ·cases h1
def tY(c:Tc)(x y:Str):Bool:=(x==y)&&(FZ c.sc x&&c.B.contains x)
theorem mV{y:Str}(a:Amb aj c X W k)(h:tY c x y=true):x=y/\Gl X x/\X.mg x=none:=by
 unfold tY at h
 rw[aqW,aqW]at h
 exact⟨eq_of_beq h.1,uo a h.2.1,a.bl x (by simpa using h.2.2)⟩
end
def yH:Expr->Bool
 |.Set _ _ _=>true
 |_=>false
theorem CK{b:Expr}{op:CmpOp}(h:yH b=false):behindInMarks op b=false:=by
 cases b <;> first | rfl | cases h
theorem V3{b c:Expr}{op op':CmpOp}(h:yH c=false):lastMarks [op,op'] [b,c]=false:=CK h
theorem qu{e:Expr}{env:PySem.Env}(h:yH e=false):∀x,foldedSetIterable e env x=pure x:=fun x=>by
 cases e <;> first | rfl | cases h
def Qu:Expr->Bool
 |.Slice _ _ _ _=>true
 |_=>false
def akv:Operator->Option (Dat->Dat->Out Dat)
 |.Add=>some gK
 |.Sub=>some pB
 |.Mult=>some Bv
 |.FloorDiv=>some zK
 |.Mod=>some jx
 |.Pow=>some Zr
 |_=>none
def Ot:CmpOp->Option (Dat->Dat->Out Dat)
 |.Eq=>some cG
 |.NotEq=>some yO
 |.Lt=>some KZ
 |.LtE=>some rG
 |.Gt=>some Wz
 |.GtE=>some geD
 |.In=>some (inD false)
 |.NotIn=>some (inD true)
 |_=>none
theorem agE{op:Operator}{o:Dat->Dat->Out Dat}(h:akv op=some o)(X:Cx)(aj:aR)(W:WX):∃r,OpR X (binaryOp op) r/\qw aj X.K W o r:=by
 cases op <;> cases h
 ·exact⟨_,agF,ajM⟩
 ·exact⟨_,op_sub,aiJ⟩
 ·exact⟨_,op_mul,ajn⟩
 ·exact⟨_,op_mod,ajB⟩
 ·exact⟨_,op_pow,aiA⟩
 ·exact⟨_,op_fdiv,aj1⟩
theorem Cz{op:CmpOp}{o:Dat->Dat->Out Dat}(h:Ot op=some o){X:Cx}{k:Nat}(hr:Room k X.A)(aj:aR)(W:WX):∃r,OpR X (compareOp op) r/\qw aj X.K W o r:=by
 have h65:X.A.units+65 < cLine:=by have:=hr.un;omega
 cases op <;> cases h
 ·exact⟨_,ajh hr.units,als⟩
 ·exact⟨_,akm hr.units,alM⟩
 ·exact⟨_,ajI h65,alu⟩
 ·exact⟨_,op_le,alD⟩
 ·exact⟨_,op_gt,alv⟩
 ·exact⟨_,op_ge,alk⟩
 ·exact⟨_,ai6 h65,af8⟩
 ·exact⟨_,aeN h65,af8⟩
def TV:Expr->Option Dat
 |.Constant .none _ _=>some .none
 |.Constant (.bool b) _ _=>some (.bool b)
 |_=>none
theorem aaR{e:Expr}{d:Dat}{X:Cx}(h:TV e=some d):∃v,scD d=some v/\(v=.non∨∃b,v=.bl b)/\PE X e (tC v):=by
 unfold TV at h
 split at h
 ·cases h;exact⟨_,rfl,.inl rfl,pe_non⟩
 ·cases h;exact⟨_,rfl,.inr ⟨_,rfl⟩,pe_bl⟩
 ·cases h
def isN:CmpOp->Option Bool
 |.Is=>some false
 |.IsNot=>some true
 |_=>none
theorem ade{op:CmpOp}{neg:Bool}{v:V}{X:Cx}(h:isN op=some neg)(hv:v=.non∨∃b,v=.bl b):OpR X (compareOp op) (YL neg v):=by
 cases op <;> cases h
 ·exact aj8 hv
 ·exact adg hv
def b1D(x:Str):Option (Dat->Out Dat):=
 if x=="len" then some jR else if x=="abs" then some O2 else if x=="sum" then some ZS else if x=="max" then some maxD else if x=="all" then some Ik else if x=="any" then some P0
 else if x=="tuple" then some jX else if x=="list" then some Nb else if x=="int" then some intD else
 none
def b2D(x:Str):Option (Dat->Dat->Out Dat):=if x=="max" then some tL else if x=="min" then some Jm else none
theorem ai0{x:Str}{o:Dat->Out Dat}{X:Cx}(hc:X.calm=true)(h:b1D x=some o)(aj:aR)(W:WX):∃(f:Value) (id:String) (r:List V->Hp->VK->Prop),(f=.builtin id∨f=.type id)/\CallR X f r/\JV aj X.K W o r/\BV f x:=by
 unfold b1D at h
 split at h
 ·next e=>cases h;cases eq_of_beq e;exact⟨_,_,_,.inl rfl,aiO,ai4,by decide +kernel,by decide,by decide⟩
 split at h
 ·next e=>cases h;cases eq_of_beq e;exact⟨_,_,_,.inl rfl,call_abs,aj7,by decide +kernel,by decide,by decide⟩
 split at h
 ·next e=>cases h;cases eq_of_beq e;exact⟨_,_,_,.inl rfl,cr_sum hc,ajU,by decide +kernel,by decide,by decide⟩
 split at h
 ·next e=>cases h;cases eq_of_beq e;exact⟨_,_,_,.inl rfl,cr_max hc,aiE,by decide +kernel,by decide,by decide⟩
 split at h
 ·next e=>cases h;cases eq_of_beq e;exact⟨_,_,_,.inl rfl,cr_all hc,ajp,by decide +kernel,by decide,by decide⟩
 split at h
 ·next e=>cases h;cases eq_of_beq e;exact⟨_,_,_,.inl rfl,cr_any hc,aiQ,by decide +kernel,by decide,by decide⟩
 split at h
 ·next e=>cases h;cases eq_of_beq e;exact⟨_,_,_,.inr rfl,call_tuple_of,afq,by decide +kernel,by decide,by decide⟩
 split at h
 ·next e=>cases h;cases eq_of_beq e;exact⟨_,_,_,.inr rfl,call_list_of,ahb,by decide +kernel,by decide,by decide⟩
 split at h
 ·next e=>cases h;cases eq_of_beq e;exact⟨_,_,_,.inr rfl,akr,aiK,by decide +kernel,by decide,by decide⟩
 ·cases h
theorem ajl{x:Str}{o:Dat->Dat->Out Dat}{X:Cx}(hc:X.calm=true)(h:b2D x=some o)(aj:aR)(W:WX):∃(f:Value) (id:String) (r:List V->Hp->VK->Prop),(f=.builtin id∨f=.type id)/\CallR X f r/\Fn2 aj X.K W o r/\BV f x:=by
 unfold b2D at h
 split at h
 ·next e=>cases h;cases eq_of_beq e;exact⟨_,_,_,.inl rfl,call_max2 hc,ahC,by decide +kernel,by decide,by decide⟩
 split at h
 ·next e=>cases h;cases eq_of_beq e;exact⟨_,_,_,.inl rfl,call_min2 hc,agQ,by decide +kernel,by decide,by decide⟩
 ·cases h
def tyN(x:Str):Option Om:=if x=="int" then some .int else if x=="bool" then some .bool else if x=="str" then some .str else if x=="tuple" then some .tuple else if x=="list" then some .list else none
theorem aks{x:Str}{t:Om}(h:tyN x=some t):BV (.type t.name) x:=by
 unfold tyN at h
 split at h
 ·next e=>cases h;cases eq_of_beq e;exact⟨by decide +kernel,by decide,by decide⟩
 split at h
 ·next e=>cases h;cases eq_of_beq e;exact⟨by decide +kernel,by decide,by decide⟩
 split at h
 ·next e=>cases h;cases eq_of_beq e;exact⟨by decide +kernel,by decide,by decide⟩
 split at h
 ·next e=>cases h;cases eq_of_beq e;exact⟨by decide +kernel,by decide,by decide⟩
 split at h
 ·next e=>cases h;cases eq_of_beq e;exact⟨by decide +kernel,by decide,by decide⟩
 ·cases h
structure Tr where
 E:Tc->Expr->Option QF
 W:Tc->Expr->Option QF
 T:Tc->Expr->Option QT
 I:Tc->Bool->Expr->Expr->Option IF
structure Tr.Ok(t:Tr):Prop where
 oe:∀{aj:aR} {c:Tc} {X:Cx} {W:WX} {k:Nat},Amb aj c X W k->∀{e:Expr} {f:QF},t.E c e=some f->QE aj X W e f
 ow:∀{aj:aR} {c:Tc} {X:Cx} {W:WX} {k:Nat},Amb aj c X W k->∀{e:Expr} {f:QF},t.W c e=some f->QW aj X W e f
 ot:∀{aj:aR} {c:Tc} {X:Cx} {W:WX} {k:Nat},Amb aj c X W k->∀{e:Expr} {f:QT},t.T c e=some f->tK aj X W e f
 oi:∀{aj:aR} {c:Tc} {X:Cx} {W:WX} {k:Nat},Amb aj c X W k->∀{firm:Bool} {tg e:Expr} {f:IF},t.I c firm tg e=some f->QI aj X W firm tg e f
def JL(t:Tr)(c:Tc):List Expr->Option QA
 |[]=>some au
 |a::es=>gd (nst a) ((t.E c a).bind fun fa=>(JL t c es).bind fun fr=>some (ak fa fr))
section
variable{aj:aR}{c:Tc}{X:Cx}{W:WX}{k:Nat}{t:Tr}
theorem vD(o:t.Ok)(a:Amb aj c X W k):∀{es:List Expr} {f:QA},JL t c es=some f->Hw aj X W es f/\es.all nst=true/\∀M ρ ds,f M ρ=.ok ds->ds.length=es.length
 |[],f,h=>by
  cases h
  exact⟨ake,rfl,fun M ρ ds e=>by cases e;rfl⟩
 |e::es,f,h=>by
  rw[JL,aX]at h
  obtain⟨hs,h⟩:=h
  obtain⟨fa,h1,h⟩:=aqU.mp h
  obtain⟨fr,h2,h⟩:=aqU.mp h
  cases h
  obtain⟨i1,i2,i3⟩:=vD o a h2
  refine⟨ahV (o.oe a h1) i1 (cD hs es),by simp[hs,i2],fun M ρ ds e=>?_⟩
  unfold ak at e
  cases hf:fa M ρ with
  |ok d=>
   rw[hf]at e
   cases hr:fr M ρ with
   |ok dr=>
    rw[hr]at e
    cases e
    simp[i3 M ρ dr hr]
   |exc y=>rw[hr]at e;cases e
   |bad=>rw[hr]at e;cases e
  |exc y=>rw[hf]at e;cases e
  |bad=>rw[hf]at e;cases e
end
def trO(t:Tr)(c:Tc):Option Expr->Option QO
 |none=>some xQ
 |some a=>(t.W c a).bind fun fa=>some (pN fa)
theorem adI{aj:aR}{c:Tc}{X:Cx}{W:WX}{k:Nat}{t:Tr}(o:t.Ok)(a:Amb aj c X W k){e:Option Expr}{f:QO}(h:trO t c e=some f):QOe aj X W e f:=by
 cases e with
 |none=>cases h;exact agZ
 |some e=>
  obtain⟨fa,h1,h⟩:=aqU.mp h
  cases h
  exact ahe (o.ow a h1)
def ZP(c:Tc):List Expr->Option (List Nat)
 |[]=>some []
 |.Name x _::es=>(vN c x).bind fun i=>(ZP c es).bind fun js=>some (i::js)
 |_::_=>none
def QZ(c:Tc):Expr->Option (List Nat×fG)
 |.Name x _=>(vN c x).bind fun i=>some ([i],aF i)
 |.Tuple es _ _=>(ZP c es).bind fun js=>some (js,bD js)
 |_=>none
theorem TJ{aj:aR}{c:Tc}{X:Cx}{W:WX}{k:Nat}(a:Amb aj c X W k):∀{es:List Expr} {js:List Nat},ZP c es=some js->Ro X es js
 |[],js,h=>by cases h;trivial
 |.Name x p::es,js,h=>by
  rw[ZP]at h
  obtain⟨i,h1,h⟩:=aqU.mp h
  obtain⟨r,h2,h⟩:=aqU.mp h
  cases h
  obtain⟨s1,s2,s3⟩:=m7 a h1
  exact⟨s1,s2,s3,TJ a h2⟩
theorem tV{aj:aR}{c:Tc}{X:Cx}{W:WX}{k:Nat}(a:Amb aj c X W k){e:Expr}{js:List Nat}{f:fG}(h:QZ c e=some (js,f)):QG aj X e js f:=by
 unfold QZ at h
 split at h
 ·obtain⟨i,h1,h⟩:=aqU.mp h
  cases h
  obtain⟨s1,s2,s3⟩:=m7 a h1
  exact Ux a.nd s1 s2 s3
 ·obtain⟨js',h1,h⟩:=aqU.mp h
  cases h
  exact aeA a.calm a.nd (TJ a h1)
 ·cases h
def Tc.inn(c:Tc)(scope:Scope):Tc:={ c with sc:=relS scope c.sc,top:=false }
theorem Amb.inn{aj:aR}{c:Tc}{X:Cx}{W:WX}{k:Nat}(a:Amb aj c X W k)(scope:Scope)(s:Shared)(H:Hp)(C:Addr)(cl:List (Str×Addr))(fp:List Addr):Amb aj (c.inn scope) (X.blk s H scope (compEnvC scope cl C X.env) fp) WF k where
 hN:=a.hN
 hs:=by
  show relS scope X.env.scope=relS scope c.sc
  rw[a.hs]
 calm:=a.calm
 nd:=a.nd
 tk:=aj9
 rm:=a.rm
 gl:=a.gl
 bl:=a.bl
 fn:=fun z=>nomatch z
 hk:=a.hk
def Oq:List Expr->List Nat->List (Str×Nat)
 |.Name x _::es,j::js=>(x,j)::Oq es js
 |_,_=>[]
def nH:Expr->List Nat->List (Str×Nat)
 |.Name x _,[j]=>[(x,j)]
 |.Tuple es _ _,js=>Oq es js
 |_,_=>[]
def Ls(js vs:List Nat):Bool:=js.all fun j=>vs.contains j
theorem oJ{js vs:List Nat}(h:Ls js vs=true):∀j∈js,j∈vs:=fun j hj=>by
 have:=arl.mp h j hj
 simpa using this
def OD(t:Tr)(c:Tc):List Expr->Option QT
 |[]=>some iG
 |[a]=>t.T c a
 |_=>none
theorem PTs.weak{X:Cx}{e:List Expr}{t t':TT}(h:PTs X e t)(k:∀σ H Q,t' σ H Q->t σ H Q):PTs X e t':=⟨fun pins s σ H Q I q=>h.run pins s σ H Q I (k σ H Q q)⟩
theorem uR{aj:aR}{c:Tc}{X:Cx}{W:WX}{k:Nat}{t:Tr}(o:t.Ok)(a:Amb aj c X W k){ifs:List Expr}{f:QT}(h:OD t c ifs=some f):PTs X ifs (jC X.K aj W f):=by
 unfold OD at h
 split at h
 ·cases h
  exact PTs.weak pts_nil fun σ H Q ⟨g,ρ,M,I,z⟩=>z H (Ex.refl H)
 ·exact pts_one (o.ot a h)
 ·cases h
def Yc(t:Tr)(c:Tc)(elt tg iter:Expr)(ifs:List Expr)(scope:Scope):Option QF:=
 (t.I c false tg iter).bind fun it=>(QZ (c.inn scope) tg).bind fun jt=>(OD t (c.inn scope) ifs).bind fun tt=>(t.E (c.inn scope) elt).bind fun te=>
  gd (blkC c.N c.sc scope (nH tg jt.1)&&(Ls jt.1 ((nH tg jt.1).map (·.2))&&!yH iter)) (some (eU it jt.2 ((nH tg jt.1).map (·.2)) tt te))
theorem aa7{aj:aR}{c:Tc}{X:Cx}{W:WX}{k:Nat}{t:Tr}(o:t.Ok)(a:Amb aj c X W k){elt tg iter:Expr}{ifs:List Expr}{scope:Scope}{pos:Pos}{f:QF}(h:Yc t c elt tg iter ifs scope=some f):QE aj X W (.ListComp elt [⟨tg,iter,ifs,0⟩] scope pos) f:=by
 unfold Yc at h
 obtain⟨it,h1,h⟩:=aqU.mp h
 obtain⟨⟨js,tf⟩,h2,h⟩:=aqU.mp h
 obtain⟨tt,h3,h⟩:=aqU.mp h
 obtain⟨te,h4,h⟩:=aqU.mp h
 obtain⟨hb,h⟩:=aX.mp h
 cases h
 simp only[aqW,ard]at hb
 obtain⟨b1,b2,b3⟩:=hb
 exact amk a.calm a.nd (o.oi a h1) (by rw[a.hN,a.hs];exact b1) (oJ b2) (fun s H C cl fp=>tV (a.inn scope s H C cl fp) h2) (fun s H C cl fp=>uR o (a.inn scope s H C cl fp) h3) (fun s H C cl fp=>o.oe (a.inn scope s H C cl fp) h4) (qu b3)
def Yt(t:Tr)(c:Tc)(x:Str)(e:Expr)(es:List Expr):Option QF:=match c.G.lookup x with
 |some (.fq n m)=>(JL t c (e::es)).bind fun as=>gd (FZ c.sc x&&(!Gn x&&decide ((e::es).length=n))) (some (aV m as))
 |some _=>none
 |none=>match es with
  |[]=>(b1D x).bind fun o=>(t.W c e).bind fun fa=>gd (tY c x x&&nst e) (some (dH o fa))
  |[.Name y p]=>match x=="isinstance" with
   |true=>(tyN y).bind fun ty=>(t.W c e).bind fun fa=>gd (tY c x x&&(tY c y y&&nst e)) (some (wB ty fa))
   |false=>(b2D x).bind fun o=>(t.W c e).bind fun fa=>(t.W c (.Name y p)).bind fun fb=>gd (tY c x x&&nst e) (some (aA o fa fb))
  |[e2]=>(b2D x).bind fun o=>(t.W c e).bind fun fa=>(t.W c e2).bind fun fb=>gd (tY c x x&&(nst e&&nst e2)) (some (aA o fa fb))
  |_=>none
theorem adM{aj:aR}{c:Tc}{X:Cx}{W:WX}{k:Nat}{x:Str}{o:Dat->Dat->Out Dat}{a b:Expr}{fa fb:QF}{p pos:Pos}(am:Amb aj c X W k)(h:b2D x=some o)(hg:tY c x x=true)(ha:QW aj X W a fa)(hb:QW aj X W b fb)(hs:nst a=true)(hs2:nst b=true):QE aj X W (.Call (.Name x p) [a,b] [] pos) (aA o fa fb):=by
 obtain⟨f,id,r,hf,hc,ho,hv⟩:=ajl am.calm h aj W
 obtain⟨_,hg,hm⟩:=mV am hg
 exact amb hf hc ho hg hm hv ha hb hs hs2
theorem aer{aj:aR}{c:Tc}{X:Cx}{W:WX}{k:Nat}{t:Tr}(o:t.Ok)(a:Amb aj c X W k){x:Str}{e:Expr}{es:List Expr}{p pos:Pos}{f:QF}(h:Yt t c x e es=some f):QE aj X W (.Call (.Name x p) (e::es) [] pos) f:=by
 unfold Yt at h
 split at h
 ·next n m hl=>
  obtain⟨as,h1,h⟩:=aqU.mp h
  obtain⟨hb,h⟩:=aX.mp h
  cases h
  simp only[aqW,ard,decide_eq_true_eq]at hb
  obtain⟨b1,b2,b3⟩:=hb
  obtain⟨fa,hm,hk,fd,ps,j,hj,hp,hB,F⟩:=a.gl x _ hl
  obtain⟨i1,i2,i3⟩:=vD o a h1
  exact ahv a.tk F (a.rm.mono hj) (uo a b1) hm hk hB i1 (b3.trans hp.symm) (ug b2).1 i2 i3
 ·cases h
 ·split at h
  ·obtain⟨o1,h1,h⟩:=aqU.mp h
   obtain⟨fa,h2,h⟩:=aqU.mp h
   obtain⟨hb,h⟩:=aX.mp h
   cases h
   rw[aqW]at hb
   obtain⟨f,id,r,hf,hc,ho,hv⟩:=ai0 a.calm h1 aj W
   obtain⟨_,hg,hm⟩:=mV a hb.1
   exact agj hf hc ho hg hm hv (o.ow a h2) hb.2
  ·split at h
   ·next ex=>
    obtain⟨ty,h1,h⟩:=aqU.mp h
    obtain⟨fa,h2,h⟩:=aqU.mp h
    obtain⟨hb,h⟩:=aX.mp h
    cases h
    simp only[aqW]at hb
    obtain⟨b1,b2,b3⟩:=hb
    obtain⟨_,hg,hm⟩:=mV a b1
    obtain⟨_,hg2,hm2⟩:=mV a b2
    cases eq_of_beq ex
    exact ai8 hg hm ⟨by decide +kernel,by decide,by decide⟩ hg2 hm2 (aks h1) (o.ow a h2) b3
   ·obtain⟨o1,h1,h⟩:=aqU.mp h
    obtain⟨fa,h2,h⟩:=aqU.mp h
    obtain⟨fb,h3,h⟩:=aqU.mp h
    obtain⟨hb,h⟩:=aX.mp h
    cases h
    rw[aqW]at hb
    exact adM a h1 hb.1 (o.ow a h2) (o.ow a h3) hb.2 rfl
  ·obtain⟨o1,h1,h⟩:=aqU.mp h
   obtain⟨fa,h2,h⟩:=aqU.mp h
   obtain⟨fb,h3,h⟩:=aqU.mp h
   obtain⟨hb,h⟩:=aX.mp h
   cases h
   simp only[aqW]at hb
   exact adM a h1 hb.1 (o.ow a h2) (o.ow a h3) hb.2.1 hb.2.2
  ·cases h
def stE(t:Tr)(c:Tc):Expr->Option QF
 |.Name x _=>(match GJ c x with
  |some i=>some (aq i)
  |none=>match c.G.lookup x with
   |some (.con d)=>gd (FZ c.sc x&&!Gn x) (some (qC d))
   |_=>none)
 |.Constant (.int i) _ _=>some (qC (.int i))
 |.Constant (.str x) _ _=>some (qC (.str x))
 |.Constant (.bool x) _ _=>some (qC (.bool x))
 |.Constant .none _ _=>some (qC .none)
 |.BinOp a op b _=>(akv op).bind fun o=>(t.W c a).bind fun fa=>(t.W c b).bind fun fb=>some (aA o fa fb)
 |.UnaryOp .USub a _=>(t.W c a).bind fun fa=>some (dH Vd fa)
 |.UnaryOp .Not a _=>(t.W c a).bind fun fa=>some (Qz fa)
 |.BoolOp _ [a] _=>t.E c a
 |.BoolOp .And (a::b::r) p=>(t.E c a).bind fun fa=>(t.E c (.BoolOp .And (b::r) p)).bind fun fb=>some (yx fa fb)
 |.BoolOp .Or (a::b::r) p=>(t.E c a).bind fun fa=>(t.E c (.BoolOp .Or (b::r) p)).bind fun fb=>some (afw fa fb)
 |.Compare a [op] [b] _=>(match isN op with
  |some neg=>(TV b).bind fun d=>(t.W c a).bind fun fa=>some (yw neg d fa)
  |none=>(Ot op).bind fun o=>(t.W c a).bind fun fa=>(t.W c b).bind fun fb=>gd (!yH b) (some (aA o fa fb)))
 |.Compare a [op,op'] [b,b2] _=>(Ot op).bind fun o=>(Ot op').bind fun o'=>(t.W c a).bind fun fa=>(t.W c b).bind fun fb=>(t.W c b2).bind fun fc=>gd (!yH b2) (some (Vx (oY o o' fa fb fc)))
 |.IfExp d a b _=>(t.T c d).bind fun ta=>(t.E c a).bind fun fa=>(t.E c b).bind fun fb=>some (Qy ta fa fb)
 |.Tuple es _ _=>(JL t c es).bind fun fr=>some (bL fr)
 |.List es _=>(JL t c es).bind fun fr=>some (yE fr)
 |.Subscript a b _=>(match b with
  |.Slice lo hi none _=>(t.W c a).bind fun fa=>(trO t c lo).bind fun fl=>(trO t c hi).bind fun fh=>some (LK fa fl fh)
  |b=>gd (!Qu b) ((t.W c a).bind fun fa=>(t.W c b).bind fun fb=>some (aA aO fa fb)))
 |.ListComp elt [⟨tg,iter,ifs,0⟩] scope _=>Yc t c elt tg iter ifs scope
 |.Call (.Name x _) (e::es) [] _=>Yt t c x e es
 |_=>none
def stW(t:Tr)(c:Tc):Expr->Option QF
 |.Name x p=>(match GJ c x with
  |some i=>some (ao i)
  |none=>t.E c (.Name x p))
 |e=>t.E c e
def valT:Expr->Bool
 |.UnaryOp .Not _ _=>false
 |.BoolOp _ _ _=>false
 |.IfExp _ _ _ _=>false
 |.Compare _ _ _ _=>false
 |_=>true
theorem ahE{e:Expr}{env:PySem.Env}(h:valT e=true):∀whole,isTrue e env whole=(do let v ←whole;standAt e.pos;holding [v] (truthy v)):=fun whole=>by
 cases e with
 | UnaryOp o a p=>cases o <;> first | (with_unfolding_all rfl) | cases h
 |BoolOp _ _ _=>cases h
 |IfExp _ _ _ _=>cases h
 |Compare _ _ _ _=>cases h
 |_=>with_unfolding_all rfl
def stT(t:Tr)(c:Tc):Expr->Option QT
 |.UnaryOp .Not a _=>(t.T c a).bind fun ta=>some (jy ta)
 |.BoolOp _ [a] _=>t.T c a
 |.BoolOp .And (a::b::r) p=>(t.T c a).bind fun ta=>(t.T c (.BoolOp .And (b::r) p)).bind fun tb=>some (jV ta tb)
 |.BoolOp .Or (a::b::r) p=>(t.T c a).bind fun ta=>(t.T c (.BoolOp .Or (b::r) p)).bind fun tb=>some (Ml ta tb)
 |.Compare a [op] [b] _=>(match isN op with
  |some neg=>(TV b).bind fun d=>(t.W c a).bind fun fa=>some (bA (yw neg d fa))
  |none=>(Ot op).bind fun o=>(t.W c a).bind fun fa=>(t.W c b).bind fun fb=>gd (!yH b) (some (bA (aA o fa fb))))
 |.Compare a [op,op'] [b,b2] _=>(Ot op).bind fun o=>(Ot op').bind fun o'=>(t.W c a).bind fun fa=>(t.W c b).bind fun fb=>(t.W c b2).bind fun fc=>gd (!yH b2) (some (oY o o' fa fb fc))
 |e=>gd (valT e) ((t.W c e).bind fun fa=>some (gG fa))
def trF(t:Tr)(c:Tc)(firm:Bool)(e:Expr):Option QF:=match firm with
 |true=>t.E c e
 |false=>t.W c e
def isTup:Expr->Bool
 |.Tuple _ _ _=>true
 |_=>false
def stI(t:Tr)(c:Tc)(firm:Bool)(tg:Expr):Expr->Option IF
 |.Call (.Name x p) [a] [] pos=>(match tY c x "range" with
  |true=>(t.W c a).bind fun fa=>gd (nst a) (some (yZ fa))
  |false=>match tY c x "enumerate" with
   |true=>(trF t c firm a).bind fun fa=>gd (nst a&&isTup tg) (some (zW 0 fa))
   |false=>(trF t c firm (.Call (.Name x p) [a] [] pos)).bind fun fa=>some (cZ fa))
 |.Call (.Name x p) [a,b] [] pos=>(match tY c x "range" with
  |true=>(t.W c a).bind fun fa=>(t.W c b).bind fun fb=>gd (nst a&&nst b) (some (Cr fa fb))
  |false=>match tY c x "zip" with
   |true=>(trF t c firm a).bind fun fa=>(trF t c firm b).bind fun fb=>gd (nst a&&(nst b&&isTup tg)) (some (Fx fa fb))
   |false=>(trF t c firm (.Call (.Name x p) [a,b] [] pos)).bind fun fa=>some (cZ fa))
 |.Call (.Name x p) [a] [⟨some kw,.Constant (.int i) j kp,kp2⟩] pos=>gd (tY c x "enumerate"&&(kw=="start"&&(decide (-(2 ^ 63)<=i/\i < 2 ^ 63)&&(nst a&&isTup tg)))) ((trF t c firm a).bind fun fa=>some (zW i fa))
 |e=>(trF t c firm e).bind fun fa=>some (cZ fa)
theorem YX{b:Expr}(h:(!Qu b)=true):PlainIx b:=fun v i=>by
 cases b <;> first | rfl | cases h
section
variable{aj:aR}{c:Tc}{X:Cx}{W:WX}{k:Nat}{t:Tr}
theorem ak8(o:t.Ok)(a:Amb aj c X W k){e:Expr}{f:QF}(h:stE t c e=some f):QE aj X W e f:=by
 unfold stE at h
 split at h
 ·split at h
  ·next i hi=>
   cases h
   obtain⟨s1,s2,s3,s4⟩:=wO a hi
   exact ajg s1 s2 s3 s4
  ·split at h
   ·next d hl=>
    obtain⟨hb,h⟩:=aX.mp h
    cases h
    simp only[aqW,ard]at hb
    obtain⟨v,u,h1,h2,h3⟩:=a.gl _ _ hl
    exact PE.weak (pe_glob (uo a hb.1) h1 h2 (ug hb.2).1) fun σ H Q ⟨g,ρ,M,I,z⟩=>z v H (Ex.refl H) (h3 g H)
   ·cases h
 ·cases h;exact akL
 ·cases h;exact aiB
 ·cases h;exact alS
 ·cases h;exact aiC
 ·obtain⟨op,h1,h⟩:=aqU.mp h
  obtain⟨fa,h2,h⟩:=aqU.mp h
  obtain⟨fb,h3,h⟩:=aqU.mp h
  cases h
  obtain⟨r,r1,r2⟩:=agE h1 X aj W
  exact akh r1 r2 (o.ow a h2) (o.ow a h3)
 ·obtain⟨fa,h2,h⟩:=aqU.mp h
  cases h
  exact ajP (o.ow a h2)
 ·obtain⟨fa,h2,h⟩:=aqU.mp h
  cases h
  exact agD (o.ow a h2)
 ·exact pe_one (o.oe a h)
 ·obtain⟨fa,h2,h⟩:=aqU.mp h
  obtain⟨fb,h3,h⟩:=aqU.mp h
  cases h
  exact ah2 (o.oe a h2) (o.oe a h3)
 ·obtain⟨fa,h2,h⟩:=aqU.mp h
  obtain⟨fb,h3,h⟩:=aqU.mp h
  cases h
  exact ak2 (o.oe a h2) (o.oe a h3)
 ·split at h
  ·next neg hn=>
   obtain⟨d,h1,h⟩:=aqU.mp h
   obtain⟨fa,h2,h⟩:=aqU.mp h
   cases h
   obtain⟨v,v1,v2,v3⟩:=aaR (X:=X) h1
   refine alJ v1 (ade hn v2) (o.ow a h2) v3 (CK ?_)
   unfold TV at h1
   split at h1 <;> first | rfl | cases h1
  ·obtain⟨op,h1,h⟩:=aqU.mp h
   obtain⟨fa,h2,h⟩:=aqU.mp h
   obtain⟨fb,h3,h⟩:=aqU.mp h
   obtain⟨hb,h⟩:=aX.mp h
   cases h
   obtain⟨r,r1,r2⟩:=Cz h1 a.rm aj W
   exact agM r1 r2 (o.ow a h2) (o.ow a h3) (CK (by simpa using hb))
 ·obtain⟨op,h1,h⟩:=aqU.mp h
  obtain⟨op',h1',h⟩:=aqU.mp h
  obtain⟨fa,h2,h⟩:=aqU.mp h
  obtain⟨fb,h3,h⟩:=aqU.mp h
  obtain⟨fc,h4,h⟩:=aqU.mp h
  obtain⟨hb,h⟩:=aX.mp h
  cases h
  obtain⟨r,r1,r2⟩:=Cz h1 a.rm aj W
  obtain⟨r',r1',r2'⟩:=Cz h1' a.rm aj W
  exact afP r1 r1' r2 r2' (o.ow a h2) (o.ow a h3) (o.ow a h4) (V3 (by simpa using hb))
 ·obtain⟨ta,h1,h⟩:=aqU.mp h
  obtain⟨fa,h2,h⟩:=aqU.mp h
  obtain⟨fb,h3,h⟩:=aqU.mp h
  cases h
  exact aeU (o.ot a h1) (o.oe a h2) (o.oe a h3)
 ·obtain⟨fr,h1,h⟩:=aqU.mp h
  cases h
  exact ajA (vD o a h1).1
 ·obtain⟨fr,h1,h⟩:=aqU.mp h
  cases h
  exact ajR (vD o a h1).1
 ·split at h
  ·obtain⟨fa,h1,h⟩:=aqU.mp h
   obtain⟨fl,h2,h⟩:=aqU.mp h
   obtain⟨fh,h3,h⟩:=aqU.mp h
   cases h
   exact amf (o.ow a h1) (adI o a h2) (adI o a h3)
  ·obtain⟨hb,h⟩:=aX.mp h
   obtain⟨fa,h1,h⟩:=aqU.mp h
   obtain⟨fb,h2,h⟩:=aqU.mp h
   cases h
   exact alq (o.ow a h1) (o.ow a h2) (YX hb)
 ·exact aa7 o a h
 ·exact aer o a h
 ·cases h
theorem ajN(o:t.Ok)(a:Amb aj c X W k){e:Expr}{f:QF}(h:stW t c e=some f):QW aj X W e f:=by
 unfold stW at h
 split at h
 ·split at h
  ·next i hi=>
   cases h
   obtain⟨s1,s2,s3,s4⟩:=wO a hi
   exact ajz s1 s2 s3 s4
  ·exact(o.oe a h).w
 ·exact(o.oe a h).w
theorem ajr{a b:Expr}{rest:List Expr}{ta tb:QT}{pos:Pos}(ha:tK aj X W a ta)(hb:tK aj X W (.BoolOp .And (b::rest) pos) tb):tK aj X W (.BoolOp .And (a::b::rest) pos) (jV ta tb):=by
 have hb':QWt aj X W (.BoolOp .And (b::rest) pos) tb:=⟨fun wh pins s σ H Q I q=>hb.run pins s σ H Q I q⟩
 exact PW.pt (akT ha hb')
theorem alA{a b:Expr}{rest:List Expr}{ta tb:QT}{pos:Pos}(ha:tK aj X W a ta)(hb:tK aj X W (.BoolOp .Or (b::rest) pos) tb):tK aj X W (.BoolOp .Or (a::b::rest) pos) (Ml ta tb):=by
 have hb':QWt aj X W (.BoolOp .Or (b::rest) pos) tb:=⟨fun wh pins s σ H Q I q=>hb.run pins s σ H Q I q⟩
 exact PW.pt (alY ha hb')
theorem akd(o:t.Ok)(a:Amb aj c X W k){e:Expr}{f:QT}(h:stT t c e=some f):tK aj X W e f:=by
 unfold stT at h
 split at h
 ·obtain⟨ta,h1,h⟩:=aqU.mp h
  cases h
  exact aiH (o.ot a h1)
 ·next op _ _=>
  cases op
  ·exact PW.pt (pw_and1 (o.ot a h))
  ·exact PW.pt (pw_or1 (o.ot a h))
 ·obtain⟨ta,h1,h⟩:=aqU.mp h
  obtain⟨tb,h2,h⟩:=aqU.mp h
  cases h
  exact ajr (o.ot a h1) (o.ot a h2)
 ·obtain⟨ta,h1,h⟩:=aqU.mp h
  obtain⟨tb,h2,h⟩:=aqU.mp h
  cases h
  exact alA (o.ot a h1) (o.ot a h2)
 ·split at h
  ·next neg hn=>
   obtain⟨d,h1,h⟩:=aqU.mp h
   obtain⟨fa,h2,h⟩:=aqU.mp h
   cases h
   obtain⟨v,v1,v2,v3⟩:=aaR (X:=X) h1
   refine al7 v1 (ade hn v2) (o.ow a h2) v3 (CK ?_)
   unfold TV at h1
   split at h1 <;> first | rfl | cases h1
  ·obtain⟨op,h1,h⟩:=aqU.mp h
   obtain⟨fa,h2,h⟩:=aqU.mp h
   obtain⟨fb,h3,h⟩:=aqU.mp h
   obtain⟨hb,h⟩:=aX.mp h
   cases h
   obtain⟨r,r1,r2⟩:=Cz h1 a.rm aj W
   exact aji r1 r2 (o.ow a h2) (o.ow a h3) (CK (by simpa using hb))
 ·obtain⟨op,h1,h⟩:=aqU.mp h
  obtain⟨op',h1',h⟩:=aqU.mp h
  obtain⟨fa,h2,h⟩:=aqU.mp h
  obtain⟨fb,h3,h⟩:=aqU.mp h
  obtain⟨fc,h4,h⟩:=aqU.mp h
  obtain⟨hb,h⟩:=aX.mp h
  cases h
  obtain⟨r,r1,r2⟩:=Cz h1 a.rm aj W
  obtain⟨r',r1',r2'⟩:=Cz h1' a.rm aj W
  exact afu r1 r1' r2 r2' (o.ow a h2) (o.ow a h3) (o.ow a h4) (V3 (by simpa using hb))
 ·obtain⟨hv,h⟩:=aX.mp h
  obtain⟨fa,h1,h⟩:=aqU.mp h
  cases h
  exact aiN (o.ow a h1) (ahE hv)
theorem Dm(o:t.Ok)(a:Amb aj c X W k){firm:Bool}{e:Expr}{f:QF}(h:trF t c firm e=some f):QF' aj X W firm e f:=by
 cases firm
 ·exact o.ow a h
 ·exact o.oe a h
theorem Qc{e:Expr}(h:isTup e=true):∃es j p,e=.Tuple es j p:=by
 cases e <;> first | exact⟨_,_,_,rfl⟩ | cases h
theorem akt(o:t.Ok)(a:Amb aj c X W k){firm:Bool}{tg e:Expr}{f:IF}(h:stI t c firm tg e=some f):QI aj X W firm tg e f:=by
 unfold stI at h
 split at h
 ·split at h
  ·next hb=>
   obtain⟨fa,h1,h⟩:=aqU.mp h
   obtain⟨hs,h⟩:=aX.mp h
   cases h
   obtain⟨rfl,hg,hm⟩:=mV a hb
   exact acS hg hm (o.ow a h1) hs
  ·split at h
   ·next hb=>
    obtain⟨fa,h1,h⟩:=aqU.mp h
    obtain⟨hs,h⟩:=aX.mp h
    cases h
    obtain⟨rfl,hg,hm⟩:=mV a hb
    rw[aqW]at hs
    obtain⟨es,j,p,rfl⟩:=Qc hs.2
    exact ahw hg hm (Dm o a h1) hs.1
   ·obtain⟨fa,h1,h⟩:=aqU.mp h
    cases h
    exact X5 (Dm o a h1)
 ·split at h
  ·next hb=>
   obtain⟨fa,h1,h⟩:=aqU.mp h
   obtain⟨fb,h2,h⟩:=aqU.mp h
   obtain⟨hs,h⟩:=aX.mp h
   cases h
   obtain⟨rfl,hg,hm⟩:=mV a hb
   rw[aqW]at hs
   exact aez hg hm (o.ow a h1) (o.ow a h2) hs.1 hs.2
  ·split at h
   ·next hb=>
    obtain⟨fa,h1,h⟩:=aqU.mp h
    obtain⟨fb,h2,h⟩:=aqU.mp h
    obtain⟨hs,h⟩:=aX.mp h
    cases h
    obtain⟨rfl,hg,hm⟩:=mV a hb
    simp only[aqW]at hs
    obtain⟨es,j,p,rfl⟩:=Qc hs.2.2
    exact ak5 hg hm (Dm o a h1) (Dm o a h2) hs.1 hs.2.1
   ·obtain⟨fa,h1,h⟩:=aqU.mp h
    cases h
    exact X5 (Dm o a h1)
 ·obtain⟨hs,h⟩:=aX.mp h
  obtain⟨fa,h1,h⟩:=aqU.mp h
  cases h
  simp only[aqW,decide_eq_true_eq]at hs
  obtain⟨hb,hk,hi,hn,ht⟩:=hs
  obtain⟨rfl,hg,hm⟩:=mV a hb
  cases eq_of_beq hk
  obtain⟨es,j,p,rfl⟩:=Qc ht
  exact afJ hi.1 hi.2 hg hm (Dm o a h1) hn
 ·obtain⟨fa,h1,h⟩:=aqU.mp h
  cases h
  exact X5 (Dm o a h1)
end
def MV.n:MV->Nat
 |.q n _=>n
 |.g n _=>n
def MV.qt:MV->Bool
 |.q _ _=>true
 |.g _ _=>false
def tbN(tb:List (Str×MV))(n:Nat):Bool:=tb.all fun p=>p.2.n==n
def tbQ(tb:List (Str×MV)):Bool:=tb.all fun p=>p.2.qt
theorem qF{α:Type}{c:Str}{v:α}:∀{tb:List (Str×α)},tb.lookup c=some v->(c,v)∈tb
 |[],h=>nomatch h
 |(y,u)::r,h=>by
  rw[aru]at h
  split at h
  ·next e=>
   cases h
   rw[eq_of_beq e]
   exact aq1
  ·exact aq0 _ (qF h)
section
variable{aj:aR}{c:Tc}{X:Cx}{W:WX}{k:Nat}{t:Tr}
theorem XF(a:Amb aj c X W k){m:Str}{n:Nat}{tb:List (Str×MV)}(h:c.hs.Ms.lookup m=some tb)(hn:tbN tb n=true):HX X aj k m n tb:=fun y v hv=>by
 refine⟨a.hk.ms m tb h y v hv,?_⟩
 have:=arl.mp hn _ (qF hv)
 cases v <;> exact eq_of_beq this
def YH(t:Tr)(c:Tc)(o:Expr)(m:Str)(es:List Expr)(apos pos:Pos):Option QF:=
 (c.hs.Ms.lookup m).bind fun tb=>(t.W c o).bind fun fo=>(JL t c es).bind fun as=>
  gd (tbQ tb&&(tbN tb (es.length+1)&&(baseOk o&&(decide (es.length < 30)&&(apos.endLine==pos.line))))) (some (aP tb fo as))
theorem acH(o:t.Ok)(a:Amb aj c X W k){b:Expr}{m:Str}{es:List Expr}{apos pos:Pos}{f:QF}(h:YH t c b m es apos pos=some f):QE aj X W (.Call (.Attribute b m apos) es [] pos) f:=by
 unfold YH at h
 obtain⟨tb,h1,h⟩:=aqU.mp h
 obtain⟨fo,h2,h⟩:=aqU.mp h
 obtain⟨as,h3,h⟩:=aqU.mp h
 obtain⟨hb,h⟩:=aX.mp h
 cases h
 simp only[aqW,decide_eq_true_eq]at hb
 obtain⟨_,b2,b3,b4,b5⟩:=hb
 obtain⟨i1,i2,i3⟩:=vD o a h3
 cases es with
 |nil=>
  cases h3
  exact afh a.tk a.rm (XF a h1 b2) (o.ow a h2) b3 b5
 |cons e es=>exact aht a.tk a.rm (XF a h1 b2) (o.ow a h2) i1 i3 b3 i2 b5 b4
def inN:CmpOp->Option Bool
 |.In=>some false
 |.NotIn=>some true
 |_=>none
theorem aeC{op:CmpOp}{neg:Bool}(hr:Room k X.A)(h:inN op=some neg):OpR X (compareOp op) (rInD X neg):=by
 have h65:X.A.units+64 < cLine:=by have:=hr.un;omega
 cases op <;> cases h
 ·exact op_inD h65
 ·exact op_notInD h65
def ab2(t:Tr)(c:Tc)(e:Expr)(op:CmpOp)(o:Expr)(f:Str):Option QF:=
 (inN op).bind fun neg=>(c.hs.df.lookup f).bind fun _=>(t.E c e).bind fun fe=>(t.W c o).bind fun fo=>gd (baseOk o) (some (Pb neg f fe fo))
theorem aiT{o e:Expr}{f:Str}{p1 pos:Pos}{fo fk:QF}{neg:Bool}{op:CmpOp}(co:jK X.K aj)(hw:aj.w=X.w)(hr:OpR X (compareOp op) (rInD X neg))(hk:QE aj X W e fk)(ho:QW aj X W o fo)(hb:baseOk o=true):tK aj X W (.Compare e [op] [.Attribute o f p1] pos) (bA (Pb neg f fk fo)):=
 PT.weak (pt_cmpR hr hk (pe_fld ho (mW hb)) (by cases op <;> rfl)) fun σ H Q ⟨g,ρ,M,I,h⟩=>by
  refine agk co hw σ H _ ⟨g,ρ,M,I,h.bnd.mono (fun d h1 v H' e' r'=>?_) fun _ z=>z⟩
  obtain⟨k,h2,h3⟩:=Eo r'.weak h1
  exact⟨k,h2,h3 H' e'⟩
theorem abr(o:t.Ok)(a:Amb aj c X W k){e b:Expr}{op:CmpOp}{m:Str}{p1 pos:Pos}{f:QF}(h:ab2 t c e op b m=some f):QE aj X W (.Compare e [op] [.Attribute b m p1] pos) f/\tK aj X W (.Compare e [op] [.Attribute b m p1] pos) (bA f):=by
 unfold ab2 at h
 obtain⟨neg,h1,h⟩:=aqU.mp h
 obtain⟨_,_,h⟩:=aqU.mp h
 obtain⟨fe,h2,h⟩:=aqU.mp h
 obtain⟨fo,h3,h⟩:=aqU.mp h
 obtain⟨hb,h⟩:=aX.mp h
 cases h
 exact⟨ajC a.hk.co a.hk.hw (aeC a.rm h1) (o.oe a h2) (o.ow a h3) hb,aiT a.hk.co a.hk.hw (aeC a.rm h1) (o.oe a h2) (o.ow a h3) hb⟩
def Xr(t:Tr)(c:Tc)(e:Expr)(op:CmpOp)(x:Str):Option QF:=
 (inN op).bind fun neg=>match c.G.lookup x with
  |some (.dic kvs)=>(t.W c e).bind fun fe=>gd (FZ c.sc x&&!Gn x) (some (U0 neg kvs fe))
  |_=>none
theorem Zo(o:t.Ok)(a:Amb aj c X W k){e:Expr}{op:CmpOp}{x:Str}{p1 pos:Pos}{f:QF}(h:Xr t c e op x=some f):QE aj X W (.Compare e [op] [.Name x p1] pos) f/\tK aj X W (.Compare e [op] [.Name x p1] pos) (bA f):=by
 unfold Xr at h
 obtain⟨neg,h1,h⟩:=aqU.mp h
 split at h
 ·next kvs hl=>
  obtain⟨fe,h2,h⟩:=aqU.mp h
  obtain⟨hb,h⟩:=aX.mp h
  cases h
  simp only[aqW,ard]at hb
  refine akX ?_ (a.gl x _ hl) (uo a hb.1) (ug hb.2).1 (o.ow a h2)
  cases op <;> cases h1
  ·exact .inl ⟨rfl,rfl⟩
  ·exact .inr ⟨rfl,rfl⟩
 ·cases h
def Zq(t:Tr)(c:Tc):Expr->Option QF
 |.Call (.Name y _) [b] [] _=>(match tY c y "set" with
  |true=>(t.W c b).bind fun fb=>gd (nst b) (some (dH Qx fb))
  |false=>(t.W c (.Call (.Name y ⟨0,0,0,0⟩) [b] [] ⟨0,0,0,0⟩)).bind fun _=>none)
 |.SetComp elt [⟨tg,iter,ifs,0⟩] scope _=>(t.I c false tg iter).bind fun it=>(QZ (c.inn scope) tg).bind fun jt=>(OD t (c.inn scope) ifs).bind fun tt=>(t.E (c.inn scope) elt).bind fun te=>
  gd (blkC c.N c.sc scope (nH tg jt.1)&&(Ls jt.1 ((nH tg jt.1).map (·.2))&&!yH iter)) (some (Cu it jt.2 ((nH tg jt.1).map (·.2)) tt te))
 |e=>(t.W c e).bind fun fe=>gd (nst e) (some (dH Jo fe))
theorem afC(a:Amb aj c X W k):X.A.units+65 < cLine:=by have:=a.rm.un;omega
theorem acR(o:t.Ok)(a:Amb aj c X W k)(hg:Gl X "sorted")(hm:X.mg "sorted"=none){e:Expr}{p pos:Pos}{f:QF}(h:Zq t c e=some f):QE aj X W (.Call (.Name "sorted" p) [e] [] pos) f:=by
 unfold Zq at h
 split at h
 ·split at h
  ·next hb=>
   obtain⟨fb,h1,h⟩:=aqU.mp h
   obtain⟨hn,h⟩:=aX.mp h
   cases h
   obtain⟨rfl,hg2,hm2⟩:=mV a hb
   exact ag0 (afC a) a.calm hg hm hg2 hm2 (o.ow a h1) hn
  ·obtain⟨_,_,h⟩:=aqU.mp h
   cases h
 ·obtain⟨it,h1,h⟩:=aqU.mp h
  obtain⟨⟨js,tf⟩,h2,h⟩:=aqU.mp h
  obtain⟨tt,h3,h⟩:=aqU.mp h
  obtain⟨te,h4,h⟩:=aqU.mp h
  obtain⟨hb,h⟩:=aX.mp h
  cases h
  simp only[aqW,ard]at hb
  obtain⟨b1,b2,b3⟩:=hb
  exact adx (afC a) a.calm a.nd hg hm (o.oi a h1) (by rw[a.hN,a.hs];exact b1) (oJ b2) (fun s H C cl fp=>tV (a.inn _ s H C cl fp) h2) (fun s H C cl fp=>uR o (a.inn _ s H C cl fp) h3) (fun s H C cl fp=>o.oe (a.inn _ s H C cl fp) h4) (qu b3)
 ·obtain⟨fe,h1,h⟩:=aqU.mp h
  obtain⟨hn,h⟩:=aX.mp h
  cases h
  exact ahz (afC a) hg hm (o.ow a h1) hn
def Q6(t:Tr)(c:Tc)(elt tg iter:Expr)(ifs:List Expr)(tg1 iter1:Expr)(ifs1:List Expr)(scope:Scope):Option QF:=
 (t.I c false tg iter).bind fun it=>(QZ (c.inn scope) tg).bind fun jt=>(OD t (c.inn scope) ifs).bind fun tt=>(t.I (c.inn scope) true tg1 iter1).bind fun it1=>(QZ (c.inn scope) tg1).bind fun jt1=>(OD t (c.inn scope) ifs1).bind fun tt1=>(t.E (c.inn scope) elt).bind fun te=>
  gd (blkC c.N c.sc scope (nH tg jt.1++nH tg1 jt1.1)&&(Ls ((nH tg1 jt1.1).map (·.2)) ((nH tg jt.1++nH tg1 jt1.1).map (·.2))&&(Ls jt.1 ((nH tg jt.1++nH tg1 jt1.1).map (·.2))&&(Ls jt1.1 ((nH tg1 jt1.1).map (·.2))&&(!yH iter&&!yH iter1)))))
   (some (Dq it jt.2 ((nH tg jt.1++nH tg1 jt1.1).map (·.2)) tt it1 jt1.2 ((nH tg1 jt1.1).map (·.2)) tt1 te))
theorem afj(o:t.Ok)(a:Amb aj c X W k){elt tg iter tg1 iter1:Expr}{ifs ifs1:List Expr}{scope:Scope}{pos:Pos}{f:QF}(h:Q6 t c elt tg iter ifs tg1 iter1 ifs1 scope=some f):QE aj X W (.ListComp elt [⟨tg,iter,ifs,0⟩,⟨tg1,iter1,ifs1,0⟩] scope pos) f:=by
 unfold Q6 at h
 obtain⟨it,h1,h⟩:=aqU.mp h
 obtain⟨⟨js,tf⟩,h2,h⟩:=aqU.mp h
 obtain⟨tt,h3,h⟩:=aqU.mp h
 obtain⟨it1,h4,h⟩:=aqU.mp h
 obtain⟨⟨js1,tf1⟩,h5,h⟩:=aqU.mp h
 obtain⟨tt1,h6,h⟩:=aqU.mp h
 obtain⟨te,h7,h⟩:=aqU.mp h
 obtain⟨hb,h⟩:=aX.mp h
 cases h
 simp only[aqW,ard]at hb
 obtain⟨b1,b2,b3,b4,b5,b6⟩:=hb
 exact ai1 a.calm a.nd (o.oi a h1) (by rw[a.hN,a.hs];exact b1) (oJ b2) (oJ b3) (oJ b4) (fun s H C cl fp=>tV (a.inn _ s H C cl fp) h2) (fun s H C cl fp=>uR o (a.inn _ s H C cl fp) h3) (fun s H C cl fp=>o.oi (a.inn _ s H C cl fp) h4) (fun s H C cl fp=>tV (a.inn _ s H C cl fp) h5) (fun s H C cl fp=>uR o (a.inn _ s H C cl fp) h6) (fun s H C cl fp=>o.oe (a.inn _ s H C cl fp) h7) (qu b5) (fun env=>qu b6)
def xE(t:Tr)(c:Tc):Expr->Option QF
 |.Attribute o f _=>gd (baseOk o) ((t.W c o).bind fun fo=>some (gW f fo))
 |.Call (.Attribute o m apos) es [] pos=>YH t c o m es apos pos
 |.Compare e [op] [.Attribute o f _] _=>ab2 t c e op o f
 |.Compare e [op] [.Name x _] _=>Xr t c e op x
 |.Subscript (.Name x _) e _=>(match c.G.lookup x with
  |some (.dic kvs)=>(t.W c e).bind fun fe=>gd (FZ c.sc x&&(!Gn x&&!Qu e)) (some (abQ kvs fe))
  |_=>none)
 |.ListComp elt [⟨tg,iter,ifs,0⟩,⟨tg1,iter1,ifs1,0⟩] scope _=>Q6 t c elt tg iter ifs tg1 iter1 ifs1 scope
 |.Call (.Name x _) [e] [] _=>(match tY c x "sorted" with
  |true=>Zq t c e
  |false=>match tY c x "list",e with
   |true,.Attribute o f _=>(c.hs.df.lookup f).bind fun _=>(t.W c o).bind fun fo=>gd (baseOk o) (some (CG f fo))
   |_,_=>none)
 |_=>none
theorem alg(o:t.Ok)(a:Amb aj c X W k){e:Expr}{f:QF}(h:xE t c e=some f):QE aj X W e f:=by
 unfold xE at h
 split at h
 ·obtain⟨hb,h⟩:=aX.mp h
  obtain⟨fo,h1,h⟩:=aqU.mp h
  cases h
  exact akV a.hk.co (o.ow a h1) hb
 ·exact acH o a h
 ·exact(abr o a h).1
 ·exact(Zo o a h).1
 ·split at h
  ·next kvs hl=>
   obtain⟨fe,h1,h⟩:=aqU.mp h
   obtain⟨hb,h⟩:=aX.mp h
   cases h
   simp only[aqW]at hb
   exact aiF (a.gl _ _ hl) (uo a hb.1) (ug (by simpa using hb.2.1)).1 (o.ow a h1) (YX hb.2.2)
  ·cases h
 ·exact afj o a h
 ·split at h
  ·next hb=>
   obtain⟨rfl,hg,hm⟩:=mV a hb
   exact acR o a hg hm h
  ·split at h
   ·next hb=>
    obtain⟨_,_,h⟩:=aqU.mp h
    obtain⟨fo,h1,h⟩:=aqU.mp h
    obtain⟨hb2,h⟩:=aX.mp h
    cases h
    obtain⟨rfl,hg,hm⟩:=mV a hb
    exact ae8 a.hk.co a.hk.hw a.calm hg hm (o.ow a h1) hb2
   ·cases h
 ·cases h
def xW(t:Tr)(c:Tc):Expr->Option QF
 |.Attribute o f _=>gd (baseOk o) ((t.W c o).bind fun fo=>some (bJ f fo))
 |_=>none
theorem alN(o:t.Ok)(a:Amb aj c X W k){e:Expr}{f:QF}(h:xW t c e=some f):QW aj X W e f:=by
 unfold xW at h
 split at h
 ·obtain⟨hb,h⟩:=aX.mp h
  obtain⟨fo,h1,h⟩:=aqU.mp h
  cases h
  exact akb a.hk.co (o.ow a h1) hb
 ·cases h
def xT(t:Tr)(c:Tc):Expr->Option QT
 |.Compare e [op] [.Attribute o f _] _=>(ab2 t c e op o f).bind fun g=>some (bA g)
 |.Compare e [op] [.Name x _] _=>(Xr t c e op x).bind fun g=>some (bA g)
 |_=>none
theorem alx(o:t.Ok)(a:Amb aj c X W k){e:Expr}{f:QT}(h:xT t c e=some f):tK aj X W e f:=by
 unfold xT at h
 split at h
 ·obtain⟨g,h1,h⟩:=aqU.mp h
  cases h
  exact(abr o a h1).2
 ·obtain⟨g,h1,h⟩:=aqU.mp h
  cases h
  exact(Zo o a h1).2
 ·cases h
def xI(t:Tr)(c:Tc)(firm:Bool):Expr->Option IF
 |.Attribute o f _=>(match firm with
  |true=>none
  |false=>(c.hs.df.lookup f).bind fun _=>gd (baseOk o) ((t.W c o).bind fun fo=>some (Dj f fo)))
 |_=>none
theorem aln(o:t.Ok)(a:Amb aj c X W k){firm:Bool}{tg e:Expr}{f:IF}(h:xI t c firm e=some f):QI aj X W firm tg e f:=by
 unfold xI at h
 split at h
 ·split at h
  ·cases h
  ·obtain⟨_,_,h⟩:=aqU.mp h
   obtain⟨hb,h⟩:=aX.mp h
   obtain⟨fo,h1,h⟩:=aqU.mp h
   cases h
   exact afV a.hk.co a.hk.hw (o.ow a h1) hb
 ·cases h
def els{α:Type}(a b:Option α):Option α:=match a with
 |some x=>some x
 |none=>b
theorem wz{α:Type}{a b:Option α}{x:α}(h:els a b=some x):a=some x∨b=some x:=by
 cases a with
 |none=>exact .inr h
 |some y=>exact .inl h
def xtE(t:Tr)(c:Tc)(e:Expr):Option QF:=els (xE t c e) (stE t c e)
def xtW(t:Tr)(c:Tc)(e:Expr):Option QF:=els (xW t c e) (stW t c e)
def xtT(t:Tr)(c:Tc)(e:Expr):Option QT:=els (xT t c e) (stT t c e)
def xtI(t:Tr)(c:Tc)(firm:Bool)(tg e:Expr):Option IF:=els (xI t c firm e) (stI t c firm tg e)
end
structure wL(aj:aR)(c:Tc)(X:Cx)(W:WX)(k:Nat):Prop extends Amb aj c X W k where
 ps:PassesOwn (model X.prog X.w) X.A X.env X.xe
 st:X.stack=X.env::X.outer
 fr:X.env.frame=some X.env.locals
 kf:X.env.scope.kind=.function
structure Ts where
 G:Tc->Expr->Option GF
 H:Tc->Expr->Option GT
 S:Tc->Stmt->Option SF
 B:Tc->List Stmt->Option SF
structure Ts.Ok(s:Ts)(q:Bool):Prop where
 og:∀{aj:aR} {c:Tc} {X:Cx} {W:WX} {k:Nat},wL aj c X W k->∀{e:Expr} {f:GF},s.G c e=some f->GE aj X W q e f
 oh:∀{aj:aR} {c:Tc} {X:Cx} {W:WX} {k:Nat},wL aj c X W k->∀{e:Expr} {f:GT},s.H c e=some f->GTe aj X W q e f
 os:∀{aj:aR} {c:Tc} {X:Cx} {W:WX} {k:Nat},wL aj c X W k->∀{e:Stmt} {f:SF},s.S c e=some f->SE aj X W q e f
 ob:∀{aj:aR} {c:Tc} {X:Cx} {W:WX} {k:Nat},wL aj c X W k->∀{e:List Stmt} {f:SF},s.B c e=some f->JW aj X W q e f
def CW:Expr->Bool
 |.ListComp _ _ _ _=>true
 |.SetComp _ _ _ _=>true
 |.DictComp _ _ _ _ _=>true
 |_=>false
theorem G4{e:Expr}{tg:Option Expr}{l:Nat}{env:PySem.Env}(h:CW e=false):swapsWith e tg l env=pure false:=by
 cases e <;> first | rfl | cases h
def abM:Expr->Bool
 |.Tuple _ _ _=>true
 |_=>false
def swB(sc:Scope)(v:Expr)(scope:Scope)(x:Str)(p:Pos):Bool:=(match sc.names.lookup x with
 |some .local=>true
 |_=>false)&&(p.line==v.pos.line&&!(scope.names.any fun(n,k)=>n==x&&(k==.local || k==.cell)))
theorem Rj{X:Cx}{elt:Expr}{gens:List Comprehension}{scope:Scope}{pos p:Pos}{x:Str}{l:Nat}(hk:X.env.scope.kind=.function)(h:swB X.env.scope (.ListComp elt gens scope pos) scope x p=true):X.env.scope.names.lookup x=some .local/\swapsWith (.ListComp elt gens scope pos) (some (.Name x p)) l X.env=pure true:=by
 unfold swB at h
 simp only[aqW]at h
 obtain⟨h1,h2,h3⟩:=h
 have e1:X.env.scope.names.lookup x=some .local:=by
  split at h1
  ·assumption
  ·cases h1
 refine⟨e1,?_⟩
 have eb:X.env.blockKind=.function:=by
  unfold PySem.Env.blockKind
  rw[hk]
  rfl
 unfold swapsWith
 show(pure (X.env.blockKind==.function&&X.env.kindOf x==some .local&&p.line==(Expr.ListComp elt gens scope pos).pos.line&&!(scope.names.any fun(n,k)=>n==x&&(k==.local || k==.cell))):Sem Bool)=pure true
 rw[eb,h2,h3]
 unfold PySem.Env.kindOf
 rw[e1]
 rfl
theorem acM{X:Cx}{elt:Expr}{gens:List Comprehension}{scope:Scope}{pos p:Pos}{x:Str}{l:Nat}(h:(p.line==(Expr.ListComp elt gens scope pos).pos.line)=false):swapsWith (.ListComp elt gens scope pos) (some (.Name x p)) l X.env=pure false:=by
 unfold swapsWith
 show(pure (X.env.blockKind==.function&&X.env.kindOf x==some .local&&p.line==(Expr.ListComp elt gens scope pos).pos.line&&!(scope.names.any fun(n,k)=>n==x&&(k==.local || k==.cell))):Sem Bool)=pure false
 rw[h,Bool.and_false,Bool.false_and]
def trN(t:Tr)(c:Tc):Expr->Option IF
 |.List es _=>(JL t c es).bind fun fr=>some (SM fr)
 |.Call (.Name x _) [a] [] _=>(t.W c a).bind fun fa=>gd (tY c x "list"&&nst a) (some (Il fa))
 |_=>none
theorem aeK{aj:aR}{c:Tc}{X:Cx}{W:WX}{k:Nat}{t:Tr}(o:t.Ok)(a:Amb aj c X W k){e:Expr}{f:IF}(h:trN t c e=some f):FE aj X W e f/\CW e=false:=by
 unfold trN at h
 split at h
 ·obtain⟨fr,h1,h⟩:=aqU.mp h
  cases h
  exact⟨ais (vD o a h1).1,rfl⟩
 ·obtain⟨fa,h1,h⟩:=aqU.mp h
  obtain⟨hb,h⟩:=aX.mp h
  cases h
  rw[aqW]at hb
  obtain⟨rfl,hg,hm⟩:=mV a hb.1
  exact⟨agH hg hm ⟨by decide +kernel,by decide,by decide⟩ (o.ow a h1) hb.2,rfl⟩
 ·cases h
section
variable{X:Cx}{aj:aR}{W:WX}{q:Bool}{e:Expr}{pos:Pos}
theorem aku{j:Nat}{y:Str}{py:Pos}{elt tg iter:Expr}{cpos:Pos}{scope:Scope}{own:List (Str×Nat)}{it:IF}{tgf:fG}{js:List Nat}{tt:QT}{te:QF}{ifs:List Expr}(hc:X.calm=true)(hN:X.N.Nodup)(hy:X.N[j]?=some y)(hyl:X.env.scope.names.lookup y=some .local)
  (hsw:swapsWith (.ListComp elt [⟨tg,iter,ifs,0⟩] scope cpos) (some (.Name y py)) pos.line X.env=pure true) (hi:QI aj X W false tg iter it) (ok:blkC X.N X.env.scope scope own=true) (hj:∀j∈js,j∈own.map (·.2))
  (hg:∀(s:Shared) (H:Hp) (C:Addr) (cl:List (Str×Addr)) (fp:List Addr),QG aj (X.blk s H scope (compEnvC scope cl C X.env) fp) tg js tgf)
  (ht:∀(s:Shared) (H:Hp) (C:Addr) (cl:List (Str×Addr)) (fp:List Addr),PTs (X.blk s H scope (compEnvC scope cl C X.env) fp) ifs (jC X.K aj WF tt))
  (he:∀(s:Shared) (H:Hp) (C:Addr) (cl:List (Str×Addr)) (fp:List Addr),QE aj (X.blk s H scope (compEnvC scope cl C X.env) fp) WF elt te) (hs:∀x,foldedSetIterable iter X.env x=pure x) :
  SE aj X W q (.Assign [.Name y py] (.ListComp elt [⟨tg,iter,ifs,0⟩] scope cpos) pos) (Fq j (Bj it tgf (own.map (·.2)) tt te)):=by
 refine PS.weak (ps_setLc (g:=xK X.K aj js tgf) (tt:=jC X.K aj WF tt) (te:=tQ X.K aj WF te) hc hN hy hyl hsw hi (blkOk_by ok) (fun s H C cl fp=>hg s H C cl fp) ht (fun s H C cl fp=>he s H C cl fp) hs) fun D σ H h=>?_
 exact Yg hj σ H _ (ac2 D σ H h)
end
def agB(t:Tr)(c:Tc)(elt tg iter:Expr)(ifs:List Expr)(scope:Scope):Option IF:=
 (t.I c false tg iter).bind fun it=>(QZ (c.inn scope) tg).bind fun jt=>(OD t (c.inn scope) ifs).bind fun tt=>(t.E (c.inn scope) elt).bind fun te=>
  gd (blkC c.N c.sc scope (nH tg jt.1)&&(Ls jt.1 ((nH tg jt.1).map (·.2))&&!yH iter)) (some (Bj it jt.2 ((nH tg jt.1).map (·.2)) tt te))
def U7(t:Tr)(c:Tc)(x:Str)(p:Pos)(elt tg iter:Expr)(ifs:List Expr)(scope:Scope)(cpos:Pos):Option SF:=
 (vN c x).bind fun j=>gd (swB c.sc (.ListComp elt [⟨tg,iter,ifs,0⟩] scope cpos) scope x p || !(p.line==(Expr.ListComp elt [⟨tg,iter,ifs,0⟩] scope cpos).pos.line))
  (match c.ml.contains x with
  |true=>(agB t c elt tg iter ifs scope).bind fun f=>some (Fq j f)
  |false=>(Yc t c elt tg iter ifs scope).bind fun f=>some (bf (aF j) (gOf f)))
section
variable{aj:aR}{c:Tc}{X:Cx}{W:WX}{k:Nat}{t:Tr}{q:Bool}
theorem acu(o:t.Ok)(a:wL aj c X W k){x:Str}{p cpos pos:Pos}{elt tg iter:Expr}{ifs:List Expr}{scope:Scope}{f:SF}(h:U7 t c x p elt tg iter ifs scope cpos=some f):SE aj X W q (.Assign [.Name x p] (.ListComp elt [⟨tg,iter,ifs,0⟩] scope cpos) pos) f:=by
 unfold U7 at h
 obtain⟨j,hj,h⟩:=aqU.mp h
 obtain⟨hsw,h⟩:=aX.mp h
 obtain⟨s1,s2,s3⟩:=m7 a.toAmb hj
 rw[ar3]at hsw
 split at h
 ·obtain⟨f1,h1,h⟩:=aqU.mp h
  cases h
  unfold agB at h1
  obtain⟨it,h2,h1⟩:=aqU.mp h1
  obtain⟨⟨js,tf⟩,h3,h1⟩:=aqU.mp h1
  obtain⟨tt,h4,h1⟩:=aqU.mp h1
  obtain⟨te,h5,h1⟩:=aqU.mp h1
  obtain⟨hb,h1⟩:=aX.mp h1
  cases h1
  simp only[aqW,ard]at hb
  obtain⟨b1,b2,b3⟩:=hb
  rcases hsw with hsw|hsw
  ·rw[←a.hs]at hsw
   obtain⟨l1,l2⟩:=Rj (l:=pos.line) a.kf hsw
   exact aku a.calm a.nd s1 l1 l2 (o.oi a.toAmb h2) (by rw[a.hN,a.hs];exact b1) (oJ b2) (fun s H C cl fp=>tV (a.toAmb.inn scope s H C cl fp) h3) (fun s H C cl fp=>uR o (a.toAmb.inn scope s H C cl fp) h4) (fun s H C cl fp=>o.oe (a.toAmb.inn scope s H C cl fp) h5) (qu b3)
  ·exact aem a.nd s1 s2 s3 (alT a.calm a.nd (o.oi a.toAmb h2) (by rw[a.hN,a.hs];exact b1) (oJ b2) (fun s H C cl fp=>tV (a.toAmb.inn scope s H C cl fp) h3) (fun s H C cl fp=>uR o (a.toAmb.inn scope s H C cl fp) h4) (fun s H C cl fp=>o.oe (a.toAmb.inn scope s H C cl fp) h5) (qu b3)) (acM (by simpa using hsw))
 ·obtain⟨f1,h1,h⟩:=aqU.mp h
  cases h
  rcases hsw with hsw|hsw
  ·rw[←a.hs]at hsw
   obtain⟨l1,l2⟩:=Rj (l:=pos.line) a.kf hsw
   unfold Yc at h1
   obtain⟨it,h2,h1⟩:=aqU.mp h1
   obtain⟨⟨js,tf⟩,h3,h1⟩:=aqU.mp h1
   obtain⟨tt,h4,h1⟩:=aqU.mp h1
   obtain⟨te,h5,h1⟩:=aqU.mp h1
   obtain⟨hb,h1⟩:=aX.mp h1
   cases h1
   simp only[aqW,ard]at hb
   obtain⟨b1,b2,b3⟩:=hb
   exact aiM a.calm a.nd s1 l1 l2 (o.oi a.toAmb h2) (by rw[a.hN,a.hs];exact b1) (oJ b2) (fun s H C cl fp=>tV (a.toAmb.inn scope s H C cl fp) h3) (fun s H C cl fp=>uR o (a.toAmb.inn scope s H C cl fp) h4) (fun s H C cl fp=>o.oe (a.toAmb.inn scope s H C cl fp) h5) (qu b3)
  ·exact Yu (agx (aa7 o a.toAmb h1)) (Ux a.nd s1 s2 s3) (acM (l:=pos.line) (by simpa using hsw)) (by with_unfolding_all rfl) (by with_unfolding_all rfl)
end
theorem Cv{tg e:Expr}{l:Nat}{env:PySem.Env}(h:CW e=false):swapsWithSole [tg] e l env=pure false:=G4 h
theorem ahu{x:Str}{p spos:Pos}{i:Expr}{env:PySem.Env}(h:Qu i=false):∀v,assign (.Subscript (.Name x p) i spos) env v=(do
   let ov ←holding [v] (eval (.Name x p) env)
   let iv ←holding [v,ov] (eval i env)
   standAt spos
   holding [v,ov,iv] (setItem ov iv v)
   release [v,ov,iv] []):=fun v=>by
 cases i <;> first | (with_unfolding_all rfl) | cases h
def abV(t:Tr)(s:Ts)(c:Tc):Expr->Expr->Option SF
 |.Name x p,.ListComp elt [⟨tg,iter,ifs,0⟩] scope cpos=>U7 t c x p elt tg iter ifs scope cpos
 |.Name x _,e=>(vN c x).bind fun j=>match c.ml.contains x with
  |true=>(trN t c e).bind fun f=>some (Fq j f)
  |false=>gd (!CW e) ((s.G c e).bind fun f=>some (bf (aF j) f))
 |.Tuple [.Name x _,.Starred (.Name y _) _] _ _,e=>(vN c x).bind fun i=>(vN c y).bind fun j=>gd (!CW e&&!abM e) ((s.G c e).bind fun f=>some (XD i j f))
 |.Tuple ts _ _,e=>(ZP c ts).bind fun js=>gd (!CW e&&!abM e) ((s.G c e).bind fun f=>some (bf (bD js) f))
 |.Subscript (.Name x _) i _,e=>(GJ c x).bind fun j=>gd (c.ml.contains x&&(!CW e&&!Qu i)) ((t.E c e).bind fun f=>(t.E c i).bind fun fi=>some (R6 j fi f))
 |_,_=>none
theorem R7{tg e:Expr}{env:PySem.Env}(h:abM e=false):swappedStores [tg] e env=pure none:=by
 cases tg <;> first | rfl | (cases e <;> first | rfl | cases h)
section
variable{aj:aR}{c:Tc}{X:Cx}{W:WX}{k:Nat}{t:Tr}{s:Ts}{q:Bool}
theorem afT(o:t.Ok)(os:s.Ok q)(a:wL aj c X W k){tg e:Expr}{pos:Pos}{f:SF}(h:abV t s c tg e=some f):SE aj X W q (.Assign [tg] e pos) f:=by
 unfold abV at h
 split at h
 ·exact acu o a h
 ·obtain⟨j,hj,h⟩:=aqU.mp h
  obtain⟨s1,s2,s3⟩:=m7 a.toAmb hj
  split at h
  ·obtain⟨f1,h1,h⟩:=aqU.mp h
   cases h
   obtain⟨i1,i2⟩:=aeK o a.toAmb h1
   exact aem a.nd s1 s2 s3 i1 (G4 i2)
  ·obtain⟨hc,h⟩:=aX.mp h
   obtain⟨f1,h1,h⟩:=aqU.mp h
   cases h
   exact Yu (os.og a h1) (Ux a.nd s1 s2 s3) (Cv (by simpa using hc)) (by with_unfolding_all rfl) (by with_unfolding_all rfl)
 ·obtain⟨i,hi,h⟩:=aqU.mp h
  obtain⟨j,hj,h⟩:=aqU.mp h
  obtain⟨hc,h⟩:=aX.mp h
  obtain⟨f1,h1,h⟩:=aqU.mp h
  cases h
  simp only[aqW,ard]at hc
  exact ah9 a.calm a.nd (m7 a.toAmb hi) (m7 a.toAmb hj) (os.og a h1) (Cv hc.1) (R7 hc.2)
 ·obtain⟨js,hj,h⟩:=aqU.mp h
  obtain⟨hc,h⟩:=aX.mp h
  obtain⟨f1,h1,h⟩:=aqU.mp h
  cases h
  simp only[aqW,ard]at hc
  exact Yu (os.og a h1) (aeA a.calm a.nd (TJ a.toAmb hj)) (Cv hc.1) (R7 hc.2) (by with_unfolding_all rfl)
 ·obtain⟨j,hj,h⟩:=aqU.mp h
  obtain⟨hc,h⟩:=aX.mp h
  obtain⟨f1,h1,h⟩:=aqU.mp h
  obtain⟨fi,h2,h⟩:=aqU.mp h
  cases h
  simp only[aqW,ard]at hc
  obtain⟨s1,s2,s3,s4⟩:=wO a.toAmb hj
  exact ahP s1 s2 s3 s4 (o.oe a.toAmb h1) (o.oe a.toAmb h2) (ahu hc.2.2) (Cv hc.2.1) (by with_unfolding_all rfl)
 ·cases h
end
def acd(s:Ts)(c:Tc):List Stmt->Option SF
 |[]=>some aW
 |[a]=>s.S c a
 |a::b::r=>(s.S c a).bind fun f=>(s.B c (b::r)).bind fun g=>some (aD f g)
def stS(t:Tr)(s:Ts)(c:Tc):Stmt->Option SF
 |.Assign [tg] e _=>abV t s c tg e
 |.Assign [.Name x _,.Name y _] e _=>(vN c x).bind fun i=>(vN c y).bind fun j=>gd (!abM e) ((s.G c e).bind fun f=>some (Sv i j f))
 |.AugAssign (.Name x _) .Add e _=>(vN c x).bind fun j=>(t.E c e).bind fun f=>some (Qn j f)
 |.Expr (.Call (.Attribute (.Name x _) m apos) [e] [] pos) _=>(GJ c x).bind fun j=>gd (m=="append"&&(c.ml.contains x&&(nst e&&(apos.endLine==pos.line)))) ((t.E c e).bind fun f=>some (Pn j f))
 |.Return (some e) _=>(match t.E c e with
  |some f=>some (aU f)
  |none=>(s.G c e).bind fun f=>some (iH f))
 |.If d s1 s2 _=>(s.B c s1).bind fun f=>(s.B c s2).bind fun g=>(t.T c d).bind fun td=>some (bT td f g)
 |.For tg iter body [] _=>(t.I c true tg iter).bind fun it=>(QZ c tg).bind fun jt=>(s.B c body).bind fun f=>gd (!yH iter) (some (rQ it jt.2 f))
 |_=>none
section
variable{aj:aR}{c:Tc}{X:Cx}{W:WX}{k:Nat}{t:Tr}{s:Ts}{q:Bool}
theorem afL(os:s.Ok q)(a:wL aj c X W k){b:List Stmt}{f:SF}(h:acd s c b=some f):JW aj X W q b f:=by
 unfold acd at h
 split at h
 ·cases h;exact alc
 ·exact ajS (os.os a h)
 ·obtain⟨f1,h1,h⟩:=aqU.mp h
  obtain⟨f2,h2,h⟩:=aqU.mp h
  cases h
  exact ahf (os.os a h1) (os.ob a h2)
theorem aiu(o:t.Ok)(os:s.Ok q)(a:wL aj c X W k){st:Stmt}{f:SF}(h:stS t s c st=some f):SE aj X W q st f:=by
 unfold stS at h
 split at h
 ·exact afT o os a h
 ·obtain⟨i,hi,h⟩:=aqU.mp h
  obtain⟨j,hj,h⟩:=aqU.mp h
  obtain⟨hc,h⟩:=aX.mp h
  obtain⟨f1,h1,h⟩:=aqU.mp h
  cases h
  exact ahS a.nd (m7 a.toAmb hi) (m7 a.toAmb hj) (os.og a h1) (by with_unfolding_all rfl)
 ·obtain⟨j,hj,h⟩:=aqU.mp h
  obtain⟨f1,h1,h⟩:=aqU.mp h
  cases h
  obtain⟨s1,s2,s3⟩:=m7 a.toAmb hj
  exact ajV a.nd s1 s2 s3 (o.oe a.toAmb h1)
 ·obtain⟨j,hj,h⟩:=aqU.mp h
  obtain⟨hc,h⟩:=aX.mp h
  obtain⟨f1,h1,h⟩:=aqU.mp h
  cases h
  simp only[aqW]at hc
  cases eq_of_beq hc.1
  obtain⟨s1,s2,s3,s4⟩:=wO a.toAmb hj
  exact ajY s1 s2 s3 s4 (o.oe a.toAmb h1) hc.2.2.1 hc.2.2.2
 ·split at h
  ·next f1 h1=>
   cases h
   exact aiU (o.oe a.toAmb h1)
  ·obtain⟨f1,h1,h⟩:=aqU.mp h
   cases h
   exact ahU (os.og a h1)
 ·obtain⟨f1,h1,h⟩:=aqU.mp h
  obtain⟨f2,h2,h⟩:=aqU.mp h
  obtain⟨td,h3,h⟩:=aqU.mp h
  cases h
  exact alK (o.ot a.toAmb h3) (os.ob a h1) (os.ob a h2)
 ·obtain⟨it,h1,h⟩:=aqU.mp h
  obtain⟨⟨js,tf⟩,h2,h⟩:=aqU.mp h
  obtain⟨f1,h3,h⟩:=aqU.mp h
  obtain⟨hc,h⟩:=aX.mp h
  cases h
  exact akN a.ps a.calm (o.oi a.toAmb h1) (tV a.toAmb h2) (os.ob a h3) (qu (by simpa using hc))
 ·cases h
end
abbrev GA:=Mo->Env->aZ (List Dat)
def amd:GA:=fun M _=>.ok [] M
def ai5(a:GF)(r:GA):GA:=fun M ρ=>(a M ρ).bind fun d M1=>(r M1 ρ).bind fun ds M2=>.ok (d::ds) M2
def ajw(m:Mo->List Dat->aZ Dat)(as:GA):GF:=fun M ρ=>(as M ρ).bind fun ds M1=>m M1 ds
def ajo(m:Mo->List Dat->Out Dat)(as:GA):GF:=fun M ρ=>(as M ρ).bind fun ds M1=>(m M1 ds).at M1
section
variable{X:Cx}{aj:aR}{W:WX}{q:Bool}{a b e:Expr}{es:List Expr}{pos p:Pos}
variable{x:Str}{k:Nat}{f:Addr}{fd:FuncData}{ps:List Str}
def alz(a:GT):GT:=fun M ρ=>(a M ρ).bind fun b M1=>.ok (!b) M1
def alO(a b:GT):GT:=fun M ρ=>(a M ρ).bind fun x M1=>if x=true then b M1 ρ else .ok false M1
def ana(a b:GT):GT:=fun M ρ=>(a M ρ).bind fun x M1=>if x=true then .ok true M1 else b M1 ρ
def amj(a:GF):GT:=fun M ρ=>(a M ρ).bind fun d M1=>(Jv d).at M1
end
section
variable{aj:aR}{c:Tc}{X:Cx}{W:WX}{k:Nat}{t:Tr}{s:Ts}{q:Bool}
def xG(t:Tr)(s:Ts)(c:Tc):Expr->Option GF
 |.Call (.Name x _) [] [] _=>(match c.G.lookup x with
  |some (.cls 0 m)=>gd (FZ c.sc x&&!Gn x) (some (Bs x m au))
  |_=>none)
 |.Call (.Name x _) (e::es) [] _=>(match c.G.lookup x with
  |some (.fg n m)=>gd (FZ c.sc x&&(!Gn x&&decide ((e::es).length=n))) ((JL t c (e::es)).bind fun as=>some (Jj m as))
  |some (.cls n m)=>gd (FZ c.sc x&&(!Gn x&&decide ((e::es).length=n))) ((JL t c (e::es)).bind fun as=>some (Bs x m as))
  |_=>none)
 |.Call (.Attribute o m apos) es [] pos=>(c.hs.Ms.lookup m).bind fun tb=>(t.W c o).bind fun fo=>(JL t c es).bind fun as=>
  gd (tbN tb (es.length+1)&&(baseOk o&&(decide (es.length < 30)&&(apos.endLine==pos.line)))) (some (cR tb fo as))
 |_=>none
theorem amc(o:t.Ok)(os:s.Ok false)(a:wL aj c X W k){e:Expr}{f:GF}(h:xG t s c e=some f):GE aj X W false e f:=by
 unfold xG at h
 split at h
 ·split at h
  ·next m hl=>
   obtain⟨hb,h⟩:=aX.mp h
   cases h
   simp only[aqW,ard]at hb
   exact agG a.rm (a.gl _ _ hl) (uo a.toAmb hb.1) (ug hb.2).1
  ·cases h
 ·split at h
  ·next n m hl=>
   obtain⟨hb,h⟩:=aX.mp h
   simp only[aqW,ard,decide_eq_true_eq]at hb
   obtain⟨b1,b2,b3⟩:=hb
   obtain⟨fa,hm,hk,fd,ps,j,hj,hp,hB,F⟩:=a.gl _ _ hl
   obtain⟨as,h1,h⟩:=aqU.mp h
   cases h
   obtain⟨i1,i2,i3⟩:=vD o a.toAmb h1
   exact aio a.tk F (a.rm.mono hj) (uo a.toAmb b1) hm hk hB i1 (b3.trans hp.symm) (ug b2).1 i2 i3
  ·next n m hl=>
   obtain⟨hb,h⟩:=aX.mp h
   simp only[aqW,ard,decide_eq_true_eq]at hb
   obtain⟨b1,b2,b3⟩:=hb
   obtain⟨as,h1,h⟩:=aqU.mp h
   cases h
   obtain⟨i1,i2,i3⟩:=vD o a.toAmb h1
   exact aiX a.rm (a.gl _ _ hl) (uo a.toAmb b1) (ug b2).1 i1 i2 (fun M ρ ds z=>by rw[i3 M ρ ds z];exact b3)
  ·cases h
 ·next b m apos es pos=>
  obtain⟨tb,h1,h⟩:=aqU.mp h
  obtain⟨fo,h2,h⟩:=aqU.mp h
  obtain⟨as,h3,h⟩:=aqU.mp h
  obtain⟨hb,h⟩:=aX.mp h
  cases h
  simp only[aqW,decide_eq_true_eq]at hb
  obtain⟨b2,b3,b4,b5⟩:=hb
  obtain⟨i1,i2,i3⟩:=vD o a.toAmb h3
  cases es with
  |nil=>
   cases h3
   exact afi a.tk a.rm (XF a.toAmb h1 b2) (o.ow a.toAmb h2) b3 b5
  |cons e es=>exact ahB a.tk a.rm (XF a.toAmb h1 b2) (o.ow a.toAmb h2) i1 i3 b3 i2 b5 b4
 ·cases h
end
section
variable{aj:aR}{c:Tc}{X:Cx}{W:WX}{k:Nat}{t:Tr}{s:Ts}{q:Bool}
theorem Iu{e o:Expr}{f:Str}{p:Pos}{l:Nat}{env:PySem.Env}:swapsWith e (some (.Attribute o f p)) l env=pure false:=by
 cases e <;> rfl
theorem afZ{e o:Expr}{i:Expr}{p:Pos}{l:Nat}{env:PySem.Env}:swapsWith e (some (.Subscript o i p)) l env=pure false:=by
 cases e <;> rfl
theorem afU{o:Expr}{f:Str}{p spos:Pos}{i:Expr}{env:PySem.Env}(h:Qu i=false):∀v,assign (.Subscript (.Attribute o f p) i spos) env v=(do
   let ov ←holding [v] (eval (.Attribute o f p) env)
   let iv ←holding [v,ov] (eval i env)
   standAt spos
   holding [v,ov,iv] (setItem ov iv v)
   release [v,ov,iv] []):=fun v=>by
 cases i <;> first | (with_unfolding_all rfl) | cases h
def akq(t:Tr)(c:Tc)(kx tg iter:Expr)(scope:Scope):Option (Mo->Env->Out (List (Dat×Dat))):=
 (t.I c false tg iter).bind fun it=>(QZ (c.inn scope) tg).bind fun jt=>(t.E (c.inn scope) kx).bind fun te=>
  gd (blkC c.N c.sc scope (nH tg jt.1)&&(Ls jt.1 ((nH tg jt.1).map (·.2))&&!yH iter)) (some (qDc it jt.2 ((nH tg jt.1).map (·.2)) te))
theorem afc(a:Amb aj c X W k):X.A.units+64 < cLine:=by have:=a.rm.un;omega
def ae5(t:Tr)(s:Ts)(c:Tc)(o:Expr)(f:Str):Expr->Option SF
 |.Dict [] [] _=>(t.W c o).bind fun fo=>(c.hs.df.lookup f).bind fun b=>some (Nf c.hs.ft fo f b)
 |.DictComp kx (.Constant (.bool true) _ _) [⟨tg,iter,[],0⟩] scope _=>(t.W c o).bind fun fo=>(akq t c kx tg iter scope).bind fun fe=>some (Rk c.hs.ft fo f fe)
 |.List es p=>(t.W c o).bind fun fo=>(trN t c (.List es p)).bind fun fe=>some (Ep c.hs.ft fo f fe)
 |e=>gd (!CW e) ((t.W c o).bind fun fo=>(s.G c e).bind fun fe=>some (uO c.hs.ft fo f fe))
theorem ag7(ot:t.Ok)(os:s.Ok false)(a:wL aj c X W k){o e:Expr}{f:Str}{p pos:Pos}{sf:SF}(h:ae5 t s c o f e=some sf):SE aj X W false (.Assign [.Attribute o f p] e pos) sf:=by
 have hk:=a.hk
 unfold ae5 at h
 split at h
 ·obtain⟨fo,h1,h⟩:=aqU.mp h
  obtain⟨b,h2,h⟩:=aqU.mp h
  cases h
  exact agV hk.co hk.fk hk.hw (ot.ow a.toAmb h1) Iu
 ·obtain⟨fo,h1,h⟩:=aqU.mp h
  obtain⟨fe,h2,h⟩:=aqU.mp h
  cases h
  unfold akq at h2
  obtain⟨it,i1,h2⟩:=aqU.mp h2
  obtain⟨⟨js,tf⟩,i2,h2⟩:=aqU.mp h2
  obtain⟨te,i3,h2⟩:=aqU.mp h2
  obtain⟨hb,h2⟩:=aX.mp h2
  cases h2
  simp only[aqW,ard]at hb
  obtain⟨b1,b2,b3⟩:=hb
  exact ag4 hk.co hk.fk (ot.ow a.toAmb h1) (ak7 (g:=xK X.K aj js tf) (tk:=tQ X.K aj WF te) a.calm a.nd (afc a.toAmb) (ot.oi a.toAmb i1) (blkOk_by (by rw[a.hN,a.hs];exact b1)) (fun s H C cl fp=>tV (a.toAmb.inn _ s H C cl fp) i2) (fun s H C cl fp=>ot.oe (a.toAmb.inn _ s H C cl fp) i3) (qu b3)) (fun σ H Q z=>alm hk.hw (oJ b2) σ H Q z) Iu
 ·obtain⟨fo,h1,h⟩:=aqU.mp h
  obtain⟨fe,h2,h⟩:=aqU.mp h
  cases h
  exact ahx hk.co hk.fk (ot.ow a.toAmb h1) (aeK ot a.toAmb h2).1 Iu
 ·obtain⟨hc,h⟩:=aX.mp h
  obtain⟨fo,h1,h⟩:=aqU.mp h
  obtain⟨fe,h2,h⟩:=aqU.mp h
  cases h
  exact ahZ hk.co hk.fk (ot.ow a.toAmb h1) (os.og a h2) Iu
def Zz(n:Str):List Expr->Option (List Str)
 |[]=>some []
 |.Attribute (.Name m _) f _::es=>gd (m==n) ((Zz n es).bind fun fs=>some (f::fs))
 |_=>none
def acF(nm:Option Str):Expr->Option Eu
 |.Constant (.str x) _ _=>some (.con (.str x))
 |.Constant .none _ _=>some (.con .none)
 |.Tuple [] _ _=>some (.con (.tuple []))
 |.Attribute (.Name m _) f _=>nm.bind fun n=>gd (m==n) (some (.fld f))
 |.Tuple es _ _=>nm.bind fun n=>(Zz n es).bind fun fs=>some (.flds fs)
 |_=>none
def Eu.fs:Eu->List Str
 |.con _=>[]
 |.fld f=>[f]
 |.flds fs=>fs
def abZ(c:Tc)(nm:Option Str):List Stmt->Option (List (Nat×Eu))
 |[]=>some []
 |.Assign [.Name x _] e _::r=>(vN c x).bind fun j=>(acF nm e).bind fun se=>(abZ c nm r).bind fun st=>some ((j,se)::st)
 |_=>none
def TF(c:Tc):Option Str->Option (Option Nat)
 |none=>some none
 |some n=>(GJ c n).bind fun i=>match c.sc.names.lookup n with
  |some .local=>some (some i)
  |_=>none
def ajK(c:Tc):ExceptHandler->Option Hd
 |.ExceptHandler (some (.Name y _)) nm (s0::su) _=>(c.hs.xm.lookup y).bind fun tab=>(TF c nm).bind fun i=>(abZ c nm (s0::su)).bind fun st=>
  (match c.G.lookup y with
  |some .exc=>some true
  |some (.exi _)=>some true
  |_=>none).bind fun _=>
  gd (FZ c.sc y&&(!Gn y&&(st.all (fun p=>match i with
   |some j=>!(j==p.1)
   |none=>true)&&st.all (fun p=>p.2.fs.all (fun f=>((c.hs.xf.lookup y).getD []).contains f)&&decide (p.2.fs.length<=100))))) (some ⟨y,fun x=>tab.lookup x,i,st⟩)
 |_=>none
def Xx(c:Tc):List ExceptHandler->Option (List Hd)
 |[]=>some []
 |h::hs=>(ajK c h).bind fun d=>(Xx c hs).bind fun ds=>some (d::ds)
theorem aaW{y n:Str}{C:Addr}{a:Addr}{oe:Obj}{cls:Value}{d:Option Addr}{pn:List (Addr×Obj)}{j:Nat}{fl:List Str}(hC:aj y=some C)(T:XfC X.K C)(hno:∀f∈fl,PySem.W.findIn X.K (.ref C) f=some none)(hz:Zc cls d oe)(hf:∃vs,oe.data=.fields vs)(hN:X.N[j]?=some n)(hv:Vis X.env.scope n)(hd:(n==("__debug__" : Str))=false)(hcd:(n==("__classdict__" : Str))=false) :
  ∀{es:List Expr} {fs:List Str},Zz n es=some fs->(∀f∈fs,f∈fl)->PA (X.suite a ((a,oe)::pn)) es (tUA X.K aj a cls d (some j) fun x=>Rq y x fs)
 |[],fs,h,_=>by
  cases h
  exact aep
 |.Attribute (.Name m p) f p2::es,fs,h,hs=>by
  rw[Zz]at h
  obtain⟨hm,h⟩:=aX.mp h
  obtain⟨fr,h1,h⟩:=aqU.mp h
  cases h
  cases eq_of_beq hm
  exact ahJ (adq hC T (hno f (hs f aq1)) hz hf hN hv hd hcd) (aaW hC T hno hz hf hN hv hd hcd h1 fun f hf=>hs f (aq0 _ hf)) rfl
theorem agS{y:Str}{nm:Option Str}{i:Option Nat}{a:Addr}{oe:Obj}{cls:Value}{d:Option Addr}{pn:List (Addr×Obj)}{e:Expr}{se:Eu}(am:Amb aj c X W k)(hi:TF c nm=some i)(hy:(c.hs.xf.lookup y).getD []=fl)(hfl:∀f∈se.fs,f∈fl)(hl:se.fs.length<=100)(hz:Zc cls d oe)(hf:∃vs,oe.data=.fields vs)(h:acF nm e=some se) :
  PE (X.suite a ((a,oe)::pn)) e (tU X.K aj a cls d i fun x=>XM y x se):=by
 have fld:∀n j,nm=some n->i=some j->X.N[j]?=some n/\Vis X.env.scope n/\(n==("__debug__" : Str))=false/\(n==("__classdict__" : Str))=false:=fun n j e1 e2=>by
  subst e1 e2
  unfold TF at hi
  obtain⟨j',h1,hi⟩:=aqU.mp hi
  split at hi
  ·cases hi
   exact wO am h1
  ·cases hi
 have hsome:∀n,nm=some n->∃j,i=some j:=fun n e1=>by
  subst e1
  unfold TF at hi
  obtain⟨j',h1,hi⟩:=aqU.mp hi
  split at hi
  ·cases hi
   exact⟨_,rfl⟩
  ·cases hi
 have hxf:fl≠[]->∃C,aj y=some C/\XfC X.K C/\∀f∈fl,PySem.W.findIn X.K (.ref C) f=some none:=fun ne=>by
  cases hx:c.hs.xf.lookup y with
  |none=>
   rw[hx]at hy
   exact absurd hy.symm ne
  |some l=>
   rw[hx]at hy
   cases hy
   exact am.hk.xf y _ hx
 unfold acF at h
 split at h
 ·cases h
  exact adR pe_str fun σ H Q ⟨g,ρ,M,x,z,I,e,kk⟩=>by
   cases e
   exact kk _ H (Ex.refl H) (.str _)
 ·cases h
  exact adR pe_non fun σ H Q ⟨g,ρ,M,x,z,I,e,kk⟩=>by
   cases e
   exact kk _ H (Ex.refl H) .non
 ·cases h
  exact PE.weak (adT (aj:=aj) (cls:=cls) (d:=d) (i:=i) aep fun x zs e=>by cases e;exact arK _) fun σ H Q z=>z
 ·obtain⟨n,e1,h⟩:=aqU.mp h
  obtain⟨hm,h⟩:=aX.mp h
  cases h
  cases eq_of_beq hm
  obtain⟨j,rfl⟩:=hsome _ e1
  obtain⟨f1,f2,f3,f4⟩:=fld _ j e1 rfl
  obtain⟨C,c1,c2,c3⟩:=hxf (List.ne_nil_of_mem (hfl _ (aq2.mpr rfl)))
  exact adq c1 c2 (c3 _ (hfl _ (aq2.mpr rfl))) hz hf f1 f2 f3 f4
 ·next es _ _ hne=>
  obtain⟨n,e1,h⟩:=aqU.mp h
  obtain⟨fs,e2,h⟩:=aqU.mp h
  cases h
  obtain⟨j,rfl⟩:=hsome _ e1
  obtain⟨f1,f2,f3,f4⟩:=fld _ j e1 rfl
  have hfs:fs≠[]:=fun z=>by
   subst z
   match es,e2 with
   |[],_=>exact hne rfl
   |.Attribute (.Name m _) f _::es,e2=>
    rw[Zz]at e2
    obtain⟨_,e2⟩:=aX.mp e2
    obtain⟨_,_,e2⟩:=aqU.mp e2
    cases e2
  have hfn:fl≠[]:=by
   cases fs with
   |nil=>exact absurd rfl hfs
   |cons f r=>exact List.ne_nil_of_mem (hfl f aq1)
  obtain⟨C,c1,c2,c3⟩:=hxf hfn
  exact adT (aaW c1 c2 c3 hz hf f1 f2 f3 f4 e2 hfl) fun x zs e=>by
   have:=V4 e
   have hl:fs.length<=100:=hl
   omega
 ·cases h
theorem Ue{y:Str}{nm:Option Str}{i:Option Nat}{a:Addr}{oe:Obj}{cls:Value}{d:Option Addr}{pn:List (Addr×Obj)}{fl:List Str}(am:Amb aj c X W k)(hi:TF c nm=some i)(hy:(c.hs.xf.lookup y).getD []=fl)(hz:Zc cls d oe)(hf:∃vs,oe.data=.fields vs) :
  ∀{ss:List Stmt} {st:List (Nat×Eu)},abZ c nm ss=some st->(∀p∈st,(∀f∈p.2.fs,f∈fl)/\p.2.fs.length<=100)->PSs (X.suite a ((a,oe)::pn)) ss (tSu X.K aj a cls d i y st)
 |[],st,h,_=>by
  cases h
  exact PSs.weak pss_nil fun D σ H z=>ajT z
 |.Assign [.Name x p] e p2::r,st,h,hs=>by
  rw[abZ]at h
  obtain⟨j,h1,h⟩:=aqU.mp h
  obtain⟨se,h2,h⟩:=aqU.mp h
  obtain⟨st',h3,h⟩:=aqU.mp h
  cases h
  obtain⟨s1,s2,s3⟩:=m7 am h1
  obtain⟨u1,u2⟩:=hs (j,se) aq1
  have he:=agS (a:=a) (pn:=pn) am hi hy u1 u2 hz hf h2
  have hne:CW e=false/\swappedStores [.Name x p] e X.env=pure none:=by
   unfold acF at h2
   split at h2 <;> first | exact⟨rfl,rfl⟩ | cases h2
  refine PSs.weak (pss_cons (ps_asg he (pg_name (X:=X.suite a ((a,oe)::pn)) am.nd s1 s2 s3) (Cv hne.1) hne.2 (by with_unfolding_all rfl)) (Ue am hi hy hz hf h3 fun p hp=>hs p (aq0 _ hp))) fun D σ H z=>?_
  exact ai3 z fun σ' H' z'=>z'
def anz(aj:aR)(K:aqV)(h:Hd)(D:Addr):Cl:=⟨.ref D,h.nm,fun a cls d=>tSu K aj a cls d h.nm h.y h.st⟩
theorem Zu(am:Amb aj c X W k):∀{hds:List ExceptHandler} {hs:List Hd},Xx c hds=some hs->∃ls,Cg X hds ls/\Hu X.K aj hs ls
 |[],hs,h=>by
  cases h
  exact⟨[],.nil,.nil⟩
 |h0::hds,hs,h=>by
  rw[Xx]at h
  obtain⟨d,h1,h⟩:=aqU.mp h
  obtain⟨ds,h2,h⟩:=aqU.mp h
  cases h
  obtain⟨ls,i1,i2⟩:=Zu am h2
  unfold ajK at h1
  split at h1
  ·next y np nm s0 su cp=>
   obtain⟨tab,j1,h1⟩:=aqU.mp h1
   obtain⟨i,j2,h1⟩:=aqU.mp h1
   obtain⟨st,j3,h1⟩:=aqU.mp h1
   obtain⟨_,j4,h1⟩:=aqU.mp h1
   obtain⟨hb,h1⟩:=aX.mp h1
   cases h1
   simp only[aqW,ard]at hb
   obtain⟨b1,b2,b3,b4⟩:=hb
   obtain⟨⟨D,hD⟩,hx⟩:=am.hk.xm y tab j1
   have hm:X.mg y=some (.ref D):=by
    split at j4
    ·next hl=>
     obtain⟨C,g1,g2,_⟩:=am.gl y _ hl
     rw[hD]at g2
     cases g2
     exact g1
    ·next hl=>
     obtain⟨C,fI,fd,ps,g1,g2,_⟩:=am.gl y _ hl
     rw[hD]at g2
     cases g2
     exact g1
    ·cases j4
   have hnames:Names X y (.ref D):=⟨uo am b1,(ug b2).1,.inl hm⟩
   have hst:∀p∈st,(∀f∈p.2.fs,f∈(c.hs.xf.lookup y).getD [])/\p.2.fs.length<=100:=fun p hp=>by
    have:=arl.mp b4 p hp
    rw[aqW,decide_eq_true_eq]at this
    exact⟨fun f hf=>by simpa using arl.mp this.1 f hf,this.2⟩
   have hnj:∀p∈st,i≠some p.1:=fun p hp z=>by
    subst z
    have:=arl.mp b3 p hp
    simp at this
   refine⟨anz aj X.K ⟨y,fun x=>tab.lookup x,i,st⟩ D::ls,?_,.cons ⟨⟨D,hD,rfl⟩,hx,rfl,rfl,hnj⟩ i2⟩
   cases nm with
   |none=>
    cases j2
    exact .one hnames rfl (fun a oe cls d pn hz hf=>Ue am rfl rfl hz hf j3 hst) i1
   |some n=>
    have j2':=j2
    unfold TF at j2
    obtain⟨i',s1,j2⟩:=aqU.mp j2
    split at j2
    ·next hloc=>
     cases j2
     refine .as hnames rfl (wO am s1).1 ?_ (fun a oe cls d pn hz hf=>Ue am j2' rfl hz hf j3 hst) i1
     unfold PySem.Env.kindOf
     rw[am.hs]
     exact hloc
    ·cases j2
  ·cases h1
theorem wL.tr(a:wL aj c X W k){W':WX}{pn:List (Addr×Obj)}{xe:Value->Shared->Prop}(t:Takes (X.tr pn xe) W')(p:PassesOwn (model X.prog X.w) X.A X.env xe):wL aj c (X.tr pn xe) W' k where
 hN:=a.hN
 hs:=a.hs
 calm:=a.calm
 nd:=a.nd
 tk:=t
 rm:=a.rm
 gl:=a.gl
 bl:=a.bl
 fn:=a.fn
 hk:=a.hk
 ps:=p
 st:=a.st
 fr:=a.fr
 kf:=a.kf
def xS(q:Bool)(t:Tr)(s:Ts)(c:Tc):Stmt->Option SF
 |.Raise (some (.Call (.Name x _) [] [] _)) none _=>(match c.G.lookup x with
  |some .exc=>gd (FZ c.sc x&&!Gn x) (some (eV x))
  |_=>none)
 |.Raise (some (.Call (.Name x _) (e::es) [] _)) none _=>(match c.G.lookup x with
  |some (.exi fs)=>(JL t c (e::es)).bind fun as=>gd (FZ c.sc x&&(!Gn x&&(decide ((e::es).length=fs.length)&&decide (fs.length<=1000)))) (some (Cp x fs as))
  |_=>none)
 |.Try body (h::hds) [] [] _=>(s.B c body).bind fun f=>(Xx c (h::hds)).bind fun hs=>some (aac f hs)
 |.Pass _=>some aW
 |.Expr (.Call (.Attribute (.Attribute o f p1) m apos) [e] [] pos) epos=>(match q with
  |true=>(s.G c (.Call (.Attribute (.Attribute o f p1) m apos) [e] [] pos)).bind fun f=>some (cC f)
  |false=>match m=="append" with
   |true=>gd (baseOk o&&(nst e&&(apos.endLine==pos.line))) ((t.W c o).bind fun fo=>(s.G c e).bind fun fe=>some (Du f fo fe))
   |false=>(s.G c (.Call (.Attribute (.Attribute o f p1) m apos) [e] [] pos)).bind fun f=>some (cC f))
 |.Expr e _=>gd (!CW e) ((s.G c e).bind fun f=>some (cC f))
 |.Assign [.Name x p] (.ListComp elt [⟨tg,iter,ifs,0⟩,⟨tg1,iter1,ifs1,0⟩] scope cpos) _=>(vN c x).bind fun j=>
  gd (swB c.sc (.ListComp elt [⟨tg,iter,ifs,0⟩,⟨tg1,iter1,ifs1,0⟩] scope cpos) scope x p&&!c.ml.contains x) ((Q6 t c elt tg iter ifs tg1 iter1 ifs1 scope).bind fun f=>some (bf (aF j) (gOf f)))
 |.Assign [.Attribute o f _] e _=>(match q with
  |true=>none
  |false=>ae5 t s c o f e)
 |.Assign [.Subscript (.Attribute o f _) i _] e _=>(match q with
  |true=>none
  |false=>gd (baseOk o&&(!Qu i&&!CW e)) ((t.W c o).bind fun fo=>(t.E c i).bind fun fi=>(t.E c e).bind fun fe=>match c.hs.df.lookup f with
   |some _=>some (Nr f fo fi fe)
   |none=>some (Rm f fo fi fe)))
 |.AugAssign (.Attribute o f _) .Add e _=>(match q with
  |true=>none
  |false=>(t.W c o).bind fun fo=>(t.E c e).bind fun fe=>some (R8 c.hs.ft f fo fe))
 |.Delete [.Subscript (.Attribute o f _) i _] _=>(match q with
  |true=>none
  |false=>gd (baseOk o) ((t.W c o).bind fun fo=>(t.E c i).bind fun fi=>some (M5 f fo fi)))
 |_=>none
theorem al9(o:t.Ok)(os:s.Ok q)(a:wL aj c X W k){st:Stmt}{f:SF}(h:xS q t s c st=some f):SE aj X W q st f:=by
 have hk:=a.hk
 unfold xS at h
 split at h
 ·split at h
  ·next hl=>
   obtain⟨hb,h⟩:=aX.mp h
   cases h
   simp only[aqW,ard]at hb
   exact afk a.calm a.tk (uo a.toAmb hb.1) (ug hb.2).1 (a.gl _ _ hl)
  ·cases h
 ·split at h
  ·next fs hl=>
   obtain⟨as,h1,h⟩:=aqU.mp h
   obtain⟨hb,h⟩:=aX.mp h
   cases h
   simp only[aqW,ard,decide_eq_true_eq]at hb
   obtain⟨b1,b2,b3,b4⟩:=hb
   obtain⟨i1,i2,i3⟩:=vD o a.toAmb h1
   exact aeJ a.calm a.tk a.rm (uo a.toAmb b1) (ug b2).1 (a.gl _ _ hl) i1 i2 (fun M ρ ds z=>by rw[i3 M ρ ds z];exact b3) b4
  ·cases h
 ·obtain⟨f1,h1,h⟩:=aqU.mp h
  obtain⟨hs,h2,h⟩:=aqU.mp h
  cases h
  obtain⟨ls,i1,i2⟩:=Zu a.toAmb h2
  exact ala a.st a.fr a.nd a.tk (fun W' pn xe t p=>os.ob (a.tr t p) h1) i1 i2
 ·cases h
  exact PS.weak ps_pass fun D σ H ⟨g,ρ,M,I,z⟩=>z σ H g .refl I
 ·split at h
  ·obtain⟨f1,h1,h⟩:=aqU.mp h
   cases h
   exact Uo (os.og a h1) (G4 rfl)
  ·split at h
   ·next hm=>
    obtain⟨hb,h⟩:=aX.mp h
    obtain⟨fo,h1,h⟩:=aqU.mp h
    obtain⟨fe,h2,h⟩:=aqU.mp h
    cases h
    simp only[aqW]at hb
    cases eq_of_beq hm
    exact aip hk.co (o.ow a.toAmb h1) hb.1 (os.og a h2) hb.2.1 hb.2.2
   ·obtain⟨f1,h1,h⟩:=aqU.mp h
    cases h
    exact Uo (os.og a h1) (G4 rfl)
 ·obtain⟨hb,h⟩:=aX.mp h
  obtain⟨f1,h1,h⟩:=aqU.mp h
  cases h
  exact Uo (os.og a h1) (G4 (by simpa using hb))
 ·obtain⟨j,hj,h⟩:=aqU.mp h
  obtain⟨hsw,h⟩:=aX.mp h
  rw[aqW]at hsw
  obtain⟨f1,h1,h⟩:=aqU.mp h
  cases h
  obtain⟨s1,s2,s3⟩:=m7 a.toAmb hj
  have hsw:=hsw.1
  rw[←a.hs]at hsw
  have l1:=(Rj (l:=0) a.kf hsw).1
  have l2:=fun l=>(Rj (l:=l) a.kf hsw).2
  clear h
  unfold Q6 at h1
  obtain⟨it,g1,h⟩:=aqU.mp h1
  obtain⟨⟨js,tf⟩,h2,h⟩:=aqU.mp h
  obtain⟨tt,h3,h⟩:=aqU.mp h
  obtain⟨it1,h4,h⟩:=aqU.mp h
  obtain⟨⟨js1,tf1⟩,h5,h⟩:=aqU.mp h
  obtain⟨tt1,h6,h⟩:=aqU.mp h
  obtain⟨te,h7,h⟩:=aqU.mp h
  obtain⟨hb,h⟩:=aX.mp h
  cases h
  simp only[aqW,ard]at hb
  obtain⟨b1,b2,b3,b4,b5,b6⟩:=hb
  have am:=a.toAmb
  exact aii a.calm a.nd s1 l1 (l2 _) (o.oi am g1) (by rw[a.hN,a.hs];exact b1) (oJ b2) (oJ b3) (oJ b4) (fun s H C cl fp=>tV (am.inn _ s H C cl fp) h2) (fun s H C cl fp=>uR o (am.inn _ s H C cl fp) h3) (fun s H C cl fp=>o.oi (am.inn _ s H C cl fp) h4) (fun s H C cl fp=>tV (am.inn _ s H C cl fp) h5) (fun s H C cl fp=>uR o (am.inn _ s H C cl fp) h6) (fun s H C cl fp=>o.oe (am.inn _ s H C cl fp) h7) (qu b5) (fun env=>qu b6)
 ·split at h
  ·cases h
  ·exact ag7 o os a h
 ·split at h
  ·cases h
  ·obtain⟨hb,h⟩:=aX.mp h
   obtain⟨fo,h1,h⟩:=aqU.mp h
   obtain⟨fi,h2,h⟩:=aqU.mp h
   obtain⟨fe,h3,h⟩:=aqU.mp h
   simp only[aqW,ard]at hb
   obtain⟨b1,b2,b3⟩:=hb
   split at h
   ·cases h
    exact ah0 hk.co hk.hw (afc a.toAmb) (o.ow a.toAmb h1) b1 (o.oe a.toAmb h2) (o.oe a.toAmb h3) afZ
   ·cases h
    exact agJ hk.co (o.ow a.toAmb h1) b1 (o.oe a.toAmb h3) (o.oe a.toAmb h2) (afU b2) (Cv b3) (by with_unfolding_all rfl)
 ·split at h
  ·cases h
  ·obtain⟨fo,h1,h⟩:=aqU.mp h
   obtain⟨fe,h2,h⟩:=aqU.mp h
   cases h
   exact ahj hk.co hk.fk (o.ow a.toAmb h1) (o.oe a.toAmb h2)
 ·split at h
  ·cases h
  ·obtain⟨hb,h⟩:=aX.mp h
   obtain⟨fo,h1,h⟩:=aqU.mp h
   obtain⟨fi,h2,h⟩:=aqU.mp h
   cases h
   exact agY hk.co hk.hw (afc a.toAmb) (o.ow a.toAmb h1) hb (o.oe a.toAmb h2)
 ·cases h
end
def tr0:Tr:=⟨fun _ _=>none,fun _ _=>none,fun _ _=>none,fun _ _ _ _=>none⟩
def ai7(t:Tr):Tr:=⟨xtE t,xtW t,xtT t,xtI t⟩
def tr:Nat->Tr
 |0=>tr0
 |n+1=>ai7 (tr n)
theorem zR:∀n,(tr n).Ok
 |0=>⟨fun _=>(by intro _ _ h;cases h),fun _=>(by intro _ _ h;cases h),fun _=>(by intro _ _ h;cases h),fun _=>(by intros;rename_i h;cases h)⟩
 |n+1=>⟨fun a=>(by intro _ _ h;exact(wz h).elim (alg (zR n) a) (ak8 (zR n) a)),fun a=>(by intro _ _ h;exact(wz h).elim (alN (zR n) a) (ajN (zR n) a)),fun a=>(by intro _ _ h;exact(wz h).elim (alx (zR n) a) (akd (zR n) a)),fun a=>(by intro _ _ _ _ h;exact(wz h).elim (aln (zR n) a) (akt (zR n) a))⟩
def ts0:Ts:=⟨fun _ _=>none,fun _ _=>none,fun _ _=>none,fun _ _=>none⟩
def ldG(q:Bool)(t:Tr)(s:Ts)(c:Tc)(e:Expr):Option GF:=match q with
 |true=>none
 |false=>xG t s c e
def ldH(_:Bool)(_:Ts)(_:Tc)(_:Expr):Option GT:=none
def akD(q:Bool)(t:Tr)(s:Ts):Ts:=⟨fun c e=>els ((t.E c e).bind fun f=>some (gOf f)) (ldG q t s c e),fun c e=>els ((t.T c e).bind fun f=>some (afQ f)) (ldH q s c e),fun c e=>els (stS t s c e) (xS q t s c e),acd s⟩
def ts(q:Bool)(t:Tr):Nat->Ts
 |0=>ts0
 |n+1=>akD q t (ts q t n)
theorem MK{t:Tr}(o:t.Ok)(q:Bool):∀n,(ts q t n).Ok q
 |0=>⟨fun _=>(by intro _ _ h;cases h),fun _=>(by intro _ _ h;cases h),fun _=>(by intro _ _ h;cases h),fun _=>(by intros;rename_i h;cases h)⟩
 |n+1=>⟨fun a=>by
   intro _ _ h
   rcases wz h with h|h
   ·obtain⟨f,h1,h⟩:=aqU.mp h
    cases h
    exact agx (o.oe a.toAmb h1)
   ·cases q with
    |true=>cases h
    |false=>exact amc o (MK o false n) a h,fun a=>by
   intro _ _ h
   rcases wz h with h|h
   ·obtain⟨f,h1,h⟩:=aqU.mp h
    cases h
    exact alo (o.ot a.toAmb h1)
   ·(cases h),fun a=>by
   intro _ _ h
   rcases wz h with h|h
   ·exact aiu o (MK o q n) a h
   ·exact al9 o (MK o q n) a h,fun a=>by
   intro _ _ h
   exact afL (MK o q n) a h⟩
def rd(c:Tc)(b:List Stmt):Option SF:=(ts true (tr 40) 60).B c b
def rdG(c:Tc)(b:List Stmt):Option SF:=(ts false (tr 40) 60).B c b
def CJ(P:Program)(w:World)(K:aqV)(mg:Str->Option Value)(base:Heap)(aj:aR)(k:Nat):List (Str×GV)->Prop
 |[]=>True
 |(x,v)::r=>bh P w K mg base aj k x v/\CJ P w K mg base aj k r
def Dr(mg:Str->Option Value):List Str->Prop
 |[]=>True
 |x::r=>mg x=none/\Dr mg r
section
variable{P:Program}{w:World}{K:aqV}{mg:Str->Option Value}{base:Heap}{aj:aR}{k:Nat}
theorem CJ.get:∀{G:List (Str×GV)},CJ P w K mg base aj k G->∀x v,G.lookup x=some v->bh P w K mg base aj k x v
 |[],_,x,v,h=>nomatch h
 |(y,u)::r,g,x,v,h=>by
  rw[aru]at h
  split at h
  ·next e=>
   cases h
   rw[eq_of_beq e]
   exact g.1
  ·exact g.2.get x v h
theorem Dr.get:∀{B:List Str},Dr mg B->∀x,x∈B->mg x=none
 |[],_,x,h=>nomatch h
 |y::r,g,x,h=>by
  rcases ara.mp h with rfl|h
  ·exact g.1
  ·exact g.2.get x h
theorem ac9{qual:Str}{st:Stmt}{f:Addr}{N ps ml B:List Str}{G:List (Str×GV)}{Ms:Hs}(S:FnScope N ps (defScope st))(g:CJ P w K mg base aj k G)(b:Dr mg B)(hh:Us P w K mg base aj k Ms)
  (cdv:Value) (A:Around) (outer:List PySem.Env) (s:Shared) (H:Hp) (E:XK) (hr:Room k (A.deeper (envOfC qual (defScope st) s.heap.objs.size f cdv))) :
  wL aj ⟨N,defScope st,G,B,Ms,ml,true⟩ (cxOf (L2.CX P w) P w K mg base N qual (defScope st) f cdv A outer s H E) (afO E) k where
 hN:=rfl
 hs:=rfl
 calm:=rfl
 nd:=S.nd
 tk:=takes_of rfl rfl rfl rfl
 rm:=hr
 gl:=g.get
 bl:=b.get
 fn:=fun _ _=>rfl
 hk:=hh
 ps:=passes_of rfl
 st:=rfl
 fr:=rfl
 kf:=S.kind
theorem Yb{x qual:Str}{st:Stmt}{f:Addr}{fd:FuncData}{N ps ml B:List Str}{G:List (Str×GV)}{Ms:Hs}{body:SF}(F:Fun K x qual st f fd)(S:FnScope N ps (defScope st))(g:CJ P w K mg base aj k G)(b:Dr mg B)(hh:Us P w K mg base aj k Ms)
  (h:rd ⟨N,defScope st,G,B,Ms,ml,true⟩ (defBody st)=some body):FnOk P w K mg base (L2.CX P w) (k+1) f fd ps (Wr K aj ps.length (mQ N.length body)):=
 amJ F S fun cdv A outer s H E hr=>(MK (zR 40) true 60).ob (ac9 S g b hh cdv A outer s H E hr) h
theorem Q7{x qual:Str}{st:Stmt}{f:Addr}{fd:FuncData}{N ps ml B:List Str}{G:List (Str×GV)}{Ms:Hs}{body:SF}(F:Fun K x qual st f fd)(S:FnScope N ps (defScope st))(g:CJ P w K mg base aj k G)(b:Dr mg B)(hh:Us P w K mg base aj k Ms)
  (h:rdG ⟨N,defScope st,G,B,Ms,ml,true⟩ (defBody st)=some body):FnOk P w K mg base (L2.CX P w) (k+1) f fd ps (JN K aj ps.length (mG N.length body)):=
 amI F S fun cdv A outer s H E hr=>(MK (zR 40) false 60).ob (ac9 S g b hh cdv A outer s H E hr) h
theorem aj5{f:Addr}{fd:FuncData}{ps:List Str}{j:Nat}:FnOk P w K mg base (L2.CX P w) j f fd ps (Wr K aj ps.length fun _ _=>.bad):=
 ⟨fun vs H Q E h=>h.1,fun A outer s H args us vs Q E _ _ _ _ h=>by
  obtain⟨_,g,M,ds,_,_,_,z⟩:=h
  exact False.elim z⟩
theorem afY{x:Str}{f:Addr}{fd:FuncData}{ps:List Str}{j:Nat}{m:Mo->List Dat->Out Dat}(hj:j<=k)(hg:mg x=some (.ref f))(hk:PySem.W.keepIn K (.ref f)=true)(hB:Binds K fd ps [])(F:FnOk P w K mg base (L2.CX P w) j f fd ps (Wr K aj ps.length m)):bh P w K mg base aj k x (.fq ps.length m):=
 ⟨f,hg,hk,fd,ps,j,hj,rfl,hB,F⟩
theorem KD{x:Str}{i:Int}{t:Tok}(h:mg x=some (.int i t)):bh P w K mg base aj k x (.con (.int i)):=⟨.int i,_,h,⟨t,rfl⟩,fun _ _=>.int i⟩
theorem Wc{g:Gh}{H:Hp}:∀{vs:List V} {ds:List Dat},(vs.zip ds).all (fun p=>match p with
  |(.int i,.int j)=>decide (i=j)
  |(.str x,.str y)=>decide (x=y)
  |_=>false)=true->vs.length=ds.length->aM K g H vs ds
 |[],[],_,_=>.nil
 |[],_::_,_,h=>nomatch h
 |_::_,[],_,h=>nomatch h
 |v::vs,d::ds,h,hl=>by
  rw[arv,arJ,aqW]at h
  refine .cons ?_ (Wc h.2 (asj hl))
  have h1:=h.1
  split at h1
  ·next e=>cases e;cases of_decide_eq_true h1;exact .int _
  ·next e=>cases e;cases of_decide_eq_true h1;exact .str _
  ·cases h1
theorem acZ{x:Str}{a:Addr}{vs:List V}{ds:List Dat}(h:mg x=some (.ref a))(q:∀H:Hp,SqT K H a vs)(hf:(vs.zip ds).all (fun p=>match p with
  |(.int i,.int j)=>decide (i=j)
  |(.str x,.str y)=>decide (x=y)
  |_=>false)=true) (hl:vs.length=ds.length):bh P w K mg base aj k x (.con (.tuple ds)):=⟨.ref a,_,h,rfl,fun _ H=>.tup (q H) (Wc hf hl)⟩
end
open PySem PySem.Spec PyProof.Rows L2
section
variable{fa:List He.Fa}{fn:List He.DefD}{tb:List He.Tab}{ex:aqV->Bool}{w:World}{K:aqV}
theorem Np.pG(c:Np fa fn tb ex w K)(i:Nat){f:He.Fa}(h:fa[i]?=some f:=by rfl):f.ok K=true:=c.t.d.fact i h
theorem Np.VN(c:Np fa fn tb ex w K)(i:Nat){d:He.DefD}(h:fn[i]?=some d:=by rfl):∃fd,FunD K d.name d.qual d.params d.body d.scope (d.dvs K) (d.kws K) (He.fAd K d.at_) fd:=c.t.d.def_ i h
theorem Dy{x qual:Str}{st:Stmt}{f:Addr}{fd:FuncData}(F:FunD K x qual (defArgs st) (defBody st) (defScope st) [] [] f fd):L2.Fun K x qual st f fd:=by
 obtain⟨oc,od,dV,kV,doc,pm,an,cdv,ct,osl,e,l,c,hd,_⟩:=F.ex
 rcases hd with⟨_,z⟩|⟨z,_⟩
 ·cases z
  exact⟨⟨oc,od,kV,doc,pm,an,cdv,ct,osl,e,l,c⟩,F.kp⟩
 ·exact absurd rfl z
end
def g0:Gh:=⟨[],fun _=>none,fun _=>False,fun _=>False⟩
theorem akH(a:Addr):¬g0.A a:=fun z=>by
 rcases z with(z|z)|z|z
 ·cases z
 ·exact z rfl
 ·exact z
 ·exact z
theorem amn{H:Hp}:Kd g0 H:=⟨fun a z=>absurd z (akH a),fun a z=>False.elim z,fun a z=>False.elim z⟩
theorem aix{K:aqV}{aj:aR}{H:Hp}(nc:aj ""=none):gj K aj g0 H []:=⟨rfl,fun h k a e=>(by cases h <;> cases e),fun h a i e=>(by cases h <;> cases e),fun h i e=>(by cases h <;> cases e),fun h i e=>(by cases h <;> cases e),fun h a i e=>(by cases h <;> cases e),fun h i e=>(by cases h <;> cases e),nc⟩
theorem Wd{K:aqV}{g:Gh}{H:Hp}:∀ns:List Int,aM K g H (ns.map V.int) (ns.map PyData.int)
 |[]=>.nil
 |n::ns=>.cons (.int n) (Wd ns)
theorem akE{K:aqV}{H:Hp}{a:Addr}{ns:List Int}(hS:SqL K H a (ns.map V.int)):aM K g0 H [.ref a] [.list (ns.map PyData.int)]:=by
 refine .cons (.lst ?_ (Wd ns)) .nil
 rcases hS with h|h
 ·exact .inl ⟨h,akH a⟩
 ·exact .inr h
theorem ame{K:aqV}{aj:aR}(nc:aj ""=none){m:Mo->List Dat->aZ Dat}{H:Hp}{a:Addr}{ns:List Int}{M:Mo}(hS:SqL K H a (ns.map V.int))(h:m [] [.list (ns.map PyData.int)]=.ok (.bool true) M):JN K aj 1 m [.ref a] H (fun v _=>v=.bl true) fun _ _ _=>False:=
 ⟨rfl,g0,[],[.list (ns.map PyData.int)],amn,aix nc,akE hS,by
  rw[h]
  exact fun v H' g' _ _ _ r=>by cases r;rfl⟩
section
variable{K:aqV}{h:Heap}{mg:Str->Option Value}{w:World}
def oV(w:World)(K:aqV)(xs:List Str)(ft:Ft):aR:=⟨fun x=>match xs.contains x with
 |true=>some (He.ga K x)
 |false=>none,fun c=>(ft.lookup c).getD [],w⟩
theorem Px{xs:List Str}{ft:Ft}{x:Str}{C:Addr}(e:oV w K xs ft x=some C):C=He.ga K x:=by
 have e:(match xs.contains x with
  |true=>some (He.ga K x)
  |false=>none)=some C:=e
 split at e
 ·exact(ari e).symm
 ·cases e
theorem Dk{xs:List Str}{ft:Ft}{x:Str}(e:xs.contains x=true):oV w K xs ft x=some (He.ga K x):=by
 show(match xs.contains x with
  |true=>some (He.ga K x)
  |false=>none)=_
 rw[e]
theorem Y5{ft:Ft}(hb:Lz K ft=true){c:Str}{fs:List Str}(hl:ft.lookup c=some fs):Cls K (He.ga K c)/\∀f∈fs,NoAttr K (He.ga K c) f:=by
 obtain⟨h1,h2⟩:=He.ba (arl.mp hb _ (qF hl))
 exact⟨He.cls_ok h1,fun f hf=>He.noat_ok (arl.mp h2 f hf)⟩
theorem adC{xs:List Str}{ft:Ft}(hb:Lz K ft=true):jK K (oV w K xs ft):=fun c C f e hf=>by
 have e:=Px e
 subst e
 have hf:f∈(ft.lookup c).getD []:=hf
 cases hl:ft.lookup c with
 |none=>rw[hl]at hf;cases hf
 |some fs=>
  rw[hl]at hf
  obtain⟨h1,h2⟩:=Y5 hb hl
  exact⟨h1,h2 f hf⟩
theorem ae0{xs:List Str}{ft:Ft}:LR ft (oV w K xs ft):=fun c f e=>by
 unfold Ft.has at e
 show f∈(ft.lookup c).getD []
 split at e
 ·next fs hl=>
  rw[hl]
  simpa using e
 ·cases e
def xmN(xs:List Str)(xm:List (Str×List (Str×Bool))):Bool:=xm.all fun p=>xs.contains p.1
theorem alF{xs:List Str}{ft:Ft}{xm:List (Str×List (Str×Bool))}(hb:xmB K xm=true)(hn:xmN xs xm=true)(y:Str)(tab:List (Str×Bool))(hl:xm.lookup y=some tab):(∃D,oV w K xs ft y=some D)/\acy K (oV w K xs ft) y fun x=>tab.lookup x:=by
 refine⟨⟨_,Dk (arl.mp hn _ (qF hl))⟩,fun x b C e1 e2 D e3=>?_⟩
 rw[Px e2,Px e3]
 exact He.exm_ok (arl.mp (arl.mp hb _ (qF hl)) _ (qF e1))
theorem agT{C:Addr}(hb:akA K C=true):OexC K C:=by
 obtain⟨h1,h2⟩:=He.ba hb
 obtain⟨h2,h3⟩:=He.ba h2
 obtain⟨h3,h4⟩:=He.ba h3
 obtain⟨h4,h5⟩:=He.ba h4
 refine⟨?_,He.eqO_ok h2,of_decide_eq_true h3,of_decide_eq_true h4,h5⟩
 split at h1
 ·next t dd cd sl hl=>
  obtain⟨t1,h1⟩:=He.ba h1
  split at h1
  ·next C' bm k0 k1 k2 k3 n k5 e1 e2=>
   obtain⟨a1,h1⟩:=He.ba h1
   obtain⟨a2,h1⟩:=He.ba h1
   obtain⟨a3,h1⟩:=He.ba h1
   obtain⟨a4,a5⟩:=He.ba h1
   have q1:=of_decide_eq_true t1
   have q2:=of_decide_eq_true a1
   have q3:=of_decide_eq_true a2
   have q4:cd.hasDel=false:=by simpa using a3
   have q5:sl=#[k0,k1,k2,k3,some (.builtin n),k5]:=by
    rw[←Array.toList_inj]
    exact e2
   obtain⟨nm,bs,mro,ns,qn,hd,sn,sub,ab,col,hdel⟩:=cd
   have e1:mro=.ref C'::bm:=e1
   have q4:hdel=false:=q4
   have a4:hd=true:=a4
   subst q1 q2 q3 q4 q5 e1 a4
   exact⟨nm,qn,ns,bs,bm,sn,sub,ab,col,dd,k0,k1,k2,k3,k5,hl,a5⟩
  ·cases h1
 ·cases h1
theorem Ve{x:Str}{fs:List Str}(hb:Uk K x fs=true):OexC K (He.ga K x)/\PySem.W.findIn K (.ref (He.ga K x)) "__init__"=some (some (.ref (He.ma K (He.ga K x) "__init__")))/\PySem.W.typeIn K (.ref (He.ma K (He.ga K x) "__init__"))=some (.type "function")/\XfC K (He.ga K x)/\∀f∈fs,PySem.W.findIn K (.ref (He.ga K x)) f=some none:=by
 obtain⟨h1,h2⟩:=He.ba hb
 obtain⟨h2,h3⟩:=He.ba h2
 obtain⟨h3,h4⟩:=He.ba h3
 obtain⟨h4,h5⟩:=He.ba h4
 exact⟨agT h1,He.eqO_ok h2,of_decide_eq_true h3,xfB_ok h4,fun f hf=>He.eqO_ok (arl.mp h5 f hf)⟩
theorem afF{a:Addr}{xs:List Str}(hb:Xu K a xs=true)(H:Hp):SqT K H a (xs.map V.str):=by
 unfold Xu at hb
 split at hb
 ·next c d its n sl hl=>
  obtain⟨h1,h2⟩:=He.ba hb
  obtain⟨h3,h4⟩:=He.ba h2
  have q1:=of_decide_eq_true h1
  subst q1
  exact .inr ⟨_,its,n,hl,rfl,rfl,of_decide_eq_true h3,He.relAll_ok h4⟩
 ·cases hb
def Aa(kvs:List (Str×List Str)):List (Str×Dat):=kvs.map fun q=>(q.1,.tuple (q.2.map PyData.str))
theorem Wi{g:Gh}{H:Hp}:∀xs:List Str,aM K g H (xs.map V.str) (xs.map PyData.str)
 |[]=>.nil
 |x::xs=>.cons (.str x) (Wi xs)
theorem Rc{y:Str}:∀{kvs:List (Str×List Str)},(Aa kvs).lookup y=(kvs.lookup y).map fun xs=>PyData.tuple (xs.map PyData.str)
 |[]=>rfl
 |(z,xs)::r=>by
  show List.lookup y ((z,PyData.tuple (xs.map PyData.str))::Aa r)=_
  rw[aru,aru]
  split
  ·rfl
  ·exact Rc
theorem look_none{α:Type}{y:Str}:∀{kvs:List (Str×α)},kvs.lookup y=none->y∉kvs.map (·.1)
 |[],_=>by simp
 |(z,a)::r,h=>by
  rw[aru]at h
  split at h
  ·cases h
  ·next hn=>
   rw[aqZ,ara]
   rintro(e|e)
   ·subst e
    simp at hn
   ·exact look_none h e
theorem ah5{x:Str}{kvs:List (Str×List Str)}(hb:afm K x kvs=true)(hk:∃es n,KDict K w (He.ga K x) es n):abG w K (He.ga K x) (Aa kvs):=by
 obtain⟨h1,h2⟩:=He.ba hb
 obtain⟨h2,h3⟩:=He.ba h2
 obtain⟨es,n,D⟩:=hk
 rw[D.at_]at h1
 refine⟨es,n,D,?_,fun y=>?_⟩
 ·unfold Aa
  rw[arw]
  exact of_decide_eq_true h2
 ·rw[Rc]
  cases hl:kvs.lookup y with
  |some xs=>
   have h4:=arl.mp h3 _ (qF hl)
   show ∃v u,PySem.W.nsIn K (He.ga K x) y=some (some u)/\RelV v u/\∀g H,Rep K g H v (.tuple (xs.map PyData.str))
   have h4:(match PySem.W.nsIn K (He.ga K x) y with
    |some (some (.ref a))=>Xu K a xs
    |_=>false)=true:=h4
   split at h4
   ·next a he=>exact⟨.ref a,.ref a,he,rfl,fun g H=>.tup (afF h4 H) (Wi xs)⟩
   ·cases h4
  |none=>
   show PySem.W.nsIn K (He.ga K x) y=some none
   have ny:=look_none hl
   unfold PySem.W.nsIn
   rw[D.at_]
   have h1:es.toList.all (fun e=>(match e.key with
    |.str y _=>(kvs.map (·.1)).contains y
    |_=>false)&&!e.refKey)=true:=h1
   have f1:es.toList.find? (·.key.isStr y)=none:=by
    rw[List.find?_eq_none]
    intro e he z
    obtain⟨a1,a2⟩:=He.ba (arl.mp h1 e he)
    split at a1
    ·next y' tk hy=>
     rw[hy]at z
     have z:(y'==y)=true:=z
     have e':=eq_of_beq z
     subst e'
     exact ny (by simpa using a1)
    ·cases a1
   have f2:es.toList.any (·.refKey)=false:=by
    rw[List.any_eq_false]
    intro e he z
    obtain⟨a1,a2⟩:=He.ba (arl.mp h1 e he)
    rw[z]at a2
    cases a2
   show(match es.toList.find? (·.key.isStr y) with
    |some e=>some (some e.val)
    |none=>if es.toList.any (·.refKey) then none else some none)=some none
   rw[f1,f2]
   rfl
end
section
variable{P:Program}{w:World}{K:aqV}{mg:Str->Option Value}{base:Heap}{k:Nat}{xs:List Str}{ft:Ft}
def Xw(P:Program)(w:World)(K:aqV)(mg:Str->Option Value)(base:Heap)(aj:aR)(k:Nat)(m:Str):List (Str×MV)->Prop
 |[]=>True
 |(c,v)::r=>bZ P w K mg base aj k c m v/\Xw P w K mg base aj k m r
def Fd(P:Program)(w:World)(K:aqV)(mg:Str->Option Value)(base:Heap)(aj:aR)(k:Nat):List (Str×List (Str×MV))->Prop
 |[]=>True
 |(m,tb)::r=>Xw P w K mg base aj k m tb/\Fd P w K mg base aj k r
theorem Xw.get{aj:aR}{m:Str}:∀{tb:List (Str×MV)},Xw P w K mg base aj k m tb->∀c v,tb.lookup c=some v->bZ P w K mg base aj k c m v
 |[],_,c,v,h=>nomatch h
 |(y,u)::r,g,c,v,h=>by
  rw[aru]at h
  split at h
  ·next e=>
   cases h
   rw[eq_of_beq e]
   exact g.1
  ·exact g.2.get c v h
theorem Fd.get{aj:aR}:∀{Ms:List (Str×List (Str×MV))},Fd P w K mg base aj k Ms->∀m tb,Ms.lookup m=some tb->∀c v,tb.lookup c=some v->bZ P w K mg base aj k c m v
 |[],_,m,tb,h=>nomatch h
 |(y,u)::r,g,m,tb,h=>by
  rw[aru]at h
  split at h
  ·next e=>
   cases h
   rw[eq_of_beq e]
   exact g.1.get
  ·exact g.2.get m tb h
theorem anf{aj:aR}{x:Str}{f:Addr}{fd:FuncData}{ps:List Str}{j:Nat}{m:Mo->List Dat->aZ Dat}(hj:j<=k)(hg:mg x=some (.ref f))(hk:PySem.W.keepIn K (.ref f)=true)(hB:Binds K fd ps [])(F:FnOk P w K mg base (L2.CX P w) j f fd ps (JN K aj ps.length m)):bh P w K mg base aj k x (.fg ps.length m):=
 ⟨f,hg,hk,fd,ps,j,hj,rfl,hB,F⟩
theorem iY{x:Str}(hn:xs.contains x=true)(hg:mg x=some (.ref (He.ga K x)))(he:(He.Fa.exc x).ok K=true):bh P w K mg base (oV w K xs ft) k x .exc:=by
 obtain⟨h1,h2,h3,h4⟩:=He.exc_ok he
 exact⟨_,hg,Dk hn,h1,h2,h3,h4⟩
theorem ak4{x:Str}{fd:FuncData}{ps:List Str}{j n:Nat}{m:Mo->List Dat->aZ Dat}(hj:j+1<=k)(hn:xs.contains x=true)(hg:mg x=some (.ref (He.ga K x)))(hc:Cls K (He.ga K x))(hm:(He.Fa.mkr x).ok K=true)(hp:ps.length=n+1)(hB:Binds K fd ps [])
  (F:FnOk P w K mg base (L2.CX P w) j (He.ma K (He.ga K x) "__init__") fd ps (JN K (oV w K xs ft) ps.length m)):bh P w K mg base (oV w K xs ft) k x (.cls n m):=
 ⟨_,_,fd,ps,j,hg,Dk hn,hc,He.mkr_ok hm,hj,hp,hB,F⟩
theorem aj2{aj:aR}{x:Str}{kvs:List (Str×List Str)}(hg:mg x=some (.ref (He.ga K x)))(hb:afm K x kvs=true)(hk:∃es n,KDict K w (He.ga K x) es n):bh P w K mg base aj k x (.dic (Aa kvs)):=⟨_,hg,ah5 hb hk⟩
theorem akM{x:Str}{fs:List Str}{fd:FuncData}{ps:List Str}(h2:2<=k)(hn:xs.contains x=true)(hg:mg x=some (.ref (He.ga K x)))(ho:Uk K x fs=true)(hp:ps.length=fs.length+1)(hB:Binds K fd ps [])(F:FnOk P w K mg base CX0 1 (He.ma K (He.ga K x) "__init__") fd ps (af4 (He.ga K x) fs)):bh P w K mg base (oV w K xs ft) k x (.exi fs):=by
 obtain⟨h1,h3,h4,_,_⟩:=Ve ho
 exact⟨_,_,fd,ps,hg,Dk hn,h1,h3,h4,h2,hp,hB,F⟩
theorem agf{m:Str}{l:List Str}(hf:l.contains m=false)(z:m∈l):False:=by
 rw[List.contains_iff_mem.mpr z]at hf
 cases hf
theorem anx{c m:Str}{fd:FuncData}{ps:List Str}{j:Nat}{mm:Mo->List Dat->Out Dat}(hj:j<=k)(hn:xs.contains c=true)(hc:Cls K (He.ga K c))(hm:(He.Fa.meth c m).ok K=true)(hf:((ft.lookup c).getD []).contains m=false)(hB:Binds K fd ps [])(F:FnOk P w K mg base (L2.CX P w) j (He.ma K (He.ga K c) m) fd ps (Wr K (oV w K xs ft) ps.length mm)):bZ P w K mg base (oV w K xs ft) k c m (.q ps.length mm):=
 ⟨_,_,Dk hn,hc,He.meth_ok hm,(fun z=>agf hf z),fd,ps,j,hj,rfl,hB,F⟩
theorem anh{c m:Str}{fd:FuncData}{ps:List Str}{j:Nat}{mm:Mo->List Dat->aZ Dat}(hj:j<=k)(hn:xs.contains c=true)(hc:Cls K (He.ga K c))(hm:(He.Fa.meth c m).ok K=true)(hf:((ft.lookup c).getD []).contains m=false)(hB:Binds K fd ps [])(F:FnOk P w K mg base (L2.CX P w) j (He.ma K (He.ga K c) m) fd ps (JN K (oV w K xs ft) ps.length mm)):bZ P w K mg base (oV w K xs ft) k c m (.g ps.length mm):=
 ⟨_,_,Dk hn,hc,He.meth_ok hm,(fun z=>agf hf z),fd,ps,j,hj,rfl,hB,F⟩
theorem alQ{Ms:List (Str×List (Str×MV))}{xm:List (Str×List (Str×Bool))}{df:List (Str×Bool)}{xf:List (Str×List Str)}(hm:Fd P w K mg base (oV w K xs ft) k Ms)(hb:Lz K ft=true)(hx:xmB K xm=true)(hn:xmN xs xm=true)(hf:(xf.all fun p=>xs.contains p.1&&Uk K p.1 p.2)=true):Us P w K mg base (oV w K xs ft) k ⟨Ms,ft,xm,df,xf⟩ where
 ms:=hm.get
 fk:=ae0
 co:=adC hb
 hw:=rfl
 xm:=alF hx hn
 xf:=fun y fs hl=>by
  obtain⟨h1,h2⟩:=He.ba (arl.mp hf _ (qF hl))
  obtain⟨_,_,_,h3,h4⟩:=Ve h2
  exact⟨_,Dk h1,h3,h4⟩
end
abbrev lI(l:List Int):Dat:=.list (l.map PyData.int)
abbrev aJ(l:List Int):Dat:=.tuple (l.map PyData.int)
theorem gR{tg:fG}{body:SF}{d:Dat}{ds:List Dat}{M M2:Mo}{ρ ρ1 ρ2:Env}(h1:tg d ρ=some ρ1)(h2:body M ρ1=.next ρ2 M2):gY tg body (d::ds) M ρ=gY tg body ds M2 ρ2:=by
 rw[gY,h1]
 show(match body M ρ1 with
   |.next ρ2 M2=>gY tg body ds M2 ρ2
   |.cont ρ2 M2=>gY tg body ds M2 ρ2
   |.brk ρ2 M2=>.next ρ2 M2
   |.ret d M2=>.ret d M2
   |.exc x ρ2 M2=>.exc x ρ2 M2
   |.bad=>.bad)=_
 rw[h2]
theorem fQ{α:Type}{tg:fG}{tt:QT}{te:QF}{M:Mo}{ρ:Env}(ds:α->Dat)(p:α->Bool)(f:α->Dat):∀(xs:List α),(∀x∈xs,∃ρ1,tg (ds x) ρ=some ρ1/\tt M ρ1=.ok (p x)/\(p x=true->te M ρ1=.ok (f x)))->cP tg tt te M ρ (xs.map ds)=.ok ((xs.filter p).map f)
 |[],_=>rfl
 |x::xs,h=>by
  obtain⟨ρ1,h1,h2,h3⟩:=h x aq1
  have ih:=fQ ds p f xs fun y hy=>h y (aq0 _ hy)
  rw[aqZ,cP,h1]
  show((xY (tt M ρ1)).bind fun b=>if b=true then(xY (te M ρ1)).bind fun y=>(cP tg tt te M ρ (xs.map ds)).bind fun r=>.ok (y::r) else cP tg tt te M ρ (xs.map ds))=_
  rw[h2,ih]
  cases hp:p x with
  |true=>
   show(if true=true then(xY (te M ρ1)).bind fun y=>(Out.ok ((xs.filter p).map f)).bind fun r=>.ok (y::r) else Out.ok ((xs.filter p).map f))=_
   rw[h3 hp,if_pos rfl,List.filter_cons_of_pos hp]
   rfl
  |false=>
   show(if false=true then(xY (te M ρ1)).bind fun y=>(Out.ok ((xs.filter p).map f)).bind fun r=>.ok (y::r) else Out.ok ((xs.filter p).map f))=_
   rw[if_neg (by decide),List.filter_cons_of_neg (by rw[hp];decide)]
theorem fj{α:Type}{tg:fG}{te:QF}{M:Mo}{ρ:Env}(ds:α->Dat)(f:α->Dat)(xs:List α)(h:∀x∈xs,∃ρ1,tg (ds x) ρ=some ρ1/\te M ρ1=.ok (f x)):cP tg iG te M ρ (xs.map ds)=.ok (xs.map f):=by
 have:=fQ (tt:=iG) ds (fun _=>true) f xs fun x hx=>by
  obtain⟨ρ1,h1,h2⟩:=h x hx
  exact⟨ρ1,h1,rfl,fun _=>h2⟩
 rw[this,List.filter_eq_self.mpr (fun _ _=>rfl)]
theorem agm{i j:Int}(h : -(2 ^ 64) < i/\i < 2 ^ 64):decide (CMul i j)=true:=decide_eq_true (.inl h)
theorem mul_r{i j:Int}(h : -(2 ^ 64) < j/\j < 2 ^ 64):decide (CMul i j)=true:=decide_eq_true (.inr h)
section
variable(M:Mo)(ρ:Env)
@[simp]theorem ajX (f k:SF):aD f k M ρ=match f M ρ with
 |.next ρ' M'=>k M' ρ'
 |o=>o:=rfl
@[simp]theorem aoe:aW M ρ=.next ρ M:=rfl
@[simp]theorem apj (tg:fG) (f:GF):bf tg f M ρ=(f M ρ).then ρ fun d M'=>match tg d ρ with
 |some ρ'=>.next ρ' M'
 |none=>.bad:=rfl
@[simp]theorem aoj (i j:Nat) (f:GF):Sv i j f M ρ=(f M ρ).then ρ fun d M'=>.next ((ρ.set i (some (.dat d))).set j (some (.dat d))) M':=rfl
@[simp]theorem ev_if (t:QT) (f k:SF):bT t f k M ρ=((t M (sO ρ)).at M).then ρ fun c M'=>if c=true then f M' ρ else k M' ρ:=rfl
@[simp]theorem aoV (f:QF):aU f M ρ=((f M (sO ρ)).at M).then ρ fun d M'=>.ret d M':=rfl
@[simp]theorem aoF (it:IF) (tg:fG) (body:SF):rQ it tg body M ρ=((it M ρ).at M).then ρ fun ds M'=>gY tg body ds M' ρ:=rfl
@[simp]theorem ap9 (j:Nat) (f:IF):Fq j f M ρ=((f M ρ).at M).then ρ fun xs M'=>.next (ρ.set j (some (.mut xs))) M':=rfl
@[simp]theorem aob (f:GF):cC f M ρ=(f M ρ).then ρ fun _ M'=>.next ρ M':=rfl
@[simp]theorem aoA (j:Nat) (f:QF):Pn j f M ρ=match ρ[j]? with
 |some (some (.mut xs))=>((f M ρ).at M).then ρ fun d M'=>if xs.length < 100000 then .next (ρ.set j (some (.mut (xs++[d])))) M' else .bad
 |_=>.bad:=rfl
@[simp]theorem an6 (j:Nat) (fi f:QF):R6 j fi f M ρ=match ρ[j]? with
 |some (some (.mut xs))=>((f M ρ).at M).then ρ fun d M'=>((fi M' ρ).at M').then ρ fun i M2=>match i with
  |.int k=>match ixN xs.length k with
   |some n=>.next (ρ.set j (some (.mut (xs.set n d)))) M2
   |none=>.bad
  |_=>.bad
 |_=>.bad:=rfl
@[simp]theorem aoU (j:Nat) (f:QF):Qn j f M ρ=match ρ[j]? with
 |some (some (.dat (.int i)))=>((f M ρ).at M).then ρ fun d M'=>match d with
  |.int k=>.next (ρ.set j (some (.dat (.int (i+k))))) M'
  |_=>.bad
 |_=>.bad:=rfl
@[simp]theorem aoh (i j:Nat) (f:GF):XD i j f M ρ=(f M ρ).then ρ fun d M'=>match d with
 |.list (d0::ds)=>if ds.length<=16000 then .next ((ρ.set i (some (.dat d0))).set j (some (.dat (.list ds)))) M' else .bad
 |.tuple (d0::ds)=>if ds.length<=16000 then .next ((ρ.set i (some (.dat d0))).set j (some (.dat (.list ds)))) M' else .bad
 |_=>.bad:=rfl
@[simp]theorem aqI (js:List Nat) (as:QA):sPN js as M ρ=((as M ρ).at M).then ρ fun ds M'=>match uV js ds ρ with
 |some ρ'=>.next ρ' M'
 |none=>.bad:=rfl
@[simp]theorem apI (f:QF):gOf f M ρ=(f M ρ).at M:=rfl
@[simp]theorem ev_op (o:Dat->Dat->Out Dat) (a b:QF):aA o a b M ρ=(a M ρ).bind fun x=>(b M ρ).bind fun y=>o x y:=rfl
@[simp]theorem ev_un (o:Dat->Out Dat) (a:QF):dH o a M ρ=(a M ρ).bind o:=rfl
@[simp]theorem ev_c (d:Dat):qC d M ρ=.ok d:=rfl
@[simp]theorem ev_var (i:Nat):aq i M ρ=match ρ[i]? with
 |some (some (.dat d))=>.ok d
 |_=>.bad:=rfl
@[simp]theorem anJ (i:Nat):ao i M ρ=match ρ[i]? with
 |some (some (.dat d))=>.ok d
 |some (some (.mut xs))=>.ok (.list xs)
 |_=>.bad:=rfl
@[simp]theorem apM:au M ρ=.ok []:=rfl
@[simp]theorem an3 (a:QF) (r:QA):ak a r M ρ=(a M ρ).bind fun x=>(r M ρ).bind fun xs=>.ok (x::xs):=rfl
@[simp]theorem aqj (r:QA):bL r M ρ=(r M ρ).bind fun xs=>Out.when (decide (xs.length<=100000)) (.ok (.tuple xs)):=rfl
@[simp]theorem aoC (r:QA):yE r M ρ=(r M ρ).bind fun xs=>Out.when (decide (xs.length<=100000)) (.ok (.list xs)):=rfl
@[simp]theorem aqg (a:QF):gG a M ρ=(a M ρ).bind Jv:=rfl
@[simp]theorem aqF (a:QF):bA a M ρ=(a M ρ).bind BP:=rfl
@[simp]theorem aoz (a:QT):jy a M ρ=(a M ρ).bind fun b=>.ok (!b):=rfl
@[simp]theorem aop (a b:QT):jV a b M ρ=(a M ρ).bind fun x=>if x=true then b M ρ else .ok false:=rfl
@[simp]theorem aqs (a b:QT):Ml a b M ρ=(a M ρ).bind fun x=>if x=true then .ok true else b M ρ:=rfl
@[simp]theorem aqD (a:QT):Vx a M ρ=(a M ρ).bind fun b=>.ok (.bool b):=rfl
@[simp]theorem ao2 (t:QT) (a b:QF):Qy t a b M ρ=(t M ρ).bind fun x=>if x=true then a M ρ else b M ρ:=rfl
@[simp]theorem ev_is (neg:Bool) (c:Dat) (a:QF):yw neg c a M ρ=(a M ρ).bind fun d=>.ok (.bool (neg ^^ pA c d)):=rfl
@[simp]theorem ev_notV (a:QF):Qz a M ρ=((a M ρ).bind BP).bind fun b=>.ok (.bool (!b)):=by
 show(((a M ρ).bind BP).bind fun b=>Out.ok (!b)).bind (fun b=>Out.ok (PyData.bool b))=_
 cases a M ρ with
 |ok d=>cases h:BP d <;> simp[Out.bind,h]
 |exc x=>rfl
 |bad=>rfl
@[simp]theorem ev_andV (a b:QF):yx a b M ρ=(a M ρ).bind fun d=>(BP d).bind fun x=>if x=true then b M ρ else .ok (.bool false):=rfl
@[simp]theorem ev_orV (a b:QF):afw a b M ρ=(a M ρ).bind fun d=>(BP d).bind fun x=>if x=true then .ok (.bool true) else b M ρ:=rfl
@[simp]theorem ang (o o':Dat->Dat->Out Dat) (a b c:QF):oY o o' a b c M ρ=(a M ρ).bind fun x=>(b M ρ).bind fun y=>(o x y).bind fun z=>(BP z).bind fun k=>if k=true then(c M ρ).bind fun w=>(o' y w).bind BP else .ok false:=rfl
@[simp]theorem aoL (t:Om) (a:QF):wB t a M ρ=(a M ρ).bind (xJ t):=rfl
@[simp]theorem aqN (a:QF) (lo hi:QO):LK a lo hi M ρ=(a M ρ).bind fun d=>(lo M ρ).bind fun l=>(hi M ρ).bind fun h=>slD d l h:=rfl
@[simp]theorem aqL:xQ M ρ=.ok none:=rfl
@[simp]theorem aqM (a:QF):pN a M ρ=(a M ρ).bind fun d=>(Bl d).bind fun i=>.ok (some i):=rfl
@[simp]theorem ev_call (m:Mo->List Dat->Out Dat) (as:QA):aV m as M ρ=(as M ρ).bind fun ds=>m M ds:=rfl
@[simp]theorem ano (a:QF):cZ a M ρ=(a M ρ).bind oK:=rfl
@[simp]theorem ams (a:QF):yZ a M ρ=(a M ρ).bind fun d=>(Bl d).bind fun n=>Out.when (decide (n<=100000/\-100000<=n)) (.ok (fH 0 n.toNat)):=rfl
@[simp]theorem anO (k₀:Int) (a:QF):zW k₀ a M ρ=(a M ρ).bind fun d=>(oK d).bind fun ds=>.ok (tH k₀ ds):=rfl
@[simp]theorem apA (a b:QF):Fx a b M ρ=(a M ρ).bind fun d=>(b M ρ).bind fun e=>(oK d).bind fun ds=>(oK e).bind fun es=>.ok (yq ds es):=rfl
@[simp]theorem an9 (it:IF) (tg:fG) (vs:List Nat) (tt:QT) (te:QF):eU it tg vs tt te M ρ=(it M ρ).bind fun ds=>Out.when (decide (ds.length<=50000)) ((cP tg tt te M (bR ρ vs) ds).bind fun r=>.ok (.list r)):=rfl
@[simp]theorem amT (it:IF) (tg:fG) (vs:List Nat) (tt:QT) (te:QF):Bj it tg vs tt te M ρ=(it M ρ).bind fun ds=>Out.when (decide (ds.length<=50000)) (cP tg tt te M (bR ρ vs) ds):=rfl
@[simp]theorem aoN (f:QA):SM f M ρ=(f M ρ).bind fun xs=>Out.when (decide (xs.length<=100000)) (.ok xs):=rfl
@[simp]theorem ald (f:QF):Il f M ρ=(f M ρ).bind Nk:=rfl
@[simp]theorem amv (j:Nat) (d:Dat):aF j d ρ=some (ρ.set j (some (.dat d))):=rfl
@[simp]theorem amV (js:List Nat) (ds:List Dat):bD js (.tuple ds) ρ=uV js ds ρ:=rfl
@[simp]theorem aqJ (n:Nat) (b:SF) (ds:List Dat):mQ n b M ds=match b M (ini n ds) with
 |.ret d _=>.ok d
 |.next _ _=>.ok .none
 |.exc x _ _=>.exc x
 |_=>.bad:=rfl
@[simp]theorem aqP (n:Nat) (b:SF) (ds:List Dat):mG n b M ds=match b M (ini n ds) with
 |.ret d M'=>.ok d M'
 |.next _ M'=>.ok .none M'
 |.exc x _ M'=>.exc x M'
 |_=>.bad:=rfl
end
section
variable(i j:Int)(ds es:List Dat)(b c:Bool)(x y:Str)
@[simp]theorem anN:gK (.int i) (.int j)=.ok (.int (i+j)):=rfl
@[simp]theorem aos:gK (.list ds) (.list es)=Out.when (decide (ds.length+es.length<=100000)) (.ok (.list (ds++es))):=rfl
@[simp]theorem aoy:gK (.tuple ds) (.tuple es)=Out.when (decide (ds.length+es.length<=100000)) (.ok (.tuple (ds++es))):=rfl
@[simp]theorem aoD:pB (.int i) (.int j)=.ok (.int (i - j)):=rfl
@[simp]theorem aoO:Bv (.int i) (.int j)=Out.when (decide (CMul i j)) (.ok (.int (i * j))):=rfl
@[simp]theorem apE:zK (.int i) (.int j)=Out.when (decide (CDiv i j)) (.ok (.int (i / j))):=rfl
@[simp]theorem aqb:jx (.int i) (.int j)=Out.when (decide (0 < j)) (.ok (.int (i % j))):=rfl
@[simp]theorem apt:Zr (.int i) (.int j)=Out.when (decide (CPow i j)) (.ok (.int (i ^ j.toNat))):=rfl
@[simp]theorem aqB:KZ (.int i) (.int j)=.ok (.bool (decide (i < j))):=rfl
@[simp]theorem aqK:rG (.int i) (.int j)=.ok (.bool (decide (i<=j))):=rfl
@[simp]theorem aqA:Wz (.int i) (.int j)=.ok (.bool (decide (j < i))):=rfl
@[simp]theorem aqC:geD (.int i) (.int j)=.ok (.bool (decide (j<=i))):=rfl
@[simp]theorem ap2:cG (.int i) (.int j)=.ok (.bool (i==j)):=rfl
@[simp]theorem apo:cG (.str x) (.str y)=.ok (.bool (x==y)):=rfl
@[simp]theorem aqd:cG (.bool b) (.bool c)=.ok (.bool (b==c)):=rfl
@[simp]theorem ap6:yO (.int i) (.int j)=.ok (.bool (!(i==j))):=rfl
@[simp]theorem aoS:yO (.str x) (.str y)=.ok (.bool (!(x==y))):=rfl
@[simp]theorem aqk:Vd (.int i)=.ok (.int (-i)):=rfl
@[simp]theorem aon:Jv (.bool b)=.ok b:=rfl
@[simp]theorem aog:Jv (.list ds)=.ok (!ds.isEmpty):=rfl
@[simp]theorem anQ:Jv (.tuple ds)=.ok (!ds.isEmpty):=rfl
@[simp]theorem apg:BP (.bool b)=.ok b:=rfl
@[simp]theorem an1:jR (.list ds)=.ok (.int ds.length):=rfl
@[simp]theorem an7:jR (.tuple ds)=.ok (.int ds.length):=rfl
@[simp]theorem apn:O2 (.int i)=.ok (.int (if i < 0 then -i else i)):=rfl
@[simp]theorem ev_max2:tL (.int i) (.int j)=.ok (.int (if j > i then j else i)):=rfl
@[simp]theorem an2:Jm (.int i) (.int j)=.ok (.int (if j < i then j else i)):=rfl
@[simp]theorem aoR:aO (.list ds) (.int i)=match atI ds i with
  |some d=>.ok d
  |none=>.bad:=rfl
@[simp]theorem apd:aO (.tuple ds) (.int i)=match atI ds i with
  |some d=>.ok d
  |none=>.bad:=rfl
@[simp]theorem aox:Bl (.int i)=.ok i:=rfl
@[simp]theorem aqp (lo hi:Option Int):slD (.list ds) lo hi=.ok (.list (cutD ds lo hi)):=rfl
@[simp]theorem apC (lo hi:Option Int):slD (.tuple ds) lo hi=.ok (.tuple (cutD ds lo hi)):=rfl
@[simp]theorem aoa:jX (.list ds)=.ok (.tuple ds):=rfl
@[simp]theorem anT:jX (.tuple ds)=.ok (.tuple ds):=rfl
@[simp]theorem anl:Nb (.list ds)=.ok (.list ds):=rfl
@[simp]theorem ani:Nb (.tuple ds)=.ok (.list ds):=rfl
@[simp]theorem apO:Nk (.list ds)=.ok ds:=rfl
@[simp]theorem apY:Nk (.tuple ds)=.ok ds:=rfl
@[simp]theorem apk:oK (.list ds)=.ok ds:=rfl
@[simp]theorem aph:oK (.tuple ds)=.ok ds:=rfl
@[simp]theorem aoc (o:Option Cell) (ρ:Env):sO (o::ρ)=o.map QX::sO ρ:=rfl
@[simp]theorem amL:sO []=[]:=rfl
@[simp]theorem anb (d:Dat):QX (.dat d)=.dat d:=rfl
@[simp]theorem anw (ds:List Dat):QX (.mut ds)=.dat (.list ds):=rfl
@[simp]theorem anY (ρ:Env):uV [] [] ρ=some ρ:=rfl
@[simp]theorem anU (j:Nat) (js:List Nat) (d:Dat) (ρ:Env):uV (j::js) (d::ds) ρ=uV js ds (ρ.set j (some (.dat d))):=rfl
@[simp]theorem amM (ρ:Env):bR ρ []=ρ:=rfl
@[simp]theorem amY (ρ:Env) (j:Nat) (js:List Nat):bR ρ (j::js)=(bR ρ js).set j none:=rfl
@[simp]theorem amu {α:Type} (a:α) (l:List α):atI (a::l) 0=some a:=atI_nat (j:=0) rfl
@[simp]theorem anL (n:Nat):ini n ds=ds.map (fun d=>some (.dat d))++List.replicate (n - ds.length) none:=rfl
end
theorem aaL{a b:String}:Str.ofString a=Str.ofString b↔a=b:=by
 constructor
 ·intro h
  rw[Str.ofString_eq_toList,Str.ofString_eq_toList]at h
  have h1:a.toList.map Char.toNat=b.toList.map Char.toNat:=by simpa using h
  have h2:a.toList=b.toList:=by
   refine List.map_inj_right (f:=Char.toNat) (fun x y e=>?_) |>.mp h1
   exact Char.ext (UInt32.toNat_inj.mp e)
  exact String.toList_inj.mp h2
 ·rintro rfl
  rfl
@[simp]theorem aoB (a b:String):(Str.ofString a=Str.ofString b)=(a=b):=propext aaL
@[simp]theorem aoo (a b:String):(Str.ofString a==Str.ofString b)=decide (a=b):=by
 rw[ar0]
 simp[aaL]
@[simp]theorem aqG {α:Type} (a b:α) (l:List α):atI (a::b::l) 1=some b:=atI_nat (j:=1) rfl
@[simp]theorem aqz {α:Type} (a b c:α) (l:List α):atI (a::b::c::l) 2=some c:=atI_nat (j:=2) rfl
@[simp]theorem aqE {α:Type} (a b c d:α) (l:List α):atI (a::b::c::d::l) 3=some d:=atI_nat (j:=3) rfl
@[simp]theorem aqx {α:Type} (a b c d e:α) (l:List α):atI (a::b::c::d::e::l) 4=some e:=atI_nat (j:=4) rfl
@[simp]theorem aqv {α:Type} (a b c d e f:α) (l:List α):atI (a::b::c::d::e::f::l) 5=some f:=atI_nat (j:=5) rfl
@[simp]theorem aqu {α:Type} (a b c d e f g:α) (l:List α):atI (a::b::c::d::e::f::g::l) 6=some g:=atI_nat (j:=6) rfl
@[simp]theorem am8 (s:String):PyData.strOk (Str.ofString s)=true:=by
 rw[Str.ofString_eq_toList]
 unfold PyData.strOk
 simp only[Array.all_eq_true,decide_eq_true_eq]
 intro i h
 simp only[List.getElem_toArray,List.getElem_map]
 have:=s.toList[i]'(by simpa using h) |>.valid
 rcases this with z|⟨_,z⟩
 ·show(s.toList[i]'(by simpa using h)).val.toNat < _
  omega
 ·show(s.toList[i]'(by simpa using h)).val.toNat < _
  omega
section
variable(i j:Int)(x y:Str)(d e:Dat)(ds es:List Dat)(b c:Bool)
@[simp]theorem Yl:PyData.eqv (.int i) (.int j)=(i==j):=by simp[PyData.eqv]
@[simp]theorem ap3:PyData.eqv (.str x) (.str y)=(x==y):=by simp[PyData.eqv]
@[simp]theorem apa:PyData.eqv (.bool b) (.bool c)=(b==c):=by simp[PyData.eqv]
@[simp]theorem aqo:PyData.eqv .none .none=true:=by simp[PyData.eqv]
@[simp]theorem Zg:PyData.eqv (.tuple ds) (.tuple es)=PyData.eqvAll ds es:=by simp[PyData.eqv]
@[simp]theorem akj:PyData.eqv (.list ds) (.list es)=PyData.eqvAll ds es:=by simp[PyData.eqv]
@[simp]theorem apV:PyData.eqv (.tuple ds) .none=false:=by simp[PyData.eqv]
@[simp]theorem apv:PyData.eqv .none (.tuple ds)=false:=by simp[PyData.eqv]
@[simp]theorem apq:PyData.eqv (.str x) (.int i)=false:=by simp[PyData.eqv]
@[simp]theorem aqc:PyData.eqv (.int i) (.str x)=false:=by simp[PyData.eqv]
@[simp]theorem ah3:PyData.eqvAll [] []=true:=by simp[PyData.eqvAll]
@[simp]theorem aod:PyData.eqvAll [] (d::ds)=false:=by simp[PyData.eqvAll]
@[simp]theorem ahk:PyData.eqvAll (d::ds) []=false:=by simp[PyData.eqvAll]
@[simp]theorem abk:PyData.eqvAll (d::ds) (e::es)=(PyData.eqv d e&&PyData.eqvAll ds es):=by simp[PyData.eqvAll]
end
@[simp]theorem zU:∀l m:List Int,PyData.eqvAll (l.map PyData.int) (m.map PyData.int)=decide (l=m)
 |[],[]=>by simp
 |[],_::_=>by simp
 |_::_,[]=>by simp
 |a::l,b::m=>by
  rw[aqZ,aqZ,abk,zU l m,Yl]
  by_cases h:a=b <;> by_cases h2:l=m <;> simp[h,h2]
theorem wI{n:Nat}:∀{ds:List Dat},jT n ds=true↔∀d∈ds,okd n d=true
 |[]=>by simp[jT]
 |d::ds=>by simp[jT,wI (ds:=ds)]
@[simp]theorem ag6 (n:Nat) (i:Int):okd n (.int i)=true:=by simp[okd]
@[simp]theorem Wb (n:Nat) (l:List Int):jT n (l.map PyData.int)=true:=wI.mpr fun d h=>by
 obtain⟨i,_,rfl⟩:=aq8.mp h
 simp
def ob(h:Nat):Dat:=obj h
section
variable(M:Mo)(ρ:Env)(h:Nat)(f:Str)
@[simp]theorem aoi:Ku M f (ob h)=(M[h]?).bind fun i=>i.fs.lookup f:=rfl
@[simp]theorem anq (tb:List (Str×MV)):Em tb M (ob h)=(M[h]?).bind fun i=>tb.lookup i.cls:=rfl
@[simp]theorem YM:kJ M (ob h)=(M[h]?).bind fun i=>match i.cls=="" with
 |true=>none
 |false=>some (h,i):=rfl
@[simp]theorem apu (o:QF):gW f o M ρ=(o M ρ).bind fun d=>match Ku M f d with
 |some (.dat x)=>.ok x
 |_=>.bad:=rfl
@[simp]theorem aol (o:QF):bJ f o M ρ=(o M ρ).bind fun d=>match Ku M f d with
 |some (.dat x)=>.ok x
 |some (.lst _ xs)=>.ok (.list xs)
 |_=>.bad:=rfl
@[simp]theorem aow (tb:List (Str×MV)) (o:QF) (as:QA):aP tb o as M ρ=(o M ρ).bind fun d=>match Em tb M d with
 |some (.q _ m)=>(as M ρ).bind fun ds=>m M (d::ds)
 |_=>.bad:=rfl
@[simp]theorem amQ (tb:List (Str×MV)) (o:QF) (as:QA):cR tb o as M ρ=((o M ρ).at M).bind fun d _=>match Em tb M d with
 |some (.q _ m)=>((as M ρ).at M).bind fun ds _=>(m M (d::ds)).at M
 |some (.g _ m)=>((as M ρ).at M).bind fun ds _=>m M (d::ds)
 |none=>.bad:=rfl
@[simp]theorem aof (x:Str) (m:Mo->List Dat->aZ Dat) (as:QA):Bs x m as M ρ=((as M ρ).at M).bind fun ds _=>match m (M++[⟨x,[]⟩]) (ob M.length::ds) with
 |.ok .none M'=>.ok (ob M.length) M'
 |_=>.bad:=rfl
@[simp]theorem ank (m:Mo->List Dat->aZ Dat) (as:QA):Jj m as M ρ=((as M ρ).at M).bind fun ds _=>m M ds:=rfl
@[simp]theorem amH (m:Mo->List Dat->aZ Dat) (as:GA):ajw m as M ρ=(as M ρ).bind fun ds M1=>m M1 ds:=rfl
@[simp]theorem amq (m:Mo->List Dat->Out Dat) (as:GA):ajo m as M ρ=(as M ρ).bind fun ds M1=>(m M1 ds).at M1:=rfl
@[simp]theorem anC:amd M ρ=.ok [] M:=rfl
@[simp]theorem amx (a:GF) (r:GA):ai5 a r M ρ=(a M ρ).bind fun d M1=>(r M1 ρ).bind fun ds M2=>.ok (d::ds) M2:=rfl
@[simp]theorem aot (t:QT):afQ t M ρ=(t M ρ).at M:=rfl
@[simp]theorem amK (a:GT):alz a M ρ=(a M ρ).bind fun b M1=>.ok (!b) M1:=rfl
@[simp]theorem anc (a b:GT):alO a b M ρ=(a M ρ).bind fun x M1=>if x=true then b M1 ρ else .ok false M1:=rfl
@[simp]theorem an8 (a b:GT):ana a b M ρ=(a M ρ).bind fun x M1=>if x=true then .ok true M1 else b M1 ρ:=rfl
@[simp]theorem ane (a:GF):amj a M ρ=(a M ρ).bind fun d M1=>(Jv d).at M1:=rfl
@[simp]theorem anG (x:Str):eV x M ρ=.exc ⟨x,[]⟩ ρ M:=rfl
@[simp]theorem amF (x:Str) (fs:List Str) (as:QA):Cp x fs as M ρ=((as M ρ).at M).then ρ fun ds M'=>.exc ⟨x,(fs.zip ds).reverse⟩ ρ M':=rfl
@[simp]theorem aoZ (b:SF) (hs:List Hd):aac b hs M ρ=match b M ρ with
 |.exc x ρ' M'=>hdl hs x ρ' M'
 |o=>o:=rfl
@[simp]theorem aoq (x:eE):hdl [] x ρ M=.exc x ρ M:=rfl
@[simp]theorem aor (h:Hd) (r:List Hd) (x:eE):hdl (h::r) x ρ M=match h.tk x.cls with
  |some true=>match acf ρ h.nm with
   |true=>match Ec h.y x h.st (Tv ρ h.nm) with
    |some ρ2=>.next (Tv ρ2 h.nm) M
    |none=>.bad
   |false=>.bad
  |some false=>hdl r x ρ M
  |none=>.bad:=rfl
@[simp]theorem anR:Tv ρ none=ρ:=rfl
@[simp]theorem anS (i:Nat):Tv ρ (some i)=ρ.set i none:=rfl
@[simp]theorem anA:acf ρ none=true:=rfl
@[simp]theorem anF (i:Nat):acf ρ (some i)=decide (i < ρ.length):=rfl
@[simp]theorem aoM (y:Str) (x:eE):Ec y x [] ρ=some ρ:=rfl
@[simp]theorem apW (y:Str) (x:eE) (j:Nat) (e:Eu) (r:List (Nat×Eu)):Ec y x ((j,e)::r) ρ=(XM y x e).bind fun d=>Ec y x r (ρ.set j (some (.dat d))):=rfl
@[simp]theorem aoP (y:Str) (x:eE) (d:Dat):XM y x (.con d)=some d:=rfl
@[simp]theorem aok (g:GF):iH g M ρ=(g M ρ).then ρ fun d M'=>.ret d M':=rfl
@[simp]theorem aqt (t:GT) (f k:SF):anv t f k M ρ=(t M ρ).then ρ fun c M'=>if c=true then f M' ρ else k M' ρ:=rfl
@[simp]theorem amr (a b:QF):Cr a b M ρ=(a M ρ).bind fun d=>(b M ρ).bind fun e=>(Bl d).bind fun lo=>(Bl e).bind fun n=>Out.when (decide (n<=100000/\-100000<=n/\lo<=100000/\-100000<=lo)) (.ok (fH lo (n - lo).toNat)):=rfl
@[simp]theorem anW (ft:Ft) (o:QF) (e:GF):uO ft o f e M ρ=(e M ρ).then ρ fun d M1=>((o M1 ρ).at M1).then ρ fun od M2=>match kJ M2 od with
 |some (h,i)=>match ft.has i.cls f&&decide (i.fs.length < 100) with
  |true=>.next ρ (M2.set h (i.put f (.dat d)))
  |false=>.bad
 |none=>.bad:=rfl
@[simp]theorem anK (ft:Ft) (o:QF) (e:IF):Ep ft o f e M ρ=((e M ρ).at M).then ρ fun xs M0=>((o (M0++[⟨"",[]⟩]) ρ).at (M0++[⟨"",[]⟩])).then ρ fun od M2=>match kJ M2 od with
 |some (h,i)=>match ft.has i.cls f&&decide (i.fs.length < 100) with
  |true=>.next ρ (M2.set h (i.put f (.lst M0.length xs)))
  |false=>.bad
 |none=>.bad:=rfl
@[simp]theorem an0 (ft:Ft) (o:QF) (b:Bool):Nf ft o f b M ρ=((o (M++[⟨"",[]⟩]) ρ).at (M++[⟨"",[]⟩])).then ρ fun od M2=>match kJ M2 od with
 |some (h,i)=>match ft.has i.cls f&&decide (i.fs.length < 100) with
  |true=>.next ρ (M2.set h (i.put f (.dic b [])))
  |false=>.bad
 |none=>.bad:=rfl
@[simp]theorem anP (ft:Ft) (o:QF) (e:Mo->Env->Out (List (Dat×Dat))):Rk ft o f e M ρ=((e M ρ).at M).then ρ fun kvs _=>((o (M++[⟨"",[]⟩]) ρ).at (M++[⟨"",[]⟩])).then ρ fun od M2=>match kJ M2 od with
 |some (h,i)=>match ft.has i.cls f&&decide (i.fs.length < 100) with
  |true=>.next ρ (M2.set h (i.put f (.dic true kvs)))
  |false=>.bad
 |none=>.bad:=rfl
@[simp]theorem aou (o:QF) (e:GF):Du f o e M ρ=((o M ρ).at M).then ρ fun od M0=>match Fb M0 f od with
 |some (_,_,n,_)=>(e M0 ρ).then ρ fun d M1=>match Fb M1 f od with
  |some (h,i,n',xs)=>match n==n'&&decide (xs.length < 100000) with
   |true=>.next ρ (M1.set h (i.put f (.lst n (xs++[d]))))
   |false=>.bad
  |none=>.bad
 |none=>.bad:=rfl
@[simp]theorem aom (o fi e:QF):Rm f o fi e M ρ=((e M ρ).at M).then ρ fun d _=>((o M ρ).at M).then ρ fun od _=>match Fb M f od with
 |some (h,i,n,xs)=>((fi M ρ).at M).then ρ fun k _=>match k with
  |.int k=>match ixN xs.length k with
   |some j=>.next ρ (M.set h (i.put f (.lst n (xs.set j d))))
   |none=>.bad
  |_=>.bad
 |none=>.bad:=rfl
@[simp]theorem aov (ft:Ft) (o e:QF):R8 ft f o e M ρ=((o M ρ).at M).then ρ fun od _=>match kJ M od with
 |some (h,i)=>match i.fs.lookup f,ft.has i.cls f&&decide (i.fs.length < 100) with
  |some (.dat (.int a)),true=>((e M ρ).at M).then ρ fun d _=>match d with
   |.int b=>.next ρ (M.set h (i.put f (.dat (.int (a+b)))))
   |_=>.bad
  |_,_=>.bad
 |none=>.bad:=rfl
theorem ahH(d:Dat):Fb M f d=(kJ M d).bind fun p=>match p.2.fs.lookup f with
 |some (.lst n xs)=>some (p.1,p.2,n,xs)
 |_=>none:=rfl
@[simp]theorem anI:Fb M f (ob h)=(M[h]?).bind fun i=>match i.cls=="" with
 |true=>none
 |false=>match i.fs.lookup f with
  |some (.lst n xs)=>some (h,i,n,xs)
  |_=>none:=by
 rw[ahH,YM]
 cases M[h]? with
 |none=>rfl
 |some i=>
  show(match i.cls=="" with
   |true=>none
   |false=>some (h,i)).bind _=(match i.cls=="" with
   |true=>none
   |false=>_)
  cases i.cls=="" <;> rfl
@[simp]theorem anM (i:Inst) (x:jr):i.put f x=⟨i.cls,putL f x i.fs⟩:=rfl
@[simp]theorem aqw (x:jr):putL f x []=[(f,x)]:=rfl
@[simp]theorem aqy (x y:jr) (g:Str) (r:List (Str×jr)):putL f x ((g,y)::r)=if g=f then(g,x)::r else(g,y)::putL f x r:=rfl
@[simp]theorem anZ (ft:Ft) (c:Str):Ft.has ft c f=match ft.lookup c with
 |some fs=>fs.contains f
 |none=>false:=rfl
@[simp]theorem an4:zq M f (ob h)=(M[h]?).bind fun i=>match i.cls=="" with
 |true=>none
 |false=>match i.fs.lookup f with
  |some (.dic b kvs)=>some (h,i,b,kvs)
  |_=>none:=by
 show(kJ M (ob h)).bind _=_
 rw[YM]
 cases M[h]? with
 |none=>rfl
 |some i=>
  show(match i.cls=="" with
   |true=>none
   |false=>some (h,i)).bind _=(match i.cls=="" with
   |true=>none
   |false=>_)
  cases i.cls=="" <;> rfl
@[simp]theorem ap4 (neg:Bool) (k o:QF):Pb neg f k o M ρ=(k M ρ).bind fun d=>(o M ρ).bind fun od=>match zq M f od with
 |some (_,_,b,kvs)=>(dhas b kvs d).bind fun r=>.ok (.bool (neg ^^ r))
 |none=>.bad:=rfl
@[simp]theorem anV (o k e:QF):Nr f o k e M ρ=((e M ρ).at M).then ρ fun v _=>((o M ρ).at M).then ρ fun od _=>match zq M f od with
 |some (h,i,b,kvs)=>((k M ρ).at M).then ρ fun d _=>match dhas b kvs d,decide (kvs.length < 100000) with
  |.ok false,true=>.next ρ (M.set h (i.put f (.dic b (kvs++[(d,v)]))))
  |_,_=>.bad
 |none=>.bad:=rfl
@[simp]theorem an5 (o k:QF):M5 f o k M ρ=((o M ρ).at M).then ρ fun od _=>match zq M f od with
 |some (h,i,b,kvs)=>((k M ρ).at M).then ρ fun d _=>match dhas b kvs d,decide (kvs.length<=100000) with
  |.ok true,true=>.next ρ (M.set h (i.put f (.dic b (kvs.filter fun p=>!PyData.eqv p.1 d))))
  |_,_=>.bad
 |none=>.bad:=rfl
@[simp]theorem amS (o:QF):Dj f o M ρ=(o M ρ).bind fun od=>match zq M f od with
 |some (_,_,true,kvs)=>.ok (kvs.map (·.1))
 |_=>.bad:=rfl
@[simp]theorem am9 (o:QF):CG f o M ρ=(o M ρ).bind fun od=>match zq M f od with
 |some (_,_,_,kvs)=>.ok (.list (kvs.map (·.1)))
 |none=>.bad:=rfl
@[simp]theorem aqH (it:IF) (tg:fG) (vs:List Nat) (tk:QF):qDc it tg vs tk M ρ=(it M ρ).bind fun ds=>Out.when (decide (ds.length<=50000)) (Ef tg tk M (bR ρ vs) ds []):=rfl
@[simp]theorem anD (kvs:List (Dat×Dat)) (i:Int):dhas false kvs (.int i)=.ok (kvs.any fun p=>PyData.eqv p.1 (.int i)):=rfl
@[simp]theorem apc (neg:Bool) (kvs:List (Str×Dat)) (k:QF):U0 neg kvs k M ρ=(k M ρ).bind fun d=>match d with
 |.str x=>.ok (.bool (neg ^^ (kvs.lookup x).isSome))
 |_=>.bad:=rfl
@[simp]theorem aoY (kvs:List (Str×Dat)) (k:QF):abQ kvs k M ρ=(k M ρ).bind fun d=>match d with
 |.str x=>match kvs.lookup x with
  |some y=>.ok y
  |none=>.bad
 |_=>.bad:=rfl
@[simp]theorem am4 (it:IF) (tg:fG) (vs:List Nat) (tt:QT) (it1:IF) (tg1:fG) (vs1:List Nat) (tt1:QT) (te:QF):Dq it tg vs tt it1 tg1 vs1 tt1 te M ρ=((it M ρ).bind fun ds=>(iD tg tt it1 tg1 vs1 tt1 te M (bR ρ vs) ds).bind fun r=>Out.when (decide (r.length<=50000)) (.ok r)).bind fun r=>.ok (.list r):=rfl
@[simp]theorem amC (it:IF) (tg:fG) (vs:List Nat) (tt:QT) (te:QF):Cu it tg vs tt te M ρ=((it M ρ).bind fun ds=>Out.when (decide (ds.length<=50000)) (cP tg tt te M (bR ρ vs) ds)).bind fun ds=>match intsOf ds with
 |some l=>Out.when (decide (l.length<=4000)) (.ok (.list ((Ad l).map PyData.int)))
 |none=>.bad:=rfl
@[simp]theorem amB {α:Type} (k g:Str) (y:α) (r:List (Str×α)):List.lookup k ((g,y)::r)=if k=g then some y else List.lookup k r:=by
 rw[aru]
 by_cases e:k=g
 ·subst e
  simp
 ·have:(k==g)=false:=by simpa using e
  rw[this,if_neg e]
end
end Rf
namespace Pr
open PySem PySem.Spec PyProof.Rows L2 Evl Rf
def zM:SF:=
 (aD (Ep kE (ao 0) "allowances" (SM au))
 (Ep kE (ao 0) "circles" (SM au)))
def uJ:Mo->List Dat->aZ Dat:=mG 1 zM
def Bq:SF:=
 (Nf kE (ao 0) "held" true)
def vY:Mo->List Dat->aZ Dat:=mG 1 Bq
def Fl:SF:=
 (Ep kE (ao 0) "beasts" (SM au))
def zV:Mo->List Dat->aZ Dat:=mG 1 Fl
def zL:SF:=
 (aD (uO kE (ao 0) "owner_count" (gOf (qC (.int 0))))
 (aD (Nf kE (ao 0) "holders" false)
 (aD (uO kE (ao 0) "grounds" (Bs "Grounds" uJ au))
 (aD (uO kE (ao 0) "rights" (Bs "Rights" vY au))
 (uO kE (ao 0) "herd" (Bs "Herd" zV au))))))
def qb:Mo->List Dat->aZ Dat:=mG 1 zL
def Bt:SF:=
 (aU (bL (ak (gW "owner" (ao 0)) (ak (gW "ground" (ao 0)) (ak (gW "due" (ao 0)) (ak (gW "ear" (ao 0)) (ak (gW "alive" (ao 0)) au)))))))
def vM:Mo->List Dat->Out Dat:=mQ 1 Bt
def mO:List (Str×MV):=[("Beast",.q 1 vM)]
def Dg:SF:=
 (aU (aA gK (aP mO (ao 0) au) (bL (ak (gW "mother" (ao 0)) (ak (dH jX (bJ "story" (ao 0))) au)))))
def yu:Mo->List Dat->Out Dat:=mQ 1 Dg
def wA:SF:=
 (aU (CG "holders" (ao 0)))
def qT:Mo->List Dat->Out Dat:=mQ 1 wA
def vh:SF:=
 (aU (CG "held" (ao 0)))
def pJ:Mo->List Dat->Out Dat:=mQ 1 vh
def uI:SF:=
 (aU (dH jR (bJ "allowances" (ao 0))))
def pO:Mo->List Dat->Out Dat:=mQ 1 uI
def eY:List (Str×MV):=[("Grounds",.q 1 pO)]
def Bp:SF:=
 (aU (Vx (oY rG rG (qC (.int 1)) (ao 1) (aP eY (ao 0) au))))
def vW:Mo->List Dat->Out Dat:=mQ 2 Bp
def zu:List (Str×MV):=[("Grounds",.q 2 vW)]
def zm:SF:=
 (bT (jy (gG (aP zu (ao 0) (ak (aq 1) au)))) (eV "NoGround") aW)
def uQ:Mo->List Dat->Out Dat:=mQ 2 zm
def aG:List (Str×MV):=[("Grounds",.q 2 uQ)]
def nR:SF:=
 (aD (cC (gOf (aP aG (ao 0) (ak (aq 1) au))))
 (aU (aA aO (bJ "allowances" (ao 0)) (aA pB (ao 1) (qC (.int 1))))))
def j5:Mo->List Dat->Out Dat:=mQ 2 nR
def pq:SF:=
 (aD (cC (gOf (aP aG (ao 0) (ak (aq 1) au))))
 (aU (dH Nb (aA aO (bJ "circles" (ao 0)) (aA pB (ao 1) (qC (.int 1)))))))
def lB:Mo->List Dat->Out Dat:=mQ 2 pq
def bB:List (Str×MV):=[("Grounds",.q 2 lB)]
def oZ:SF:=
 (aU (aP bB (bJ "grounds" (ao 0)) (ak (aq 1) au)))
def lu:Mo->List Dat->Out Dat:=mQ 2 oZ
def uD:List (Str×MV):=[("Rights",.q 1 pJ)]
def vf:List (Str×MV):=[("Commons",.q 1 qT)]
def vX:List (Str×MV):=[("Beast",.q 1 yu)]
def bV:List (Str×MV):=[("Commons",.q 2 lu)]
def dU:List (Str×MV):=[("Grounds",.q 2 j5)]
def zN:SF:=
 (aD (bf (aF 1) (gOf (eU (Cr (qC (.int 1)) (aA gK (aP eY (bJ "grounds" (ao 0)) au) (qC (.int 1)))) (aF 3) [3] iG (bL (ak (aP dU (bJ "grounds" (ao 0)) (ak (aq 3) au)) (ak (dH jX (aP bV (ao 0) (ak (aq 3) au))) au))))))
 (aD (bf (aF 2) (gOf (eU (cZ (bJ "beasts" (bJ "herd" (ao 0)))) (aF 4) [4] iG (aP vX (ao 4) au))))
 (aU (bL (ak (aP vf (ao 0) au) (ak (aq 1) (ak (aP uD (bJ "rights" (ao 0)) au) (ak (aq 2) au))))))))
def pW:Mo->List Dat->Out Dat:=mQ 5 zN
def U9:SF:=
 (aD (bf (aF 5) (gOf (aA jx (aA gK (aA gK (aA Bv (ao 5) (qC (.int 48271))) (aA Bv (qC (.int 9973)) (ao 4))) (qC (.int 11))) (qC (.int 2147483647)))))
 (Pn 3 (aA jx (aA zK (ao 5) (qC (.int 1021))) (ao 2))))
def Vk:SF:=
 (aD (Pn 3 (aA jx (ao 0) (ao 2)))
 (bf (aF 0) (gOf (aA zK (ao 0) (ao 2)))))
def abS:SF:=
 (aD (Fq 3 (SM au))
 (aD (bf (aF 0) (gOf (dH O2 (ao 0))))
 (aD (bT (bA (aA geD (ao 0) (aA Zr (qC (.int 10)) (qC (.int 18))))) (aD (rQ (yZ (ao 1)) (aF 4) Vk)
 (aU (aq 3))) aW)
 (aD (bf (aF 5) (gOf (aA jx (aA Bv (aA gK (aA jx (ao 0) (qC (.int 1000003))) (qC (.int 17))) (qC (.int 69621))) (qC (.int 2147483647)))))
 (aD (rQ (yZ (ao 1)) (aF 4) U9)
 (aU (aq 3)))))))
def qR:Mo->List Dat->Out Dat:=mQ 6 abS
def Ov:SF:=
 (aD (bT (bA (aA cG (aA jx (ao 1) (qC (.int 4))) (qC (.int 1)))) (aU (dH jX (eU (cZ (ao 0)) (aF 2) [2] iG (aA tL (qC (.int 0)) (aA pB (ao 2) (qC (.int 7))))))) aW)
 (aD (bT (bA (aA cG (aA jx (ao 1) (qC (.int 4))) (qC (.int 2)))) (aU (dH jX (eU (cZ (ao 0)) (aF 2) [2] iG (aA jx (ao 2) (qC (.int 3)))))) aW)
 (aU (dH jX (ao 0)))))
def mY:Mo->List Dat->Out Dat:=mQ 3 Ov
def ab3:SF:=
 (aD (bf (aF 1) (gOf (aV qR (ak (aq 0) (ak (qC (.int 7)) (ak (qC (.int 10)) au))))))
 (aU (aV mY (ak (LK (ao 1) xQ (pN (qC (.int 6)))) (ak (aA aO (ao 1) (qC (.int 6))) au)))))
def Jk:Mo->List Dat->Out Dat:=mQ 2 ab3
def Fo:SF:=
 (aD (bT (bA (aA cG (aA jx (ao 0) (qC (.int 8))) (qC (.int 7)))) (aU (yE au)) aW)
 (aD (bf (aF 1) (gOf (yE (ak (bL (ak (qC (.str "ground")) (ak (qC (.int 0)) (ak (qC (.int 0)) au)))) (ak (bL (ak (qC (.str "owner")) (ak (qC (.int 0)) (ak (qC (.int 0)) au)))) (ak (bL (ak (qC (.str "owner")) (ak (qC (.int 0)) (ak (qC (.int 0)) au)))) (ak (bL (ak (qC (.str "enrol")) (ak (qC (.int 0)) (ak (qC (.int 0)) au)))) (ak (bL (ak (qC (.str "enrol")) (ak (qC (.int 1)) (ak (qC (.int 0)) au)))) au))))))))
 (aD (bf (aF 1) (gOf (aA gK (ao 1) (yE (ak (bL (ak (qC (.str "bring")) (ak (qC (.int 0)) (ak (qC (.int 0)) au)))) (ak (bL (ak (qC (.str "cut")) (ak (qC (.int 0)) (ak (qC (.int 0)) au)))) (ak (bL (ak (qC (.str "bring")) (ak (qC (.int 1)) (ak (qC (.int 0)) au)))) (ak (bL (ak (qC (.str "cut")) (ak (qC (.int 1)) (ak (qC (.int 0)) au)))) (ak (bL (ak (qC (.str "ground")) (ak (qC (.int 0)) (ak (qC (.int 0)) au)))) (ak (bL (ak (qC (.str "enrol")) (ak (qC (.int 0)) (ak (qC (.int 1)) au)))) au))))))))))
 (aU (aq 1)))))
def vB:Mo->List Dat->Out Dat:=mQ 2 Fo
def Lg:SF:=
 (aD (bf (aF 1) (gOf (yE (ak (qC (.str "tear")) (ak (qC (.str "cut")) (ak (qC (.str "bring")) (ak (qC (.str "sell")) (ak (qC (.str "move")) (ak (qC (.str "enrol")) (ak (qC (.str "bear")) (ak (qC (.str "tear")) (ak (qC (.str "cut")) (ak (qC (.str "sell")) (ak (qC (.str "move")) (ak (qC (.str "unite")) (ak (qC (.str "part")) au))))))))))))))))
 (aD (bf (aF 1) (gOf (aA gK (ao 1) (yE (ak (qC (.str "heir")) (ak (qC (.str "pass")) (ak (qC (.str "die")) (ak (qC (.str "leave")) (ak (qC (.str "ground")) (ak (qC (.str "owner")) (ak (qC (.str "enrol")) (ak (qC (.str "tear")) (ak (qC (.str "sell")) (ak (qC (.str "bring")) (ak (qC (.str "bear")) (ak (qC (.str "cut")) au))))))))))))))))
 (aU (aA aO (ao 1) (aA jx (ao 0) (qC (.int 25)))))))
def Am:Mo->List Dat->Out Dat:=mQ 2 Lg
def lU:SF:=
 (bT (bA (Pb true "holders" (aq 1) (ao 0))) (eV "NoOwner") aW)
def jG:Mo->List Dat->Out Dat:=mQ 2 lU
def yU:SF:=
 (aU (eU (Dj "held" (ao 0)) (bD [3,4,5]) [3,4,5] (jV (bA (aA cG (ao 3) (ao 1))) (bA (aA cG (ao 4) (ao 2)))) (aq 5)))
def uP:Mo->List Dat->Out Dat:=mQ 6 yU
def cJ:List (Str×MV):=[("Rights",.q 3 uP)]
def tR:SF:=
 (aU (aA Wz (dH jR (aP cJ (ao 0) (ak (aq 1) (ak (aq 2) au)))) (qC (.int 0))))
def o9:Mo->List Dat->Out Dat:=mQ 3 tR
def rZ:List (Str×MV):=[("Rights",.q 3 o9)]
def qX:SF:=
 (bT (jy (gG (aP rZ (bJ "rights" (ao 0)) (ak (aq 1) (ak (aq 2) au))))) (eV "NoRight") aW)
def mD:Mo->List Dat->Out Dat:=mQ 3 qX
def sE:SF:=
 (aD (R8 kE "owner_count" (ao 0) (qC (.int 1)))
 (aD (Nr "holders" (ao 0) (gW "owner_count" (ao 0)) (qC (.bool true)))
 (aU (gW "owner_count" (ao 0)))))
def iI:Mo->List Dat->aZ Dat:=mG 1 sE
def oU:SF:=
 (aD (bf (aF 4) (gOf (bL (ak (aq 1) (ak (aq 2) (ak (aq 3) au))))))
 (aD (bT (bA (Pb false "held" (aq 4) (ao 0))) (eV "HasRight") aW)
 (Nr "held" (ao 0) (aq 4) (qC (.bool true)))))
def jo:Mo->List Dat->aZ Dat:=mG 5 oU
def CP:SF:=
 (bf (aF 2) (gOf (Dq (cZ (ao 2)) (bD [4,5]) [4,5,6] iG (Cr (ao 3) (aA gK (aA Jm (aA gK (ao 3) (ao 5)) (qC cV)) (qC (.int 1)))) (aF 6) [6] iG (bL (ak (aA gK (ao 4) (bL (ak (aq 6) au))) (ak (aA pB (ao 5) (aA pB (ao 6) (ao 3))) au))))))
def Za:SF:=
 (aD (bf (aF 2) (gOf (yE (ak (bL (ak (bL au) (ak (aq 1) au))) au))))
 (aD (rQ (cZ (aq 0)) (aF 3) CP)
 (aU (eU (cZ (ao 2)) (bD [4,5]) [4,5] iG (aq 4)))))
def Lh:Mo->List Dat->Out Dat:=mQ 7 Za
def UL:SF:=
 (aU (dH ZS (eU (Fx (ao 0) (ao 1)) (bD [2,3]) [2,3] (bA (aA Wz (ao 3) (ao 2))) (aA pB (ao 3) (ao 2)))))
def oE:Mo->List Dat->Out Dat:=mQ 4 UL
def EY:SF:=
 (aU (eU (cZ (aV Lh (ak (aq 0) (ak (aq 1) au)))) (aF 2) [2] (bA (aA cG (aV oE (ak (aq 0) (ak (aq 2) au))) (ao 1))) (aq 2)))
def vH:Mo->List Dat->Out Dat:=mQ 3 EY
def Ul:SF:=
 (aU (aA tL (aV oE (ak (aq 0) (ak (aq 1) au))) (aV oE (ak (aq 1) (ak (aq 0) au)))))
def Gp:Mo->List Dat->Out Dat:=mQ 2 Ul
def X8:SF:=
 (aU (aA rG (aV Gp (ak (aq 0) (ak (aq 1) au))) (ao 2)))
def rF:Mo->List Dat->Out Dat:=mQ 3 X8
def j7:SF:=
 (bT (jy (gG (dH P0 (eU (cZ (ao 2)) (bD [5,6]) [5,6] iG (aV rF (ak (aq 4) (ak (aq 6) (ak (aq 3) au)))))))) (aU (aq 4)) aW)
def yD:SF:=
 (aD (rQ (cZ (aV vH (ak (aq 0) (ak (aq 1) au)))) (aF 4) j7)
 (eV "NoneFree"))
def pY:Mo->List Dat->Out Dat:=mQ 7 yD
def qI:SF:=
 (aU (aA aO (aP cJ (bJ "rights" (ao 0)) (ak (aq 1) (ak (aq 2) au))) (qC (.int 0))))
def mF:Mo->List Dat->Out Dat:=mQ 3 qI
def O9:SF:=
 (aU (dH Qx (ao 0)))
def qU:Mo->List Dat->Out Dat:=mQ 1 O9
def u6:SF:=
 (aU (eU (zW 1 (bJ "beasts" (ao 0))) (bD [1,2]) [1,2] (gG (bJ "alive" (ao 2))) (bL (ak (aq 1) (ak (aq 2) au)))))
def pH:Mo->List Dat->Out Dat:=mQ 3 u6
def dR:List (Str×MV):=[("Herd",.q 1 pH)]
def zp:SF:=
 (aU (eU (cZ (aP dR (ao 0) au)) (bD [2,3]) [2,3] (bA (aA (inD false) (bJ "ground" (ao 3)) (ao 1))) (bL (ak (aq 2) (ak (aq 3) au)))))
def qd:Mo->List Dat->Out Dat:=mQ 4 zp
def rW:SF:=
 (aU (eU (Dj "held" (ao 0)) (bD [2,3,4]) [2,3,4] (bA (aA (inD false) (ao 3) (ao 1))) (bL (ak (aq 2) (ak (aq 4) au)))))
def nM:Mo->List Dat->Out Dat:=mQ 5 rW
def qL:List (Str×MV):=[("Rights",.q 2 nM)]
def jL:List (Str×MV):=[("Herd",.q 2 qd)]
def kW:SF:=
 (aD (bf (aF 3) (gOf (aP bV (ao 0) (ak (aq 2) au))))
 (aD (bf (aF 4) (gOf (eU (cZ (aP jL (bJ "herd" (ao 0)) (ak (aq 3) au))) (bD [5,6]) [5,6] (jV (bA (yw true .none (bJ "due" (ao 6)))) (bA (aA yO (ao 5) (ao 1)))) (bL (ak (gW "owner" (ao 6)) (ak (gW "due" (ao 6)) au))))))
 (aU (aV qU (ak (aA gK (aP qL (bJ "rights" (ao 0)) (ak (aq 3) au)) (ao 4)) au)))))
def iW:Mo->List Dat->Out Dat:=mQ 7 kW
def dh:List (Str×MV):=[("Commons",.q 3 iW)]
def oO:SF:=
 (aU (aP dh (ao 0) (ak (qC (.int 0)) (ak (aq 1) au))))
def lE:Mo->List Dat->Out Dat:=mQ 2 oO
def uX:SF:=
 (aU (dH maxD (eU (cZ (aP bB (ao 0) (ak (aq 1) au))) (aF 2) [2] iG (aP dU (ao 0) (ak (aq 2) au)))))
def pZ:Mo->List Dat->Out Dat:=mQ 3 uX
def sW:List (Str×MV):=[("Grounds",.q 2 pZ)]
def uH:SF:=
 (aU (aP sW (bJ "grounds" (ao 0)) (ak (aq 1) au)))
def pP:Mo->List Dat->Out Dat:=mQ 2 uH
def iK:List (Str×MV):=[("Rights",.g 4 jo)]
def iz:List (Str×MV):=[("Commons",.g 1 iI)]
def bQ:List (Str×MV):=[("Commons",.q 2 pP)]
def bO:List (Str×MV):=[("Commons",.q 2 lE)]
def bY:List (Str×MV):=[("Commons",.q 3 mF)]
def aN:List (Str×MV):=[("Commons",.q 3 mD)]
def aC:List (Str×MV):=[("Commons",.q 2 jG)]
def dY:SF:=
 (aD (cC (gOf (aP aC (ao 0) (ak (aq 1) au))))
 (aD (cC (gOf (aP aG (bJ "grounds" (ao 0)) (ak (aq 2) au))))
 (aD (bT (jy (oY rG rG (qC jh) (ao 3) (qC lA))) (eV "BadExtra") aW)
 (aD (cC (gOf (aP aN (ao 0) (ak (aq 1) (ak (aq 2) au)))))
 (aD (bf (aF 4) (gOf (aV pY (ak (aP bY (ao 0) (ak (aq 1) (ak (aq 2) au))) (ak (aq 3) (ak (aP bO (ao 0) (ak (aq 2) au)) (ak (aP bQ (ao 0) (ak (aq 2) au)) au)))))))
 (aD (bf (aF 5) (cR iz (ao 0) au))
 (aD (cC (cR iK (bJ "rights" (ao 0)) (ak (aq 5) (ak (aq 2) (ak (aq 4) au)))))
 (aU (bL (ak (aq 5) (ak (aq 4) au)))))))))))
def cW:Mo->List Dat->aZ Dat:=mG 6 dY
def jJ:SF:=
 (aD (bT (jy (oY rG rG (qC (.int 0)) (ao 1) (qC iw))) (eV "BadAllowance") aW)
 (aD (Du "allowances" (ao 0) (gOf (aq 1)))
 (aD (Du "circles" (ao 0) (gOf (bL (ak (aP eY (ao 0) au) au))))
 (aU (aP eY (ao 0) au)))))
def fD:Mo->List Dat->aZ Dat:=mG 2 jJ
def lJ:List (Str×MV):=[("Grounds",.g 2 fD)]
def lV:SF:=
 (iH (cR lJ (bJ "grounds" (ao 0)) (ak (aq 1) au)))
def ig:Mo->List Dat->aZ Dat:=mG 2 lV
def Ly:SF:=
 (aU (eU (cZ (aV qU (ak (aq 2) au))) (bD [4,5]) [4,5] (jV (bA (aA yO (ao 4) (ao 0))) (gG (aV rF (ak (aq 1) (ak (aq 5) (ak (aq 3) au)))))) (bL (ak (aq 4) (ak (aq 5) au)))))
def Bf:Mo->List Dat->Out Dat:=mQ 6 Ly
def Vb:SF:=
 (aU (dH jX (eU (Fx (ao 0) (ao 1)) (bD [2,3]) [2,3] iG (aA tL (ao 2) (ao 3)))))
def qp:Mo->List Dat->Out Dat:=mQ 4 Vb
def Cd:SF:=
 (aD (bf (aF 4) (gOf (aV Bf (ak (aq 0) (ak (aq 1) (ak (aq 2) (ak (aq 3) au)))))))
 (bT (gG (ao 4)) (aD (bf (bD [5,6]) (gOf (aA aO (ao 4) (qC (.int 0)))))
 (Cp "Clash" ["ones","others","ear"] (ak (bL (ak (aq 0) (ak (aq 1) au))) (ak (bL (ak (aq 5) (ak (aq 6) au))) (ak (aV qp (ak (aq 1) (ak (aq 6) au))) au))))) aW))
def o7:Mo->List Dat->Out Dat:=mQ 7 Cd
def lZ:SF:=
 (cC (gOf (aV o7 (ak (aq 1) (ak (aq 2) (ak (aP bO (ao 0) (ak (aq 3) au)) (ak (aP bQ (ao 0) (ak (aq 3) au)) au)))))))
def iy:Mo->List Dat->Out Dat:=mQ 4 lZ
def Jd:SF:=
 (aU (yx (aA cG (dH jR (ao 0)) (dH jR (qC jd))) (dH Ik (eU (cZ (ao 0)) (aF 1) [1] iG (Vx (oY rG rG (qC (.int 0)) (ao 1) (qC cV)))))))
def ux:Mo->List Dat->Out Dat:=mQ 2 Jd
def IV:SF:=
 (bT (jy (gG (aV ux (ak (aq 0) au)))) (eV "BadEar") aW)
def mj:Mo->List Dat->Out Dat:=mQ 1 IV
def bW:List (Str×MV):=[("Commons",.q 4 iy)]
def fY:SF:=
 (aD (cC (gOf (aP aC (ao 0) (ak (aq 1) au))))
 (aD (cC (gOf (aP aG (bJ "grounds" (ao 0)) (ak (aq 2) au))))
 (aD (cC (gOf (aV mj (ak (aq 3) au))))
 (aD (bT (bA (aA cG (ao 3) (qC jF))) (eV "Bare") aW)
 (aD (bT (bA (aA (inD false) (ao 3) (aP cJ (bJ "rights" (ao 0)) (ak (aq 1) (ak (aq 2) au))))) (eV "HasRight") aW)
 (aD (cC (gOf (aP bW (ao 0) (ak (aq 1) (ak (aq 3) (ak (aq 2) au))))))
 (cC (cR iK (bJ "rights" (ao 0)) (ak (aq 1) (ak (aq 2) (ak (aq 3) au)))))))))))
def dX:Mo->List Dat->aZ Dat:=mG 4 fY
def yJ:SF:=
 (M5 "held" (ao 0) (bL (ak (aq 1) (ak (aq 2) (ak (aq 4) au)))))
def vZ:SF:=
 (aD (bf (aF 3) (gOf (aP cJ (ao 0) (ak (aq 1) (ak (aq 2) au)))))
 (aD (bT (jy (gG (ao 3))) (eV "NoRight") aW)
 (aD (rQ (cZ (aq 3)) (aF 4) yJ)
 (aU (aq 3)))))
def oF:Mo->List Dat->aZ Dat:=mG 5 vZ
def zF:List (Str×MV):=[("Rights",.g 3 oF)]
def jA:SF:=
 (aD (cC (gOf (aP aC (ao 0) (ak (aq 1) au))))
 (aD (cC (gOf (aP aG (bJ "grounds" (ao 0)) (ak (aq 2) au))))
 (aD (cC (gOf (aP aN (ao 0) (ak (aq 1) (ak (aq 2) au)))))
 (aD (bT (gG (dH P0 (eU (cZ (aP jL (bJ "herd" (ao 0)) (ak (yE (ak (aq 2) au)) au))) (bD [3,4]) [3,4] iG (aA cG (bJ "owner" (ao 4)) (ao 1))))) (eV "StillThere") aW)
 (iH (cR zF (bJ "rights" (ao 0)) (ak (aq 1) (ak (aq 2) au))))))))
def fX:Mo->List Dat->aZ Dat:=mG 5 jA
def qN:SF:=
 (aD (bf (bD [2,3,4,5,6]) (gOf (aq 1)))
 (aD (uO kE (ao 0) "owner" (gOf (aq 2)))
 (aD (uO kE (ao 0) "ground" (gOf (aq 3)))
 (aD (uO kE (ao 0) "due" (gOf (aq 4)))
 (aD (uO kE (ao 0) "ear" (gOf (aq 5)))
 (uO kE (ao 0) "alive" (gOf (aq 6))))))))
def nu:Mo->List Dat->aZ Dat:=mG 7 qN
def Nm:SF:=
 (aD (bT (bA (aA cG (aA aO (ao 0) (qC (.int 0))) (qC (.str "born")))) (aD (bf (bD [1,2,3,4]) (gOf (aq 0)))
 (aU (bL (ak (aq 3) (ak (aq 4) (ak (qC .none) (ak (qC jF) (ak (qC (.bool true)) au)))))))) aW)
 (aD (bf (bD [1,3,4,5]) (gOf (aq 0)))
 (aU (bL (ak (aq 3) (ak (aq 4) (ak (qC .none) (ak (aq 5) (ak (qC (.bool true)) au)))))))))
def Cq:Mo->List Dat->Out Dat:=mQ 6 Nm
def jP:List (Str×MV):=[("Beast",.g 2 nu)]
def Di:SF:=
 (aD (Ep kE (ao 0) "story" (SM (ak (aq 1) au)))
 (aD (uO kE (ao 0) "mother" (gOf (Qy (bA (aA cG (aA aO (ao 1) (qC (.int 0))) (qC (.str "born")))) (aA aO (ao 1) (qC (.int 1))) (qC (.int 0)))))
 (cC (cR jP (ao 0) (ak (aV Cq (ak (aq 1) au)) au)))))
def uw:Mo->List Dat->aZ Dat:=mG 2 Di
def v7:SF:=
 (aD (Du "beasts" (ao 0) (Bs "Beast" uw (ak (aq 1) au)))
 (aU (dH jR (bJ "beasts" (ao 0)))))
def qM:Mo->List Dat->aZ Dat:=mG 2 v7
def jO:List (Str×MV):=[("Herd",.g 2 qM)]
def jD:SF:=
 (aD (cC (gOf (aP aC (ao 0) (ak (aq 1) au))))
 (aD (cC (gOf (aP aG (bJ "grounds" (ao 0)) (ak (aq 2) au))))
 (aD (cC (gOf (aV mj (ak (aq 3) au))))
 (aD (cC (gOf (aP aN (ao 0) (ak (aq 1) (ak (aq 2) au)))))
 (iH (cR jO (bJ "herd" (ao 0)) (ak (bL (ak (qC (.str "brought")) (ak (aq 1) (ak (aq 2) (ak (aq 3) au))))) au)))))))
def gq:Mo->List Dat->aZ Dat:=mG 4 jD
def uF:SF:=
 (aD (bT (jy (oY rG rG (qC (.int 1)) (ao 1) (dH jR (bJ "beasts" (ao 0))))) (eV "NoBeast") aW)
 (aU (aA aO (bJ "beasts" (ao 0)) (aA pB (ao 1) (qC (.int 1))))))
def lg:Mo->List Dat->Out Dat:=mQ 2 uF
def fJ:List (Str×MV):=[("Herd",.q 2 lg)]
def vU:SF:=
 (aD (bf (aF 2) (gOf (aP fJ (ao 0) (ak (aq 1) au))))
 (aD (bT (jy (gG (bJ "alive" (ao 2)))) (eV "Dead") aW)
 (aU (aq 2))))
def qZ:Mo->List Dat->Out Dat:=mQ 3 vU
def bG:List (Str×MV):=[("Herd",.q 2 qZ)]
def rA:SF:=
 (aD (bf (aF 2) (gOf (aP bG (ao 0) (ak (aq 1) au))))
 (aD (bT (bA (yw false .none (bJ "due" (ao 2)))) (eV "Unmarked") aW)
 (aU (aq 2))))
def oH:Mo->List Dat->Out Dat:=mQ 3 rA
def bx:List (Str×MV):=[("Herd",.q 2 oH)]
def mX:SF:=
 (aD (bf (aF 2) (gOf (aP bx (bJ "herd" (ao 0)) (ak (aq 1) au))))
 (iH (cR jO (bJ "herd" (ao 0)) (ak (bL (ak (qC (.str "born")) (ak (aq 1) (ak (gW "owner" (ao 2)) (ak (gW "ground" (ao 2)) au))))) au))))
def jm:Mo->List Dat->aZ Dat:=mG 3 mX
def Ip:SF:=
 (aU (dH jX (eU (zW 0 (ao 0)) (bD [2,3]) [2,3] iG (Qy (bA (aA cG (ao 2) (ao 1))) (aA gK (ao 3) (qC (.int 1))) (aq 3)))))
def xH:Mo->List Dat->Out Dat:=mQ 4 Ip
def Kw:SF:=
 (aD (bf (bD [2,3,4,5,6]) (gOf (aq 0)))
 (aD (bf (aF 7) (gOf (aA aO (ao 1) (qC (.int 0)))))
 (aD (bT (bA (aA cG (ao 7) (qC (.str "cut")))) (Sv 4 5 (gOf (aA aO (ao 1) (qC (.int 1))))) (bT (bA (aA cG (ao 7) (qC (.str "torn")))) (bf (aF 5) (gOf (aV xH (ak (aq 5) (ak (aA aO (ao 1) (qC (.int 1))) au))))) (bT (bA (aA cG (ao 7) (qC (.str "sold")))) (aD (bf (aF 2) (gOf (aA aO (ao 1) (qC (.int 1)))))
 (Sv 4 5 (gOf (aA aO (ao 1) (qC (.int 2)))))) (bT (bA (aA cG (ao 7) (qC (.str "moved")))) (bf (aF 3) (gOf (aA aO (ao 1) (qC (.int 1))))) (bT (bA (aA cG (ao 7) (qC (.str "followed")))) (aD (bf (aF 2) (gOf (aA aO (ao 1) (qC (.int 1)))))
 (bf (aF 3) (gOf (aA aO (ao 1) (qC (.int 2)))))) (bT (bA (aA cG (ao 7) (qC (.str "passed")))) (bf (aF 2) (gOf (aA aO (ao 1) (qC (.int 1))))) (bT (bA (aA cG (ao 7) (qC (.str "died")))) (bf (aF 6) (gOf (qC (.bool false)))) aW)))))))
 (aU (bL (ak (aq 2) (ak (aq 3) (ak (aq 4) (ak (aq 5) (ak (aq 6) au))))))))))
def Ba:Mo->List Dat->Out Dat:=mQ 8 Kw
def zG:SF:=
 (aD (Du "story" (ao 0) (gOf (aq 1)))
 (cC (cR jP (ao 0) (ak (aV Ba (ak (aP mO (ao 0) au) (ak (aq 1) au))) au))))
def mU:Mo->List Dat->aZ Dat:=mG 2 zG
def bM:List (Str×MV):=[("Beast",.g 2 mU)]
def oG:SF:=
 (aD (bf (aF 2) (gOf (aP bG (bJ "herd" (ao 0)) (ak (aq 1) au))))
 (aD (bf (aF 3) (gOf (aV qp (ak (gW "ear" (ao 2)) (ak (aP bY (ao 0) (ak (gW "owner" (ao 2)) (ak (gW "ground" (ao 2)) au))) au)))))
 (aD (cC (gOf (aP bW (ao 0) (ak (gW "owner" (ao 2)) (ak (aq 3) (ak (gW "ground" (ao 2)) au))))))
 (aD (cC (cR bM (ao 2) (ak (bL (ak (qC (.str "cut")) (ak (aq 3) au))) au)))
 (aU (aq 3))))))
def jQ:Mo->List Dat->aZ Dat:=mG 4 oG
def jk:SF:=
 (aD (bf (aF 3) (gOf (aP bG (bJ "herd" (ao 0)) (ak (aq 1) au))))
 (aD (bT (jy (oY rG KZ (qC (.int 0)) (ao 2) (dH jR (qC jd)))) (eV "NoPlace") aW)
 (aD (bT (bA (aA geD (aA aO (bJ "ear" (ao 3)) (ao 2)) (qC cV))) (eV "Deepest") aW)
 (aD (cC (cR bM (ao 3) (ak (bL (ak (qC (.str "torn")) (ak (aq 2) au))) au)))
 (aU (gW "ear" (ao 3)))))))
def fL:Mo->List Dat->aZ Dat:=mG 4 jk
def vR:SF:=
 (aD (cC (gOf (aP fJ (ao 0) (ak (aq 1) au))))
 (aU (eU (cZ (aP dR (ao 0) au)) (bD [2,3]) [2,3] (jV (bA (aA cG (bJ "mother" (ao 3)) (ao 1))) (bA (yw false .none (bJ "due" (ao 3))))) (bL (ak (aq 2) (ak (aq 3) au))))))
def rB:Mo->List Dat->Out Dat:=mQ 4 vR
def zQ:List (Str×MV):=[("Herd",.q 2 rB)]
def qK:SF:=
 (cC (cR bM (ao 4) (ak (bL (ak (qC (.str "followed")) (ak (gW "owner" (ao 2)) (ak (gW "ground" (ao 2)) au)))) au)))
def tM:SF:=
 (aD (bf (aF 2) (gOf (aP fJ (ao 0) (ak (aq 1) au))))
 (rQ (cZ (aP zQ (ao 0) (ak (aq 1) au))) (bD [3,4]) qK))
def oX:Mo->List Dat->aZ Dat:=mG 5 tM
def iJ:List (Str×MV):=[("Herd",.g 2 oX)]
def fP:SF:=
 (aD (bf (aF 3) (gOf (aP bx (bJ "herd" (ao 0)) (ak (aq 1) au))))
 (aD (cC (gOf (aP aC (ao 0) (ak (aq 2) au))))
 (aD (bT (bA (aA cG (bJ "owner" (ao 3)) (ao 2))) (eV "SameOwner") aW)
 (aD (cC (gOf (aP aN (ao 0) (ak (aq 2) (ak (gW "ground" (ao 3)) au)))))
 (aD (bf (aF 4) (gOf (aV qp (ak (gW "ear" (ao 3)) (ak (aP bY (ao 0) (ak (aq 2) (ak (gW "ground" (ao 3)) au))) au)))))
 (aD (cC (gOf (aV o7 (ak (aq 2) (ak (aq 4) (ak (aP dh (ao 0) (ak (aq 1) (ak (gW "ground" (ao 3)) au))) (ak (aP bQ (ao 0) (ak (gW "ground" (ao 3)) au)) au)))))))
 (aD (cC (cR bM (ao 3) (ak (bL (ak (qC (.str "sold")) (ak (aq 2) (ak (aq 4) au)))) au)))
 (aD (cC (cR iJ (bJ "herd" (ao 0)) (ak (aq 1) au)))
 (aU (aq 4))))))))))
def dO:Mo->List Dat->aZ Dat:=mG 5 fP
def fM:SF:=
 (aD (bf (aF 3) (gOf (aP bx (bJ "herd" (ao 0)) (ak (aq 1) au))))
 (aD (cC (gOf (aP aG (bJ "grounds" (ao 0)) (ak (aq 2) au))))
 (aD (bf (aF 4) (gOf (gW "ground" (ao 3))))
 (aD (bT (bA (aA cG (ao 4) (ao 2))) (eV "SameGround") aW)
 (aD (cC (gOf (aP aN (ao 0) (ak (gW "owner" (ao 3)) (ak (aq 2) au)))))
 (aD (cC (gOf (aP bW (ao 0) (ak (gW "owner" (ao 3)) (ak (gW "due" (ao 3)) (ak (aq 2) au))))))
 (aD (cC (cR bM (ao 3) (ak (bL (ak (qC (.str "moved")) (ak (aq 2) au))) au)))
 (aD (cC (cR iJ (bJ "herd" (ao 0)) (ak (aq 1) au)))
 (aU (aq 4))))))))))
def dN:Mo->List Dat->aZ Dat:=mG 5 fM
def rC:SF:=
 (cC (cR bM (aP bG (bJ "herd" (ao 0)) (ak (aq 1) au)) (ak (bL (ak (qC (.str "died")) au)) au)))
def lN:Mo->List Dat->aZ Dat:=mG 2 rC
def Jw:SF:=
 (aD (bf (aF 2) (gOf (aV qU (ak (aq 0) au))))
 (aU (Dq (zW 0 (ao 2)) (bD [3,4]) [3,4,5] iG (cZ (LK (ao 2) (pN (aA gK (ao 3) (qC (.int 1)))) xQ)) (aF 5) [5] (jV (bA (aA yO (aA aO (ao 4) (qC (.int 0))) (aA aO (ao 5) (qC (.int 0))))) (gG (aV rF (ak (aA aO (ao 4) (qC (.int 1))) (ak (aA aO (ao 5) (qC (.int 1))) (ak (aq 1) au)))))) (bL (ak (aq 4) (ak (aq 5) au))))))
def uW:Mo->List Dat->Out Dat:=mQ 6 Jw
def tO:SF:=
 (aD (bf (aF 3) (gOf (aA tL (aP bQ (ao 0) (ak (aq 1) au)) (aP bQ (ao 0) (ak (aq 2) au)))))
 (aU (aV uW (ak (aA gK (aP bO (ao 0) (ak (aq 1) au)) (aP bO (ao 0) (ak (aq 2) au))) (ak (aq 3) au)))))
def kY:Mo->List Dat->Out Dat:=mQ 4 tO
def rP:SF:=
 (Rm "circles" (ao 0) (aA pB (ao 3) (qC (.int 1))) (aq 2))
def vm:SF:=
 (aD (bf (aF 2) (gOf (dH jX (ao 1))))
 (aD (rQ (cZ (aq 1)) (aF 3) rP)
 (aU (aq 1))))
def lO:Mo->List Dat->aZ Dat:=mG 4 vm
def gQ:List (Str×MV):=[("Grounds",.g 2 lO)]
def sV:SF:=
 (aD (bf (aF 3) (gOf (aP bB (ao 0) (ak (aq 1) au))))
 (aD (bf (aF 4) (gOf (aP bB (ao 0) (ak (aq 2) au))))
 (aD (bT (bA (aA (inD false) (ao 2) (ao 3))) (eV "Together") aW)
 (iH (cR gQ (ao 0) (ak (dH Jo (aA gK (ao 3) (ao 4))) au))))))
def lH:Mo->List Dat->aZ Dat:=mG 5 sV
def wJ:List (Str×MV):=[("Grounds",.g 3 lH)]
def nO:List (Str×MV):=[("Commons",.q 3 kY)]
def jB:SF:=
 (aD (cC (gOf (aP aG (bJ "grounds" (ao 0)) (ak (aq 2) au))))
 (aD (bT (bA (aA (inD false) (ao 2) (aP bV (ao 0) (ak (aq 1) au)))) (eV "Together") aW)
 (aD (bf (aF 3) (gOf (aP nO (ao 0) (ak (aq 1) (ak (aq 2) au)))))
 (aD (bT (gG (ao 3)) (aD (bf (bD [4,5]) (gOf (aA aO (ao 3) (qC (.int 0)))))
 (Cp "Clash" ["ones","others","ear"] (ak (aq 4) (ak (aq 5) (ak (aV qp (ak (aA aO (ao 4) (qC (.int 1))) (ak (aA aO (ao 5) (qC (.int 1))) au))) au))))) aW)
 (iH (cR wJ (bJ "grounds" (ao 0)) (ak (aq 1) (ak (aq 2) au))))))))
def gA:Mo->List Dat->aZ Dat:=mG 6 jB
def ql:SF:=
 (aD (bf (aF 2) (gOf (eU (cZ (aP bB (ao 0) (ak (aq 1) au))) (aF 3) [3] (bA (aA yO (ao 3) (ao 1))) (aq 3))))
 (aD (bT (jy (gG (ao 2))) (eV "Alone") aW)
 (aD (cC (cR gQ (ao 0) (ak (yE (ak (aq 1) au)) au)))
 (iH (cR gQ (ao 0) (ak (aq 2) au))))))
def jw:Mo->List Dat->aZ Dat:=mG 4 ql
def oM:List (Str×MV):=[("Grounds",.g 2 jw)]
def qj:SF:=
 (iH (cR oM (bJ "grounds" (ao 0)) (ak (aq 1) au)))
def kh:Mo->List Dat->aZ Dat:=mG 2 qj
def uf:SF:=
 (Rk kE (ao 0) "held" (qDc (Dj "held" (ao 0)) (bD [3,4,5]) [3,4,5] (bL (ak (Qy (bA (aA cG (ao 3) (ao 1))) (aq 2) (aq 3)) (ak (aq 4) (ak (aq 5) au))))))
def oN:Mo->List Dat->aZ Dat:=mG 6 uf
def CN:SF:=
 (aU (eU (cZ (aP dR (ao 0) au)) (bD [2,3]) [2,3] (bA (aA cG (bJ "owner" (ao 3)) (ao 1))) (bL (ak (aq 2) (ak (aq 3) au)))))
def yC:Mo->List Dat->Out Dat:=mQ 4 CN
def Bu:List (Str×MV):=[("Herd",.q 2 yC)]
def rR:List (Str×MV):=[("Rights",.g 3 oN)]
def sS:SF:=
 (cC (cR bM (ao 5) (ak (bL (ak (qC (.str "passed")) (ak (aq 2) au))) au)))
def jN:SF:=
 (aD (cC (gOf (aP aC (ao 0) (ak (aq 1) au))))
 (aD (cC (gOf (aP aC (ao 0) (ak (aq 2) au))))
 (aD (bT (bA (aA cG (ao 1) (ao 2))) (eV "SameOwner") aW)
 (aD (cC (cR rR (bJ "rights" (ao 0)) (ak (aq 1) (ak (aq 2) au))))
 (aD (bf (aF 3) (gOf (aP Bu (bJ "herd" (ao 0)) (ak (aq 1) au))))
 (aD (rQ (cZ (aq 3)) (bD [4,5]) sS)
 (aD (M5 "holders" (ao 0) (aq 1))
 (aU (eU (cZ (ao 3)) (bD [4,5]) [4,5] iG (aq 4))))))))))
def fU:Mo->List Dat->aZ Dat:=mG 6 jN
def vo:SF:=
 (aD (bT (bA (aA cG (ao 0) (qC (.str "ear")))) (aU (yx (wB .tuple (ao 1)) (aV ux (ak (aq 1) au)))) aW)
 (aD (bf (aF 2) (gOf (Qy (bA (aA cG (ao 0) (qC (.str "place")))) (aA pB (dH jR (qC jd)) (qC (.int 1))) (qC oW))))
 (aU (yx (wB .int (ao 1)) (Vx (oY rG rG (qC (.int 0)) (ao 1) (ao 2)))))))
def iQ:Mo->List Dat->Out Dat:=mQ 3 vo
def Z8:SF:=
 (aD (bT (Ml (bA (aA cG (dH jR (ao 0)) (qC (.int 0)))) (bA (U0 true (Aa zP) (aA aO (ao 0) (qC (.int 0)))))) (aU (qC (.bool false))) aW)
 (aD (bf (aF 1) (gOf (abQ (Aa zP) (aA aO (ao 0) (qC (.int 0))))))
 (aD (bf (aF 2) (gOf (LK (ao 0) (pN (qC (.int 1))) xQ)))
 (aU (yx (aA cG (dH jR (ao 2)) (dH jR (ao 1))) (dH Ik (eU (Fx (ao 1) (ao 2)) (bD [3,4]) [3,4] iG (aV iQ (ak (aq 3) (ak (aq 4) au))))))))))
def GP:Mo->List Dat->Out Dat:=mQ 5 Z8
def sG:List (Str×MV):=[("Commons",.g 4 cW)]
def tX:List (Str×MV):=[("Commons",.g 3 fU)]
def yh:List (Str×MV):=[("Commons",.g 2 kh)]
def wC:List (Str×MV):=[("Commons",.g 3 gA)]
def zf:List (Str×MV):=[("Commons",.g 2 lN)]
def yG:List (Str×MV):=[("Commons",.g 3 dN)]
def yI:List (Str×MV):=[("Commons",.g 3 dO)]
def yK:List (Str×MV):=[("Commons",.g 3 fL)]
def zB:List (Str×MV):=[("Commons",.g 2 jQ)]
def xO:List (Str×MV):=[("Commons",.g 2 jm)]
def wF:List (Str×MV):=[("Commons",.g 4 gq)]
def wg:List (Str×MV):=[("Commons",.g 3 fX)]
def wH:List (Str×MV):=[("Commons",.g 4 dX)]
def pX:List (Str×MV):=[("Commons",.g 2 ig)]
def cX:SF:=
 (aD (bT (jy (gG (aV GP (ak (aq 1) au)))) (eV "BadDeed") aW)
 (aD (XD 2 3 (gOf (aq 1)))
 (aD (bT (bA (aA cG (ao 2) (qC (.str "owner")))) (iH (cR iz (ao 0) au)) aW)
 (aD (bT (bA (aA cG (ao 2) (qC (.str "ground")))) (iH (cR pX (ao 0) (ak (aA aO (ao 3) (qC (.int 0))) au))) aW)
 (aD (bT (bA (aA cG (ao 2) (qC (.str "enrol")))) (iH (cR wH (ao 0) (ak (aA aO (ao 3) (qC (.int 0))) (ak (aA aO (ao 3) (qC (.int 1))) (ak (aA aO (ao 3) (qC (.int 2))) au))))) aW)
 (aD (bT (bA (aA cG (ao 2) (qC (.str "leave")))) (iH (cR wg (ao 0) (ak (aA aO (ao 3) (qC (.int 0))) (ak (aA aO (ao 3) (qC (.int 1))) au)))) aW)
 (aD (bT (bA (aA cG (ao 2) (qC (.str "bring")))) (iH (cR wF (ao 0) (ak (aA aO (ao 3) (qC (.int 0))) (ak (aA aO (ao 3) (qC (.int 1))) (ak (aA aO (ao 3) (qC (.int 2))) au))))) aW)
 (aD (bT (bA (aA cG (ao 2) (qC (.str "bear")))) (iH (cR xO (ao 0) (ak (aA aO (ao 3) (qC (.int 0))) au))) aW)
 (aD (bT (bA (aA cG (ao 2) (qC (.str "cut")))) (iH (cR zB (ao 0) (ak (aA aO (ao 3) (qC (.int 0))) au))) aW)
 (aD (bT (bA (aA cG (ao 2) (qC (.str "tear")))) (iH (cR yK (ao 0) (ak (aA aO (ao 3) (qC (.int 0))) (ak (aA aO (ao 3) (qC (.int 1))) au)))) aW)
 (aD (bT (bA (aA cG (ao 2) (qC (.str "sell")))) (iH (cR yI (ao 0) (ak (aA aO (ao 3) (qC (.int 0))) (ak (aA aO (ao 3) (qC (.int 1))) au)))) aW)
 (aD (bT (bA (aA cG (ao 2) (qC (.str "move")))) (iH (cR yG (ao 0) (ak (aA aO (ao 3) (qC (.int 0))) (ak (aA aO (ao 3) (qC (.int 1))) au)))) aW)
 (aD (bT (bA (aA cG (ao 2) (qC (.str "die")))) (iH (cR zf (ao 0) (ak (aA aO (ao 3) (qC (.int 0))) au))) aW)
 (aD (bT (bA (aA cG (ao 2) (qC (.str "unite")))) (iH (cR wC (ao 0) (ak (aA aO (ao 3) (qC (.int 0))) (ak (aA aO (ao 3) (qC (.int 1))) au)))) aW)
 (aD (bT (bA (aA cG (ao 2) (qC (.str "part")))) (iH (cR yh (ao 0) (ak (aA aO (ao 3) (qC (.int 0))) au))) aW)
 (aD (bT (bA (aA cG (ao 2) (qC (.str "pass")))) (iH (cR tX (ao 0) (ak (aA aO (ao 3) (qC (.int 0))) (ak (aA aO (ao 3) (qC (.int 1))) au)))) aW)
 (iH (cR sG (ao 0) (ak (aA aO (ao 3) (qC (.int 0))) (ak (aA aO (ao 3) (qC (.int 1))) (ak (aA aO (ao 3) (qC (.int 2))) au)))))))))))))))))))))
def cU:Mo->List Dat->aZ Dat:=mG 4 cX
def rH:List (Str×MV):=[("Commons",.g 2 cU)]
def Lk:SF:=
 (aD (bf (aF 3) (gOf (qC .none)))
 (aD (aac (bf (aF 3) (cR rH (ao 0) (ak (aq 1) au))) [⟨"CommonError",fun x=>uM.lookup x,none,[(3,(.con .none))]⟩])
 (aD (bT (bA (yw false .none (ao 3))) (aU (aq 2)) aW)
 (aD (bf (bD [4,5,6]) (gOf (aq 2)))
 (aD (bT (Ml (bA (aA cG (aA aO (ao 1) (qC (.int 0))) (qC (.str "owner")))) (bA (aA cG (aA aO (ao 1) (qC (.int 0))) (qC (.str "heir"))))) (Qn 4 (qC (.int 1))) aW)
 (aD (bT (bA (aA cG (aA aO (ao 1) (qC (.int 0))) (qC (.str "ground")))) (Qn 5 (qC (.int 1))) aW)
 (aD (bT (Ml (bA (aA cG (aA aO (ao 1) (qC (.int 0))) (qC (.str "bring")))) (bA (aA cG (aA aO (ao 1) (qC (.int 0))) (qC (.str "bear"))))) (Qn 6 (qC (.int 1))) aW)
 (aU (bL (ak (aq 4) (ak (aq 5) (ak (aq 6) au))))))))))))
def rJ:Mo->List Dat->aZ Dat:=mG 7 Lk
def Py:SF:=
 (aD (bf (aF 5) (gOf (aA aO (bL (ak (qC (.int 0)) (ak (qC (.int 0)) (ak (qC (.int 0)) (ak (qC (.int 0)) (ak (qC (.int 0)) (ak (qC (.int 1)) (ak (qC (.int 1)) (ak (qC (.int 2)) (ak (qC (.int 3)) (ak (dH Vd (qC (.int 1))) au))))))))))) (ao 4))))
 (Pn 2 (aA tL (qC (.int 0)) (aA Jm (qC (.int 9)) (aA gK (ao 3) (ao 5))))))
def XR:SF:=
 (aD (Fq 2 (SM au))
 (aD (rQ (Fx (aq 0) (aq 1)) (bD [3,4]) Py)
 (aU (dH jX (ao 2)))))
def Ax:Mo->List Dat->Out Dat:=mQ 6 XR
def KH:SF:=
 (aD (bT (bA (aA KZ (ao 1) (qC (.int 4)))) (aU (aV Ax (ak (aq 2) (ak (aq 0) au)))) aW)
 (aU (aV mY (ak (aq 0) (ak (aq 1) au)))))
def wU:Mo->List Dat->Out Dat:=mQ 3 KH
def Xp:SF:=
 (aD (bT (gG (ao 2)) (aU (aA gK (qC (.int 1)) (aA jx (ao 0) (aA tL (qC (.int 1)) (ao 1))))) aW)
 (aU (aA jx (ao 0) (aA gK (ao 1) (qC (.int 2))))))
def jU:Mo->List Dat->Out Dat:=mQ 3 Xp
def jW:SF:=
 (aD (bf (aF 6) (gOf (aA yO (aA aO (ao 3) (qC (.int 6))) (qC (.int 9)))))
 (aD (bf (aF 7) (gOf (aV wU (ak (LK (ao 3) (pN (qC (.int 8))) (pN (qC (.int 14)))) (ak (aA aO (ao 3) (qC (.int 7))) (ak (aq 5) au))))))
 (aD (bT (bA (aA cG (ao 0) (qC (.str "owner")))) (aU (bL (ak (qC (.str "owner")) au))) aW)
 (aD (bT (bA (aA cG (ao 0) (qC (.str "ground")))) (aU (bL (ak (qC (.str "ground")) (ak (aA gK (aA aO (bL (ak (qC (.int 0)) (ak (qC (.int 1)) (ak (qC (.int 2)) (ak (qC (.int 3)) (ak (qC (.int 0)) (ak (qC (.int 1)) (ak (qC (.int 5)) (ak (qC (.int 6)) (ak (qC (.int 7)) (ak (qC (.int 8)) au))))))))))) (aA aO (ao 3) (qC (.int 7)))) (aA Bv (qC (.int 4)) (dH intD (Qz (ao 6))))) au)))) aW)
 (aD (bT (jV (bA (aA cG (ao 0) (qC (.str "bring")))) (bA (aA KZ (aA aO (ao 3) (qC (.int 7))) (qC (.int 6))))) (bf (aF 7) (gOf (bL (ak (qC (.int 0)) (ak (qC (.int 0)) (ak (qC (.int 0)) (ak (qC (.int 0)) (ak (qC (.int 0)) (ak (qC (.int 0)) au))))))))) aW)
 (aD (bT (Ml (bA (aA cG (ao 0) (qC (.str "enrol")))) (bA (aA cG (ao 0) (qC (.str "bring"))))) (aU (bL (ak (aq 0) (ak (aV jU (ak (aq 1) (ak (aA aO (ao 4) (qC (.int 0))) (ak (aq 6) au)))) (ak (aV jU (ak (aq 2) (ak (aA aO (ao 4) (qC (.int 1))) (ak (aq 6) au)))) (ak (aq 7) au)))))) aW)
 (aD (bT (bA (aA cG (ao 0) (qC (.str "leave")))) (aU (bL (ak (aq 0) (ak (aV jU (ak (aq 1) (ak (aA aO (ao 4) (qC (.int 0))) (ak (aq 6) au)))) (ak (aV jU (ak (aq 2) (ak (aA aO (ao 4) (qC (.int 1))) (ak (aq 6) au)))) au))))) aW)
 (aD (bT (bA (aA cG (ao 0) (qC (.str "heir")))) (aU (bL (ak (aq 0) (ak (aV jU (ak (aq 1) (ak (aA aO (ao 4) (qC (.int 0))) (ak (aq 6) au)))) (ak (aV jU (ak (aq 2) (ak (aA aO (ao 4) (qC (.int 1))) (ak (aq 6) au)))) (ak (aA jx (aA aO (ao 3) (qC (.int 7))) (qC (.int 4))) au)))))) aW)
 (aD (bT (bA (aA cG (ao 0) (qC (.str "pass")))) (aU (bL (ak (aq 0) (ak (aV jU (ak (aq 1) (ak (aA aO (ao 4) (qC (.int 0))) (ak (aq 6) au)))) (ak (aV jU (ak (aq 2) (ak (aA aO (ao 4) (qC (.int 0))) (ak (aq 6) au)))) au))))) aW)
 (aD (bT (bA (aA cG (ao 0) (qC (.str "unite")))) (aU (bL (ak (aq 0) (ak (aV jU (ak (aq 1) (ak (aA aO (ao 4) (qC (.int 1))) (ak (aq 6) au)))) (ak (aV jU (ak (aq 2) (ak (aA aO (ao 4) (qC (.int 1))) (ak (aq 6) au)))) au))))) aW)
 (aD (bT (bA (aA cG (ao 0) (qC (.str "part")))) (aU (bL (ak (aq 0) (ak (aV jU (ak (aq 1) (ak (aA aO (ao 4) (qC (.int 1))) (ak (aq 6) au)))) au)))) aW)
 (aD (bT (bA (aA cG (ao 0) (qC (.str "tear")))) (aU (bL (ak (aq 0) (ak (aV jU (ak (aq 1) (ak (aA aO (ao 4) (qC (.int 2))) (ak (aq 6) au)))) (ak (aA jx (aA aO (ao 3) (qC (.int 7))) (qC (.int 6))) au))))) aW)
 (aD (bT (bA (aA cG (ao 0) (qC (.str "sell")))) (aU (bL (ak (aq 0) (ak (aV jU (ak (aq 1) (ak (aA aO (ao 4) (qC (.int 2))) (ak (aq 6) au)))) (ak (aV jU (ak (aq 2) (ak (aA aO (ao 4) (qC (.int 0))) (ak (aq 6) au)))) au))))) aW)
 (aD (bT (bA (aA cG (ao 0) (qC (.str "move")))) (aU (bL (ak (aq 0) (ak (aV jU (ak (aq 1) (ak (aA aO (ao 4) (qC (.int 2))) (ak (aq 6) au)))) (ak (aV jU (ak (aq 2) (ak (aA aO (ao 4) (qC (.int 1))) (ak (aq 6) au)))) au))))) aW)
 (aU (bL (ak (aq 0) (ak (aV jU (ak (aq 1) (ak (aA aO (ao 4) (qC (.int 2))) (ak (aq 6) au)))) au))))))))))))))))))
def gU:Mo->List Dat->Out Dat:=mQ 8 jW
def Iw:SF:=
 (aD (bf (aF 3) (Jj rJ (ak (aq 0) (ak (bL (ak (qC (.str "bring")) (ak (qC (.int 1)) (ak (qC (.int 1)) (ak (bL (ak (qC (.int 0)) (ak (qC (.int 0)) (ak (qC (.int 0)) (ak (qC (.int 0)) (ak (qC (.int 0)) (ak (qC (.int 0)) au))))))) au))))) (ak (aq 3) au)))))
 (bf (aF 3) (Jj rJ (ak (aq 0) (ak (bL (ak (qC (.str "cut")) (ak (aA aO (ao 3) (qC (.int 2))) au))) (ak (aq 3) au))))))
def CZ:SF:=
 (aD (bf (aF 8) (gOf (aV qR (ak (aq 7) (ak (qC (.int 14)) (ak (qC (.int 10)) au))))))
 (aD (bf (aF 9) (gOf (aV Am (ak (aA gK (aA Bv (aA aO (ao 8) (qC (.int 0))) (qC (.int 10))) (aA aO (ao 8) (qC (.int 1)))) au))))
 (aD (bf (aF 10) (gOf (aA gK (aA Bv (aA aO (ao 8) (qC (.int 2))) (qC (.int 10))) (aA aO (ao 8) (qC (.int 3))))))
 (aD (bf (aF 11) (gOf (aA gK (aA Bv (aA aO (ao 8) (qC (.int 4))) (qC (.int 10))) (aA aO (ao 8) (qC (.int 5))))))
 (aD (bT (bA (aA KZ (ao 6) (dH jR (ao 5)))) (bf (bD [9,10,11]) (gOf (aA aO (ao 5) (ao 6)))) aW)
 (bf (aF 3) (Jj rJ (ak (aq 0) (ak (aV gU (ak (aq 9) (ak (aq 10) (ak (aq 11) (ak (aq 8) (ak (aq 3) (ak (aq 4) au))))))) (ak (aq 3) au))))))))))
def RP:SF:=
 (aD (bf (aF 3) (gOf (bL (ak (qC (.int 0)) (ak (qC (.int 0)) (ak (qC (.int 0)) au))))))
 (aD (bf (aF 4) (gOf (aV Jk (ak (aA zK (ao 2) (qC (.int 512))) au))))
 (aD (bf (aF 5) (gOf (aV vB (ak (aq 2) au))))
 (aD (rQ (zW 0 (aq 1)) (bD [6,7]) CZ)
 (aD (bT (bA (aA cG (aA jx (aA zK (ao 2) (qC (.int 8))) (qC (.int 8))) (qC (.int 1)))) (rQ (yZ (aA Bv (aA jx (aA zK (ao 2) (qC (.int 64))) (qC (.int 8))) (qC (.int 4)))) (aF 12) Iw) aW)
 (aU (aq 3)))))))
def Gf:Mo->List Dat->aZ Dat:=mG 13 RP
def mK:SF:=
 (bT (jV (bA (aA Wz (ao 2) (qC (.int 0)))) (bA (aA KZ (aA aO (ao 3) (aA jx (ao 4) (qC (.int 6)))) (qC (.int 9))))) (aD (R6 3 (aA jx (ao 4) (qC (.int 6))) (aA gK (aA aO (ao 3) (aA jx (ao 4) (qC (.int 6)))) (qC (.int 1))))
 (bf (aF 2) (gOf (aA pB (ao 2) (qC (.int 1)))))) aW)
def Lq:SF:=
 (aD (Fq 3 (Il (ao 0)))
 (aD (rQ (cZ (aq 1)) (aF 4) mK)
 (aU (dH jX (ao 3)))))
def Ak:Mo->List Dat->Out Dat:=mQ 5 Lq
def Vf:SF:=
 (aU (yx (wB .int (ao 0)) (Qz (wB .bool (ao 0)))))
def Gg:Mo->List Dat->Out Dat:=mQ 1 Vf
def PB(r:Mo->List Dat->Out Dat):SF:=
 (bT (jy (gG (aV r (ak (aq 2) (ak (aq 3) au))))) (aU (qC (.bool false))) aW)
def Ht(r:Mo->List Dat->Out Dat):SF:=
 (aD (bT (bA (yw false .none (ao 1))) (aU (yw false .none (ao 0))) aW)
 (aD (bT (bA (yw false (.bool true) (ao 1))) (aU (yw false (.bool true) (ao 0))) aW)
 (aD (bT (bA (yw false (.bool false) (ao 1))) (aU (yw false (.bool false) (ao 0))) aW)
 (aD (bT (gG (wB .int (ao 1))) (aU (yx (aV Gg (ak (aq 0) au)) (aA cG (ao 0) (ao 1)))) aW)
 (aD (bT (gG (wB .str (ao 1))) (aU (yx (wB .str (ao 0)) (aA cG (ao 0) (ao 1)))) aW)
 (aD (bT (jV (gG (wB .tuple (ao 1))) (jy (gG (wB .tuple (ao 0))))) (aU (qC (.bool false))) aW)
 (aD (bT (jV (gG (wB .list (ao 1))) (jy (gG (wB .list (ao 0))))) (aU (qC (.bool false))) aW)
 (aD (bT (bA (aA yO (dH jR (ao 0)) (dH jR (ao 1)))) (aU (qC (.bool false))) aW)
 (aD (rQ (Fx (aq 0) (aq 1)) (bD [2,3]) (PB r))
 (aU (qC (.bool true))))))))))))
def pQ:Nat->Mo->List Dat->Out Dat
 |0=>fun _ _=>.bad
 |n+1=>mQ 4 (Ht (pQ n))
def Qg:SF:=
 (aU (dH Ik (eU (Fx (ao 0) (ao 1)) (bD [2,3]) [2,3] iG (aA rG (ao 2) (ao 3)))))
def yW:Mo->List Dat->Out Dat:=mQ 4 Qg
def Fg:SF:=
 (aU (dH jX (Cu (cZ (ao 1)) (bD [3,4]) [3,4] (jV (gG (aV yW (ak (aq 4) (ak (aq 0) au)))) (bA (aA rG (aV oE (ak (aq 4) (ak (aq 0) au))) (ao 2)))) (aq 3))))
def vA:Mo->List Dat->Out Dat:=mQ 5 Fg
def yL:SF:=
 (aD (cC (gOf (aP aG (bJ "grounds" (ao 0)) (ak (aq 1) au))))
 (aD (cC (gOf (aV mj (ak (aq 2) au))))
 (aU (aV vA (ak (aq 2) (ak (aP bO (ao 0) (ak (aq 1) au)) (ak (aP bQ (ao 0) (ak (aq 1) au)) au)))))))
def sU:Mo->List Dat->Out Dat:=mQ 3 yL
def XS:SF:=
 (aD (bT (bA (aA KZ (ao 1) (dH jR (ao 0)))) (aU (aA aO (ao 0) (ao 1))) aW)
 (aU (qC (.int 0))))
def vJ:Mo->List Dat->Out Dat:=mQ 2 XS
def j8:List (Str×MV):=[("Commons",.q 3 sU)]
def ab8:SF:=
 (aD (bf (aF 3) (gOf (aP j8 (ao 0) (ak (aq 1) (ak (aq 2) au)))))
 (aU (yx (wB .tuple (ao 3)) (aA rG (dH jR (ao 3)) (qC (.int 1))))))
def Eb:Mo->List Dat->Out Dat:=mQ 4 ab8
def Mu:SF:=
 (aU (dH maxD (eU (cZ (aA aO (aA aO (aA aO (ao 0) (qC (.int 1))) (aA pB (ao 1) (qC (.int 1)))) (qC (.int 1)))) (aF 2) [2] iG (aA aO (aA aO (aA aO (ao 0) (qC (.int 1))) (aA pB (ao 2) (qC (.int 1)))) (qC (.int 0))))))
def Az:Mo->List Dat->Out Dat:=mQ 3 Mu
def acp:SF:=
 (aU (dH jX (eU (Fx (ao 0) (ao 1)) (bD [2,3]) [2,3] iG (aA tL (ao 2) (ao 3)))))
def HJ:Mo->List Dat->Out Dat:=mQ 4 acp
def Ac:SF:=
 (aD (bf (aF 2) (gOf (aV qR (ak (aq 1) (ak (qC (.int 7)) (ak (qC (.int 10)) au))))))
 (aD (bT (bA (aA KZ (aA aO (ao 2) (qC (.int 6))) (qC (.int 6)))) (aU (aV Ax (ak (aq 0) (ak (LK (ao 2) xQ (pN (qC (.int 6)))) au)))) aW)
 (aU (aV mY (ak (LK (ao 2) xQ (pN (qC (.int 6)))) (ak (aA aO (ao 2) (qC (.int 6))) au))))))
def rK:Mo->List Dat->Out Dat:=mQ 3 Ac
def tD:List (Str×MV):=[("Commons",.q 1 pW)]
def Nq:SF:=
 (bT (jy (gG (aV Eb (ak (aq 1) (ak (aA gK (ao 5) (qC (.int 1))) (ak (aV rK (ak (aV Jk (ak (aA zK (ao 2) (qC (.int 512))) au)) (ak (aq 3) au))) au)))))) (aU (qC (.bool false))) aW)
def Xq:SF:=
 (aD (bf (aF 1) (Bs "Commons" qb au))
 (aD (bf (aF 2) (gOf (dH O2 (aV vJ (ak (aq 0) (ak (qC (.int 0)) au))))))
 (aD (bf (aF 3) (gOf (dH O2 (aV vJ (ak (aq 0) (ak (qC (.int 1)) au))))))
 (aD (cC (Jj Gf (ak (aq 1) (ak (LK (ao 0) (pN (qC (.int 3))) (pN (qC (.int 44)))) (ak (aq 2) au)))))
 (aD (bf (aF 4) (gOf (aP tD (ao 1) au)))
 (aD (rQ (yZ (dH jR (aA aO (ao 4) (qC (.int 1))))) (aF 5) Nq)
 (aD (bT (bA (aA yO (aA aO (ao 4) (qC (.int 2))) (yE au))) (aD (bf (aF 6) (gOf (aA aO (aA aO (ao 4) (qC (.int 2))) (aA jx (ao 3) (dH jR (aA aO (ao 4) (qC (.int 2))))))))
 (aD (bf (aF 7) (gOf (aA aO (aA aO (ao 4) (qC (.int 2))) (aA jx (aA zK (ao 3) (qC (.int 7))) (dH jR (aA aO (ao 4) (qC (.int 2))))))))
 (bT (jy (gG (aV Eb (ak (aq 1) (ak (aA aO (ao 6) (qC (.int 1))) (ak (aV HJ (ak (aA aO (ao 6) (qC (.int 2))) (ak (aA aO (ao 7) (qC (.int 2))) au))) au)))))) (aU (qC (.bool false))) aW))) aW)
 (aD (bf (aF 8) (gOf (eU (cZ (aA aO (ao 4) (qC (.int 3)))) (aF 10) [10] (jV (gG (aA aO (ao 10) (qC (.int 4)))) (bA (yw true .none (aA aO (ao 10) (qC (.int 2)))))) (aq 10))))
 (aD (bT (bA (aA cG (ao 8) (yE au))) (aU (qC (.bool true))) aW)
 (aD (bf (aF 6) (gOf (aA aO (ao 8) (aA jx (ao 3) (dH jR (ao 8))))))
 (aD (bf (aF 7) (gOf (aA aO (ao 8) (aA jx (aA zK (ao 3) (qC (.int 7))) (dH jR (ao 8))))))
 (aD (bT (jy (gG (aV Eb (ak (aq 1) (ak (aA aO (ao 6) (qC (.int 1))) (ak (aV HJ (ak (aA aO (ao 6) (qC (.int 2))) (ak (aA aO (ao 7) (qC (.int 2))) au))) au)))))) (aU (qC (.bool false))) aW)
 (aD (bf (aF 9) (gOf (aV Ak (ak (aA aO (ao 6) (qC (.int 2))) (ak (aV qR (ak (aV vJ (ak (aq 0) (ak (qC (.int 2)) au))) (ak (qC (.int 14)) (ak (qC (.int 10)) au)))) (ak (aV Az (ak (aq 4) (ak (aA aO (ao 6) (qC (.int 1))) au))) au))))))
 (aU (aV (pQ 10) (ak (aP j8 (ao 1) (ak (aA aO (ao 6) (qC (.int 1))) (ak (aq 9) au))) (ak (bL (ak (aA aO (ao 6) (qC (.int 0))) au)) au)))))))))))))))))
def S7:Mo->List Dat->aZ Dat:=mG 11 Xq
theorem Xe:FnScope ["self","ones","others","ear"] ["self","ones","others","ear"] (defScope K6):=⟨rfl,rfl,rfl,by decide +kernel,rfl,by decide +kernel,by decide +kernel⟩
abbrev rX(N:List Str)(s:Stmt)(G:List (Str×GV))(B:List Str)(Ms:List (Str×List (Str×MV)))(ml:List Str):Option SF:=rd ⟨N,defScope s,G,B,⟨Ms,kE,xmH,dfH,Wg⟩,ml,true⟩ (defBody s)
abbrev rY(N:List Str)(s:Stmt)(G:List (Str×GV))(B:List Str)(Ms:List (Str×List (Str×MV)))(ml:List Str):Option SF:=rdG ⟨N,defScope s,G,B,⟨Ms,kE,xmH,dfH,Wg⟩,ml,true⟩ (defBody s)
theorem ahs:FnScope ["_law_found","_law_due","_law_one","_law_other"] ["_law_found","_law_due"] (defScope QD):=⟨rfl,rfl,rfl,by decide +kernel,rfl,by decide +kernel,by decide +kernel⟩
theorem akg:FnScope ["_law_script","_law_house","_law_head","_law_cell_here","_law_stand","_law_at","_law_one","_law_other","_law_marked","_law_ear_here","_law_row_here"] ["_law_script"] (defScope Nu):=⟨rfl,rfl,rfl,by decide +kernel,rfl,by decide +kernel,by decide +kernel⟩
theorem TX:rY ["self"] Hj [] [] [] []=some zM:=by kernel_rfl
theorem Xd:rY ["self"] JK [] [] [] []=some Bq:=by kernel_rfl
theorem aap:rY ["self"] Oj [] [] [] []=some Fl:=by kernel_rfl
theorem Ua:rY ["self"] Gq [("Herd",.cls 0 zV),("Rights",.cls 0 vY),("Grounds",.cls 0 uJ)] [] [] []=some zL:=by kernel_rfl
theorem WT:rX ["self"] JH [] [] [] []=some Bt:=by kernel_rfl
theorem Ye:rX ["self"] Lw [] ["tuple"] [("stand",mO)] []=some Dg:=by kernel_rfl
theorem Pu:rX ["self"] CV [] ["list"] [] []=some wA:=by kernel_rfl
theorem Nz:rX ["self"] BW [] ["list"] [] []=some vh:=by kernel_rfl
theorem T9:rX ["self"] FT [] ["len"] [] []=some uI:=by kernel_rfl
theorem W6:rX ["self","ground"] JX [] [] [("many",eY)] []=some Bp:=by kernel_rfl
theorem Ui:rX ["self","ground"] Gk [("NoGround",.exc)] [] [("has",zu)] []=some zm:=by kernel_rfl
theorem Ke:rX ["self","ground"] yP [] [] [("need",aG)] []=some nR:=by kernel_rfl
theorem Lp:rX ["self","ground"] Bc [] ["list"] [("need",aG)] []=some pq:=by kernel_rfl
theorem KQ:rX ["self","ground"] Av [] [] [("together",bB)] []=some oZ:=by kernel_rfl
theorem Tw:rX ["self","grounds","beasts","ground","beast"] Fy [] ["range","tuple"] [("all_rows",uD),("owners",vf),("told",vX),("many",eY),("together",bV),("allowance",dU)] []=some zN:=by kernel_rfl
theorem alr:rX ["_law_cell_here","_law_many","_law_base","_law_found","_law_k","_law_turn"] s_row [] ["range","abs"] [] ["_law_found"]=some abS:=by kernel_rfl
theorem afd:rX ["_law_figures","_law_mode","_law_figure"] ZK [] ["tuple","max"] [] []=some Ov:=by kernel_rfl
theorem amm:rX ["_law_cell_here","_law_figures"] agc [("_law_ear_by",.fq 2 mY),("_law_row",.fq 3 qR)] [] [] []=some ab3:=by kernel_rfl
theorem aan:rX ["_law_head","_law_rows"] Oe [] [] [] []=some Fo:=by kernel_rfl
theorem acL:rX ["_law_figure","_law_some"] WD [] [] [] []=some Lg:=by kernel_rfl
theorem Jr:rX ["self","owner"] yF [("NoOwner",.exc)] [] [] []=some lU:=by kernel_rfl
theorem Uc:rX ["self","owner","ground","holder","where","mark"] Ge [] [] [] []=some yU:=by kernel_rfl
theorem KR:rX ["self","owner","ground"] Aq [] ["len"] [("marks",cJ)] []=some tR:=by kernel_rfl
theorem Ja:rX ["self","owner","ground"] xM [("NoRight",.exc)] [] [("has_right",rZ)] []=some qX:=by kernel_rfl
theorem J8:rY ["self"] yM [] [] [] []=some sE:=by kernel_rfl
theorem Mg:rY ["self","owner","ground","mark","row"] Bh [("HasRight",.exc)] [] [] []=some oU:=by kernel_rfl
theorem akk:rX ["ear","many","heads","depth","head","left","cut"] ac7 [("GREATEST_DEPTH",.con cV)] ["range","min"] [] []=some Za:=by kernel_rfl
theorem ag1:rX ["one","other","here","there"] aaQ [] ["sum","zip"] [] []=some UL:=by kernel_rfl
theorem aaA:rX ["mark","extra","ear"] Oa [("lacks",.fq 2 oE),("torn",.fq 2 Lh)] [] [] []=some EY:=by kernel_rfl
theorem ahT:rX ["one","other"] aaO [("lacks",.fq 2 oE)] ["max"] [] []=some Ul:=by kernel_rfl
theorem ajO:rX ["one","other","room"] ac1 [("apart",.fq 2 Gp)] [] [] []=some X8:=by kernel_rfl
theorem Yi:rX ["mark","extra","rows","room","ear","owner","taken"] Ks [("NoneFree",.exc),("offspring",.fq 2 vH),("meet",.fq 3 rF)] ["any"] [] []=some yD:=by kernel_rfl
theorem Io:rX ["self","owner","ground"] xP [] [] [("marks",cJ)] []=some qI:=by kernel_rfl
theorem aeT:rX ["rows"] XH [] ["sorted","set"] [] []=some O9:=by kernel_rfl
theorem NT:rX ["self","number","beast"] BZ [] ["enumerate"] [] []=some u6:=by kernel_rfl
theorem Ur:rX ["self","grounds","number","beast"] Hf [] [] [("all_living",dR)] []=some zp:=by kernel_rfl
theorem Ka:rX ["self","grounds","owner","ground","mark"] yQ [] [] [] []=some rW:=by kernel_rfl
theorem Fp:rX ["self","left_out","ground","near","due","number","beast"] vq [("tidied",.fq 1 qU)] [] [("in_grounds",qL),("grazing",jL),("together",bV)] []=some kW:=by kernel_rfl
theorem K8:rX ["self","ground"] Ah [] [] [("standing_but",dh)] []=some oO:=by kernel_rfl
theorem Tz:rX ["self","ground","near"] HF [] ["max"] [("together",bB),("allowance",dU)] []=some uX:=by kernel_rfl
theorem Ud:rX ["self","ground"] Hq [] [] [("room",sW)] []=some uH:=by kernel_rfl
theorem Mp:rY ["self","elder","ground","extra","mark","heir"] Ag [("first_free",.fq 4 pY),("BadExtra",.exc),("FEWEST_EXTRA",.con jh),("MOST_EXTRA",.con lA)] [] [("add_right",iK),("new_owner",iz),("room",bQ),("standing",bO),("first_mark",bY),("need_right",aN),("need",aG),("need_owner",aC)] []=some dY:=by kernel_rfl
theorem JD:rY ["self","allowance"] xV [("BadAllowance",.exc),("GREATEST_ALLOWANCE",.con iw)] [] [("many",eY)] []=some jJ:=by kernel_rfl
theorem Jg:rY ["self","allowance"] xX [] [] [("add_ground",lJ)] []=some lV:=by kernel_rfl
theorem aee:rX ["owner","ear","rows","room","holder","mark"] VP [("meet",.fq 3 rF),("tidied",.fq 1 qU)] [] [] []=some Ly:=by kernel_rfl
theorem ahD:rX ["one","other","here","there"] abb [] ["tuple","zip","max"] [] []=some Vb:=by kernel_rfl
theorem acD:rX ["owner","ear","rows","room","bars","holder","mark"] RD [("Clash",.exi ["ones","others","ear"]),("joint",.fq 2 qp),("barring",.fq 4 Bf)] [] [] []=some Cd:=by kernel_rfl
theorem Ij:rX ["self","owner","ear","ground"] yt [("ask_room",.fq 4 o7)] [] [("room",bQ),("standing",bO)] []=some lZ:=by kernel_rfl
theorem afM:rX ["parts","depth"] Yd [("GREATEST_DEPTH",.con cV),("PLACES",.con jd)] ["all","len"] [] []=some Jd:=by kernel_rfl
theorem ab9:rX ["parts"] Q5 [("BadEar",.exc),("is_ear",.fq 1 ux)] [] [] []=some IV:=by kernel_rfl
theorem Rz:rY ["self","owner","ground","mark"] Ez [("HasRight",.exc),("Bare",.exc),("BARE_EAR",.con jF),("need_ear",.fq 1 mj)] [] [("add_right",iK),("ask_ground",bW),("marks",cJ),("need",aG),("need_owner",aC)] []=some fY:=by kernel_rfl
theorem WY:rY ["self","owner","ground","gone","mark"] JG [("NoRight",.exc)] [] [("marks",cJ)] []=some vZ:=by kernel_rfl
theorem Tg:rY ["self","owner","ground","number","beast"] DY [("StillThere",.exc)] ["any"] [("drop",zF),("grazing",jL),("need_right",aN),("need",aG),("need_owner",aC)] []=some jA:=by kernel_rfl
theorem O4:rY ["self","stand","owner","ground","due","ear","alive"] Ds [] [] [] []=some qN:=by kernel_rfl
theorem ahL:rX ["first","word","mother","owner","ground","ear"] abd [("BARE_EAR",.con jF)] [] [] []=some Nm:=by kernel_rfl
theorem Yy:rY ["self","first"] Lj [("begun",.fq 1 Cq)] [] [("stand_so",jP)] []=some Di:=by kernel_rfl
theorem Qs:rY ["self","first"] CQ [("Beast",.cls 1 uw)] ["len"] [] []=some v7:=by kernel_rfl
theorem S8:rY ["self","owner","ground","ear"] El [("need_ear",.fq 1 mj)] [] [("add_beast",jO),("need_right",aN),("need",aG),("need_owner",aC)] []=some jD:=by kernel_rfl
theorem Z0:rX ["self","number"] KY [("NoBeast",.exc)] ["len"] [] []=some uF:=by kernel_rfl
theorem Xo:rX ["self","number","beast"] JR [("Dead",.exc)] [] [("known",fJ)] []=some vU:=by kernel_rfl
theorem W3:rX ["self","number","beast"] JM [("Unmarked",.exc)] [] [("living",bG)] []=some rA:=by kernel_rfl
theorem Vl:rY ["self","mother","cow"] Hv [] [] [("add_beast",jO),("marked",bx)] []=some mX:=by kernel_rfl
theorem abN:rX ["ear","place","at","depth"] RX [] ["tuple","enumerate"] [] []=some Ip:=by kernel_rfl
theorem acJ:rX ["stand","event","owner","ground","due","ear","alive","word"] Wy [("deepened",.fq 2 xH)] [] [] []=some Kw:=by kernel_rfl
theorem TQ:rY ["self","event"] Hh [("gone_on",.fq 2 Ba)] [] [("stand_so",jP),("stand",mO)] []=some zG:=by kernel_rfl
theorem WR:rY ["self","beast","found","due"] JF [("joint",.fq 2 qp)] [] [("befall",bM),("ask_ground",bW),("first_mark",bY),("living",bG)] []=some oG:=by kernel_rfl
theorem UW:rY ["self","beast","place","found"] FP [("Deepest",.exc),("GREATEST_DEPTH",.con cV),("NoPlace",.exc),("PLACES",.con jd)] ["len"] [("befall",bM),("living",bG)] []=some jk:=by kernel_rfl
theorem Xh:rX ["self","mother","number","beast"] JZ [] [] [("all_living",dR),("known",fJ)] []=some vR:=by kernel_rfl
theorem KN:rY ["self","mother","beast","number","calf"] Af [] [] [("calves",zQ),("befall",bM),("known",fJ)] []=some tM:=by kernel_rfl
theorem Tt:rY ["self","beast","buyer","found","due"] FJ [("ask_room",.fq 4 o7),("joint",.fq 2 qp),("SameOwner",.exc)] [] [("lead_calves",iJ),("befall",bM),("room",bQ),("standing_but",dh),("first_mark",bY),("need_right",aN),("need_owner",aC),("marked",bx)] []=some fP:=by kernel_rfl
theorem Vc:rY ["self","beast","ground","found","left"] Gj [("SameGround",.exc)] [] [("lead_calves",iJ),("befall",bM),("ask_ground",bW),("need_right",aN),("need",aG),("marked",bx)] []=some fM:=by kernel_rfl
theorem Xn:rY ["self","beast"] JQ [] [] [("befall",bM),("living",bG)] []=some rC:=by kernel_rfl
theorem abY:rX ["rows","room","tidy","at","row","greater"] RG [("meet",.fq 3 rF),("tidied",.fq 1 qU)] ["enumerate"] [] []=some Jw:=by kernel_rfl
theorem Kz:rX ["self","ground","other","room"] Aj [("clashing",.fq 2 uW)] ["max"] [("standing",bO),("room",bQ)] []=some tO:=by kernel_rfl
theorem NP:rY ["self","grounds","circle","ground"] BK [] ["tuple"] [] []=some vm:=by kernel_rfl
theorem Tf:rY ["self","ground","other","ones","others"] DR [("Together",.exc)] ["sorted"] [("enclose",gQ),("together",bB)] []=some sV:=by kernel_rfl
theorem Rb:rY ["self","ground","other","pairs","row","greater"] DQ [("Clash",.exi ["ones","others","ear"]),("joint",.fq 2 qp),("Together",.exc)] [] [("unite",wJ),("quarrels",nO),("together",bV),("need",aG)] []=some jB:=by kernel_rfl
theorem U8:rY ["self","ground","left","near"] Hz [("Alone",.exc)] [] [("enclose",gQ),("together",bB)] []=some ql:=by kernel_rfl
theorem Uj:rY ["self","ground"] GD [] [] [("part",oM)] []=some qj:=by kernel_rfl
theorem Ko:rY ["self","elder","heir","owner","ground","mark"] Ar [] [] [] []=some uf:=by kernel_rfl
theorem XJ:rX ["self","owner","number","beast"] Kl [] [] [("all_living",dR)] []=some CN:=by kernel_rfl
theorem NZ:rY ["self","elder","heir","passed","number","beast"] BR [("SameOwner",.exc)] [] [("befall",bM),("owned",Bu),("hand_over",rR),("need_owner",aC)] []=some jN:=by kernel_rfl
theorem aaI:rX ["kind","part","greatest"] Og [("PLACES",.con jd),("GREATEST_PART",.con oW),("is_ear",.fq 1 ux)] ["isinstance","int","len","tuple"] [] []=some vo:=by kernel_rfl
theorem akB:rX ["deed","shape","parts","kind","part"] aeg [("part_fits",.fq 2 iQ),("SHAPES",.dic (Aa zP))] ["all","zip","len"] [] []=some Z8:=by kernel_rfl
theorem Ys:rY ["self","deed","word","parts"] LQ [("BadDeed",.exc),("fits",.fq 1 GP)] [] [("new_heir",sG),("pass_on",tX),("part",yh),("unite",wC),("die",zf),("move",yG),("sell",yI),("tear",yK),("cut",zB),("bear",xO),("bring",wF),("leave",wg),("enrol",wH),("new_ground",pX),("new_owner",iz)] []=some cX:=by kernel_rfl
theorem aiy:rY ["_law_house","_law_deed_here","_law_counts","_law_told","_law_owners","_law_grounds","_law_beasts"] aeO [("CommonError",.exc)] [] [("do",rH)] []=some Lk:=by kernel_rfl
theorem ajx:rX ["_law_ear_here","_law_figures","_law_found","_law_depth","_law_figure","_law_more"] adi [] ["tuple","zip","max","min"] [] ["_law_found"]=some XR:=by kernel_rfl
theorem adl:rX ["_law_figures","_law_mode","_law_base"] WK [("_law_ear_by",.fq 2 mY),("_law_near",.fq 2 Ax)] [] [] []=some KH:=by kernel_rfl
theorem alW:rX ["_law_figure","_law_many","_law_sure"] agd [] ["max"] [] []=some Xp:=by kernel_rfl
theorem ajb:rX ["_law_word","_law_one","_law_two","_law_parts","_law_counts","_law_base","_law_sure","_law_mark"] adu [("_law_ref",.fq 3 jU),("_law_mark_by",.fq 3 wU)] ["int"] [] []=some jW:=by kernel_rfl
theorem aky:rY ["_law_house","_law_cells","_law_head","_law_counts","_law_base","_law_begun_here","_law_at","_law_cell_here","_law_parts","_law_word","_law_one","_law_two","_law_k"] adJ [("_law_done",.fg 3 rJ),("_law_deed",.fq 6 gU),("_law_word_by",.fq 1 Am),("_law_row",.fq 3 qR),("_law_begun",.fq 1 vB),("_law_ear",.fq 1 Jk)] ["range","enumerate","len"] [] []=some RP:=by kernel_rfl
theorem acV:rX ["_law_ear_here","_law_figures","_law_many","_law_found","_law_figure"] Wn [] ["tuple","list"] [] ["_law_found"]=some Lq:=by kernel_rfl
theorem ahG:rX ["_law_found"] aa2 [] ["isinstance","bool","int"] [] []=some Vf:=by kernel_rfl
theorem akc(r:Mo->List Dat->Out Dat):rd ⟨["_law_found","_law_due","_law_one","_law_other"],defScope QD,[("_law_like",.fq 2 r),("_law_whole",.fq 1 Gg)],["zip","len","isinstance","list","tuple","str","int"],⟨[],kE,xmH,dfH,Wg⟩,[],true⟩ (defBody QD)=some (Ht r):=by kernel_rfl
theorem afX:rX ["shallow","deep","low","high"] Z4 [] ["all","zip"] [] []=some Qg:=by kernel_rfl
theorem aaz:rX ["ear","rows","room","holder","mark"] Oi [("lacks",.fq 2 oE),("deeper",.fq 2 yW)] ["tuple","sorted"] [] []=some Fg:=by kernel_rfl
theorem Ry:rX ["self","ground","ear"] DN [("owners_of",.fq 3 vA),("need_ear",.fq 1 mj)] [] [("room",bQ),("standing",bO),("need",aG)] []=some yL:=by kernel_rfl
theorem aiZ:rX ["_law_script","_law_k"] adk [] ["len"] [] []=some XS:=by kernel_rfl
theorem alB:rX ["_law_house","_law_ground","_law_ear_here","_law_told"] agh [] ["len","isinstance","tuple"] [("whose",j8)] []=some ab8:=by kernel_rfl
theorem aey:rX ["_law_stand","_law_ground","_law_one"] Wf [] ["max"] [] []=some Mu:=by kernel_rfl
theorem alE:rX ["_law_one","_law_other","_law_a","_law_b"] agi [] ["tuple","zip","max"] [] []=some acp:=by kernel_rfl
theorem aak:rX ["_law_ear_here","_law_cell_here","_law_figures"] N8 [("_law_ear_by",.fq 2 mY),("_law_near",.fq 2 Ax),("_law_row",.fq 3 qR)] [] [] []=some Ac:=by kernel_rfl
theorem ale:rY ["_law_script","_law_house","_law_head","_law_cell_here","_law_stand","_law_at","_law_one","_law_other","_law_marked","_law_ear_here","_law_row_here"] Nu [("_law_like",.fq 2 (pQ 10)),("_law_torn_by",.fq 3 Ak),("_law_room_of",.fq 2 Az),("_law_row",.fq 3 qR),("_law_cell",.fq 2 vJ),("_law_few",.fq 3 Eb),("_law_top",.fq 2 HJ),("_law_other_ear",.fq 2 rK),("_law_ear",.fq 1 Jk),("_law_play",.fg 3 Gf),("Commons",.cls 0 qb)] ["len","range","abs"] [("whose",j8),("look",tD)] []=some Xq:=by kernel_rfl
structure Top(w:World)(K:aqV)(mg:Str->Option Value):Prop where
 ex:∃h:Heap,K.In h/\h.Ns mainGlobals mg
 c:Np fa fn tbs exB w K
abbrev aj(w:World)(K:aqV):aR:=oV w K xsH kE
section
variable{P:Program}{w:World}{K:aqV}{mg:Str->Option Value}{base:Heap}{k:Nat}(T:Top w K mg)
include T
theorem Top.glo(i:Nat){x:Str}(h:fa[i]?=some (.glo x):=by rfl):mg x=some (.ref (He.ga K x)):=by
 obtain⟨_,X,G⟩:=T.ex
 exact He.glo_ok X G (T.c.pG i h)
theorem Top.free(i:Nat){x:Str}(h:fa[i]?=some (.free x):=by rfl):mg x=none:=by
 obtain⟨_,X,G⟩:=T.ex
 exact He.free_ok X G (T.c.pG i h)
theorem Top.int(i:Nat){x:Str}{j:Int}(h:fa[i]?=some (.int x j):=by rfl):∃t,mg x=some (.int j t):=by
 obtain⟨_,X,G⟩:=T.ex
 exact He.int_ok X G (T.c.pG i h)
theorem Top.str(i:Nat){x j:Str}(h:fa[i]?=some (.str x j):=by rfl):∃t,mg x=some (.str j t):=by
 obtain⟨_,X,G⟩:=T.ex
 exact He.str_ok X G (T.c.pG i h)
theorem wj:bh P w K mg base (aj w K) k "GREATEST_DEPTH" (.con cV):=by
 obtain⟨t,h⟩:=T.int 152
 exact KD h
theorem Tq:bh P w K mg base (aj w K) k "FEWEST_EXTRA" (.con jh):=by
 obtain⟨t,h⟩:=T.int 153
 exact KD h
theorem Zk:bh P w K mg base (aj w K) k "MOST_EXTRA" (.con lA):=by
 obtain⟨t,h⟩:=T.int 154
 exact KD h
theorem Ig:bh P w K mg base (aj w K) k "GREATEST_ALLOWANCE" (.con iw):=by
 obtain⟨t,h⟩:=T.int 155
 exact KD h
theorem Pa:bh P w K mg base (aj w K) k "PLACES" (.con jd):=acZ (T.glo 156) (fun H=>He.tupB_ok (He.ba (He.ba T.c.more).1).2 H) rfl rfl
theorem S9:bh P w K mg base (aj w K) k "BARE_EAR" (.con jF):=acZ (T.glo 157) (fun H=>He.tupB_ok (He.ba T.c.more).2 H) rfl rfl
theorem RQ:bh P w K mg base (aj w K) k "GREATEST_PART" (.con oW):=by
 obtain⟨t,h⟩:=T.int 158
 exact KD h
theorem ae7:bh P w K mg base (aj w K) k "SHAPES" (.dic (Aa zP)):=aj2 (T.glo 151) (He.ba (He.ba (He.ba T.c.more).1).1).2 (T.c.t.tab 0)
theorem ab7:bh P w K mg base (aj w K) k "NoGround" .exc:=iY (by rfl) (T.glo 108) (T.c.pG 109)
theorem aej:bh P w K mg base (aj w K) k "NoOwner" .exc:=iY (by rfl) (T.glo 110) (T.c.pG 111)
theorem Wx:bh P w K mg base (aj w K) k "NoRight" .exc:=iY (by rfl) (T.glo 112) (T.c.pG 113)
theorem QM:bh P w K mg base (aj w K) k "HasRight" .exc:=iY (by rfl) (T.glo 114) (T.c.pG 115)
theorem acw:bh P w K mg base (aj w K) k "NoneFree" .exc:=iY (by rfl) (T.glo 116) (T.c.pG 117)
theorem abO:bh P w K mg base (aj w K) k "BadExtra" .exc:=iY (by rfl) (T.glo 118) (T.c.pG 119)
theorem Um:bh P w K mg base (aj w K) k "BadAllowance" .exc:=iY (by rfl) (T.glo 120) (T.c.pG 121)
theorem afW:bh P w K mg base (aj w K) k "BadEar" .exc:=iY (by rfl) (T.glo 123) (T.c.pG 124)
theorem akp:bh P w K mg base (aj w K) k "Bare" .exc:=iY (by rfl) (T.glo 125) (T.c.pG 126)
theorem aad:bh P w K mg base (aj w K) k "StillThere" .exc:=iY (by rfl) (T.glo 127) (T.c.pG 128)
theorem aew:bh P w K mg base (aj w K) k "NoBeast" .exc:=iY (by rfl) (T.glo 129) (T.c.pG 130)
theorem ajQ:bh P w K mg base (aj w K) k "Dead" .exc:=iY (by rfl) (T.glo 131) (T.c.pG 132)
theorem ab0:bh P w K mg base (aj w K) k "Unmarked" .exc:=iY (by rfl) (T.glo 133) (T.c.pG 134)
theorem aek:bh P w K mg base (aj w K) k "Deepest" .exc:=iY (by rfl) (T.glo 135) (T.c.pG 136)
theorem acI:bh P w K mg base (aj w K) k "NoPlace" .exc:=iY (by rfl) (T.glo 137) (T.c.pG 138)
theorem Oc:bh P w K mg base (aj w K) k "SameOwner" .exc:=iY (by rfl) (T.glo 139) (T.c.pG 140)
theorem Yp:bh P w K mg base (aj w K) k "SameGround" .exc:=iY (by rfl) (T.glo 141) (T.c.pG 142)
theorem RK:bh P w K mg base (aj w K) k "Together" .exc:=iY (by rfl) (T.glo 143) (T.c.pG 144)
theorem agL:bh P w K mg base (aj w K) k "Alone" .exc:=iY (by rfl) (T.glo 145) (T.c.pG 146)
theorem ada:bh P w K mg base (aj w K) k "BadDeed" .exc:=iY (by rfl) (T.glo 147) (T.c.pG 148)
theorem Xa:bh P w K mg base (aj w K) k "CommonError" .exc:=iY (by rfl) (T.glo 149) (T.c.pG 150)
theorem Top.agb:Lz K kE=true:=(He.ba (He.ba (He.ba (He.ba (He.ba (He.ba T.c.more).1).1).1).1).1).2
theorem Top.xf:(Wg.all fun p=>xsH.contains p.1&&Uk K p.1 p.2)=true:=(He.ba (He.ba (He.ba (He.ba T.c.more).1).1).1).2
theorem Top.hs{Ms:List (Str×List (Str×MV))}(h:Fd P w K mg base (aj w K) k Ms):Us P w K mg base (aj w K) k ⟨Ms,kE,xmH,dfH,Wg⟩:=alQ h T.agb (He.ba (He.ba (He.ba (He.ba (He.ba T.c.more).1).1).1).1).2 (by rfl) T.xf
theorem Top.cls{c:Str}{fs:List Str}(h:kE.lookup c=some fs:=by rfl):Cls K (He.ga K c):=(Y5 T.agb h).1
local macro_rules | `(tactic| nofun)=>`(tactic| first | (exact fun _ _ _ _ _ _ us hl=>match us,hl with | [_],_=>rfl) | (exact fun _ _ _ _ _ _ us hl=>match us,hl with | [_,_],_=>rfl) | (exact fun _ _ _ _ _ _ us hl=>match us,hl with | [_,_,_],_=>rfl) | (exact fun _ _ _ _ _ _ us hl=>match us,hl with | [_,_,_,_],_=>rfl) | (exact fun _ _ _ _ _ _ us hl=>match us,hl with | [_,_,_,_,_],_=>rfl) | (exact fun _ _ _ _ _ _ us hl=>match us,hl with | [_,_,_,_,_,_],_=>rfl) | (exact fun _ _ _ _ _ _ us hl=>match us,hl with | [_,_,_,_,_,_,_],_=>rfl) | (exact fun _ _ _ _ _ _ us hl=>match us,hl with | [_,_,_,_,_,_,_,_],_=>rfl))
theorem vQ(i j:Nat){x:Str}{k0:Nat}(hk:k0+1<=k){st:Stmt}{N ps ml B:List Str}{G:List (Str×GV)}{Ms:List (Str×List (Str×MV))}{body:SF}(h:rX N st G B Ms ml=some body)(g:CJ P w K mg base (aj w K) k0 G)(b:Dr mg B)(ms:Fd P w K mg base (aj w K) k0 Ms)(hi:fn[i]?=some (dF x st):=by rfl)(hj:fa[j]?=some (.glo x):=by rfl)(S:FnScope N ps (defScope st):=by exact⟨rfl,rfl,rfl,by decide +kernel,rfl,by decide +kernel,by decide +kernel⟩)(hb:∀(kV doc pm:Value) (an:Option Addr) (cdv ct:Value) (us:List Value),us.length=ps.length->bindArgs (PySem.W.fnOf x x (defArgs st) (defBody st) (defScope st) .none kV doc pm an cdv ct) ⟨us,[]⟩=pure (ps.zip us):=by nofun):bh P w K mg base (aj w K) k x (.fq ps.length (mQ N.length body)):=by
 obtain⟨fd,F⟩:=T.c.VN i hi
 exact afY hk (T.glo j hj) F.kp (FunD.bindsN (ps:=ps) F hb) (Yb (Dy F) S g b (T.hs ms) h)
theorem wQ(i j:Nat){c m q:Str}{k0:Nat}(hk:k0+1<=k){st:Stmt}{N ps ml B:List Str}{G:List (Str×GV)}{Ms:List (Str×List (Str×MV))}{body:SF}(h:rX N st G B Ms ml=some body)(g:CJ P w K mg base (aj w K) k0 G)(b:Dr mg B)(ms:Fd P w K mg base (aj w K) k0 Ms)(hi:fn[i]?=some (dM c m q st):=by rfl)(hj:fa[j]?=some (.meth c m):=by rfl)(hx:xsH.contains c=true:=by rfl){fs:List Str}(hc:kE.lookup c=some fs:=by rfl)(hf:((kE.lookup c).getD []).contains m=false:=by rfl)(S:FnScope N ps (defScope st):=by exact⟨rfl,rfl,rfl,by decide +kernel,rfl,by decide +kernel,by decide +kernel⟩)(hb:∀(kV doc pm:Value) (an:Option Addr) (cdv ct:Value) (us:List Value),us.length=ps.length->bindArgs (PySem.W.fnOf m q (defArgs st) (defBody st) (defScope st) .none kV doc pm an cdv ct) ⟨us,[]⟩=pure (ps.zip us):=by nofun):bZ P w K mg base (aj w K) k c m (.q ps.length (mQ N.length body)):=by
 obtain⟨fd,F⟩:=T.c.VN i hi
 exact anx hk hx (T.cls hc) (T.c.pG j hj) hf (FunD.bindsN (ps:=ps) F hb) (Yb (Dy F) S g b (T.hs ms) h)
theorem vG(i j:Nat){x:Str}{k0:Nat}(hk:k0+1<=k){st:Stmt}{N ps ml B:List Str}{G:List (Str×GV)}{Ms:List (Str×List (Str×MV))}{body:SF}(h:rY N st G B Ms ml=some body)(g:CJ P w K mg base (aj w K) k0 G)(b:Dr mg B)(ms:Fd P w K mg base (aj w K) k0 Ms)(hi:fn[i]?=some (dF x st):=by rfl)(hj:fa[j]?=some (.glo x):=by rfl)(S:FnScope N ps (defScope st):=by exact⟨rfl,rfl,rfl,by decide +kernel,rfl,by decide +kernel,by decide +kernel⟩)(hb:∀(kV doc pm:Value) (an:Option Addr) (cdv ct:Value) (us:List Value),us.length=ps.length->bindArgs (PySem.W.fnOf x x (defArgs st) (defBody st) (defScope st) .none kV doc pm an cdv ct) ⟨us,[]⟩=pure (ps.zip us):=by nofun):bh P w K mg base (aj w K) k x (.fg ps.length (mG N.length body)):=by
 obtain⟨fd,F⟩:=T.c.VN i hi
 exact anf hk (T.glo j hj) F.kp (FunD.bindsN (ps:=ps) F hb) (Q7 (Dy F) S g b (T.hs ms) h)
theorem wG(i j:Nat){c m q:Str}{k0:Nat}(hk:k0+1<=k){st:Stmt}{N ps ml B:List Str}{G:List (Str×GV)}{Ms:List (Str×List (Str×MV))}{body:SF}(h:rY N st G B Ms ml=some body)(g:CJ P w K mg base (aj w K) k0 G)(b:Dr mg B)(ms:Fd P w K mg base (aj w K) k0 Ms)(hi:fn[i]?=some (dM c m q st):=by rfl)(hj:fa[j]?=some (.meth c m):=by rfl)(hx:xsH.contains c=true:=by rfl){fs:List Str}(hc:kE.lookup c=some fs:=by rfl)(hf:((kE.lookup c).getD []).contains m=false:=by rfl)(S:FnScope N ps (defScope st):=by exact⟨rfl,rfl,rfl,by decide +kernel,rfl,by decide +kernel,by decide +kernel⟩)(hb:∀(kV doc pm:Value) (an:Option Addr) (cdv ct:Value) (us:List Value),us.length=ps.length->bindArgs (PySem.W.fnOf m q (defArgs st) (defBody st) (defScope st) .none kV doc pm an cdv ct) ⟨us,[]⟩=pure (ps.zip us):=by nofun):bZ P w K mg base (aj w K) k c m (.g ps.length (mG N.length body)):=by
 obtain⟨fd,F⟩:=T.c.VN i hi
 exact anh hk hx (T.cls hc) (T.c.pG j hj) hf (FunD.bindsN (ps:=ps) F hb) (Q7 (Dy F) S g b (T.hs ms) h)
theorem vI(i j l:Nat){c q:Str}{n:Nat}{k0:Nat}{st:Stmt}{N ps ml B:List Str}{G:List (Str×GV)}{Ms:List (Str×List (Str×MV))}{body:SF}(h:rY N st G B Ms ml=some body)(g:CJ P w K mg base (aj w K) k0 G)(b:Dr mg B)(ms:Fd P w K mg base (aj w K) k0 Ms)(hk:k0+1+1<=k)(hi:fn[i]?=some (dM c "__init__" q st):=by rfl)(hj:fa[j]?=some (.mkr c):=by rfl)(hg:fa[l]?=some (.glo c):=by rfl)(hx:xsH.contains c=true:=by rfl){fs:List Str}(hc:kE.lookup c=some fs:=by rfl)(hp:ps.length=n+1:=by rfl)(S:FnScope N ps (defScope st):=by exact⟨rfl,rfl,rfl,by decide +kernel,rfl,by decide +kernel,by decide +kernel⟩)(hb:∀(kV doc pm:Value) (an:Option Addr) (cdv ct:Value) (us:List Value),us.length=ps.length->bindArgs (PySem.W.fnOf "__init__" q (defArgs st) (defBody st) (defScope st) .none kV doc pm an cdv ct) ⟨us,[]⟩=pure (ps.zip us):=by nofun):bh P w K mg base (aj w K) k c (.cls n (mG N.length body)):=by
 obtain⟨fd,F⟩:=T.c.VN i hi
 exact ak4 hk hx (T.glo l hg) (T.cls hc) (T.c.pG j hj) hp (FunD.bindsN (ps:=ps) F hb) (Q7 (Dy F) S g b (T.hs ms) h)
theorem abl(hk:2<=k):bh P w K mg base (aj w K) k "Clash" (.exi ["ones","others","ear"]):=by
 have ho:Uk K "Clash" ["ones","others","ear"]=true:=(He.ba (arl.mp T.xf _ (show(("Clash" : Str),(["ones","others","ear"]:List Str))∈Wg by simp[Wg]))).2
 obtain⟨o1,o2,o3,o4,o5⟩:=Ve ho
 obtain⟨fd,F⟩:=T.c.VN 103
 have b:=FunD.bindsN (ps:=["self","ones","others","ear"]) F fun _ _ _ _ _ _ us hl=>match us,hl with|[_,_,_,_],_=>rfl
 exact akM hk (by rfl) (T.glo 122) ho rfl b (aen (Dy F) Xe o1 (by rfl) (by decide) (o5 _ (by decide)) (o5 _ (by decide)) (o5 _ (by decide)))
theorem aeB(hk:2<=k:=by omega):bh P w K mg base (aj w K) k "Grounds" (.cls 0 uJ):=vI T 0 0 103 (ps:=["self"]) TX trivial trivial trivial hk
theorem aft(hk:2<=k:=by omega):bh P w K mg base (aj w K) k "Rights" (.cls 0 vY):=vI T 1 1 104 (ps:=["self"]) Xd trivial trivial trivial hk
theorem alb(hk:2<=k:=by omega):bh P w K mg base (aj w K) k "Herd" (.cls 0 zV):=vI T 2 2 105 (ps:=["self"]) aap trivial trivial trivial hk
theorem aeD(hk:4<=k:=by omega):bh P w K mg base (aj w K) k "Commons" (.cls 0 qb):=vI T 3 3 106 (ps:=["self"]) Ua ⟨alb T,aft T,aeB T,trivial⟩ trivial trivial hk
theorem Hl(hk:1<=k:=by omega):bZ P w K mg base (aj w K) k "Beast" "stand" (.q 1 vM):=wQ T 4 4 hk (ps:=["self"]) WT trivial trivial trivial
theorem Xg(hk:2<=k:=by omega):bZ P w K mg base (aj w K) k "Beast" "told" (.q 1 yu):=wQ T 5 5 hk (ps:=["self"]) Ye trivial ⟨T.free 159,trivial⟩ ⟨⟨Hl T,trivial⟩,trivial⟩
theorem NQ(hk:1<=k:=by omega):bZ P w K mg base (aj w K) k "Commons" "owners" (.q 1 qT):=wQ T 6 6 hk (ps:=["self"]) Pu trivial ⟨T.free 160,trivial⟩ trivial
theorem Mr(hk:1<=k:=by omega):bZ P w K mg base (aj w K) k "Rights" "all_rows" (.q 1 pJ):=wQ T 7 7 hk (ps:=["self"]) Nz trivial ⟨T.free 160,trivial⟩ trivial
theorem yd(hk:1<=k:=by omega):bZ P w K mg base (aj w K) k "Grounds" "many" (.q 1 pO):=wQ T 8 8 hk (ps:=["self"]) T9 trivial ⟨T.free 161,trivial⟩ trivial
theorem Uy(hk:2<=k:=by omega):bZ P w K mg base (aj w K) k "Grounds" "has" (.q 2 vW):=wQ T 9 9 hk (ps:=["self","ground"]) W6 trivial trivial ⟨⟨yd T,trivial⟩,trivial⟩
theorem gD(hk:3<=k:=by omega):bZ P w K mg base (aj w K) k "Grounds" "need" (.q 2 uQ):=wQ T 10 10 hk (ps:=["self","ground"]) Ui ⟨ab7 T,trivial⟩ trivial ⟨⟨Uy T,trivial⟩,trivial⟩
theorem yc(hk:4<=k:=by omega):bZ P w K mg base (aj w K) k "Grounds" "allowance" (.q 2 j5):=wQ T 11 11 hk (ps:=["self","ground"]) Ke trivial trivial ⟨⟨gD T,trivial⟩,trivial⟩
theorem nQ(hk:4<=k:=by omega):bZ P w K mg base (aj w K) k "Grounds" "together" (.q 2 lB):=wQ T 12 12 hk (ps:=["self","ground"]) Lp trivial ⟨T.free 160,trivial⟩ ⟨⟨gD T,trivial⟩,trivial⟩
theorem sJ(hk:5<=k:=by omega):bZ P w K mg base (aj w K) k "Commons" "together" (.q 2 lu):=wQ T 13 13 hk (ps:=["self","ground"]) KQ trivial trivial ⟨⟨nQ T,trivial⟩,trivial⟩
theorem R9(hk:6<=k:=by omega):bZ P w K mg base (aj w K) k "Commons" "look" (.q 1 pW):=wQ T 14 14 hk (ps:=["self"]) Tw trivial ⟨T.free 162,T.free 159,trivial⟩ ⟨⟨Mr T,trivial⟩,⟨NQ T,trivial⟩,⟨Xg T,trivial⟩,⟨yd T,trivial⟩,⟨sJ T,trivial⟩,⟨yc T,trivial⟩,trivial⟩
theorem XC(hk:1<=k:=by omega):bh P w K mg base (aj w K) k "_law_row" (.fq 3 qR):=vQ T 15 15 hk (ps:=["_law_cell_here","_law_many","_law_base"]) alr trivial ⟨T.free 162,T.free 163,trivial⟩ trivial
theorem O8(hk:1<=k:=by omega):bh P w K mg base (aj w K) k "_law_ear_by" (.fq 2 mY):=vQ T 16 16 hk (ps:=["_law_figures","_law_mode"]) afd trivial ⟨T.free 159,T.free 164,trivial⟩ trivial
theorem agt(hk:2<=k:=by omega):bh P w K mg base (aj w K) k "_law_ear" (.fq 1 Jk):=vQ T 17 17 hk (ps:=["_law_cell_here"]) amm ⟨O8 T,XC T,trivial⟩ trivial trivial
theorem aaG(hk:1<=k:=by omega):bh P w K mg base (aj w K) k "_law_begun" (.fq 1 vB):=vQ T 18 18 hk (ps:=["_law_head"]) aan trivial trivial trivial
theorem aea(hk:1<=k:=by omega):bh P w K mg base (aj w K) k "_law_word_by" (.fq 1 Am):=vQ T 19 19 hk (ps:=["_law_figure"]) acL trivial trivial trivial
theorem gH(hk:1<=k:=by omega):bZ P w K mg base (aj w K) k "Commons" "need_owner" (.q 2 jG):=wQ T 20 20 hk (ps:=["self","owner"]) Jr ⟨aej T,trivial⟩ trivial trivial
theorem sY(hk:1<=k:=by omega):bZ P w K mg base (aj w K) k "Rights" "marks" (.q 3 uP):=wQ T 21 21 hk (ps:=["self","owner","ground"]) Uc trivial trivial trivial
theorem J9(hk:2<=k:=by omega):bZ P w K mg base (aj w K) k "Rights" "has_right" (.q 3 o9):=wQ T 22 22 hk (ps:=["self","owner","ground"]) KR trivial ⟨T.free 161,trivial⟩ ⟨⟨sY T,trivial⟩,trivial⟩
theorem ji(hk:3<=k:=by omega):bZ P w K mg base (aj w K) k "Commons" "need_right" (.q 3 mD):=wQ T 23 23 hk (ps:=["self","owner","ground"]) Ja ⟨Wx T,trivial⟩ trivial ⟨⟨J9 T,trivial⟩,trivial⟩
theorem yg(hk:1<=k:=by omega):bZ P w K mg base (aj w K) k "Commons" "new_owner" (.g 1 iI):=wG T 24 24 hk (ps:=["self"]) J8 trivial trivial trivial
theorem yN(hk:1<=k:=by omega):bZ P w K mg base (aj w K) k "Rights" "add_right" (.g 4 jo):=wG T 25 25 hk (ps:=["self","owner","ground","mark"]) Mg ⟨QM T,trivial⟩ trivial trivial
theorem aki(hk:1<=k:=by omega):bh P w K mg base (aj w K) k "torn" (.fq 2 Lh):=vQ T 26 26 hk (ps:=["ear","many"]) akk ⟨wj T,trivial⟩ ⟨T.free 162,T.free 165,trivial⟩ trivial
theorem Va(hk:1<=k:=by omega):bh P w K mg base (aj w K) k "lacks" (.fq 2 oE):=vQ T 27 27 hk (ps:=["one","other"]) ag1 trivial ⟨T.free 166,T.free 167,trivial⟩ trivial
theorem aav(hk:2<=k:=by omega):bh P w K mg base (aj w K) k "offspring" (.fq 2 vH):=vQ T 28 28 hk (ps:=["mark","extra"]) aaA ⟨Va T,aki T,trivial⟩ trivial trivial
theorem ahF(hk:2<=k:=by omega):bh P w K mg base (aj w K) k "apart" (.fq 2 Gp):=vQ T 29 29 hk (ps:=["one","other"]) ahT ⟨Va T,trivial⟩ ⟨T.free 164,trivial⟩ trivial
theorem Y8(hk:3<=k:=by omega):bh P w K mg base (aj w K) k "meet" (.fq 3 rF):=vQ T 30 30 hk (ps:=["one","other","room"]) ajO ⟨ahF T,trivial⟩ trivial trivial
theorem ZW(hk:4<=k:=by omega):bh P w K mg base (aj w K) k "first_free" (.fq 4 pY):=vQ T 31 31 hk (ps:=["mark","extra","rows","room"]) Yi ⟨acw T,aav T,Y8 T,trivial⟩ ⟨T.free 168,trivial⟩ trivial
theorem pU(hk:2<=k:=by omega):bZ P w K mg base (aj w K) k "Commons" "first_mark" (.q 3 mF):=wQ T 32 32 hk (ps:=["self","owner","ground"]) Io trivial trivial ⟨⟨sY T,trivial⟩,trivial⟩
theorem Oz(hk:1<=k:=by omega):bh P w K mg base (aj w K) k "tidied" (.fq 1 qU):=vQ T 33 33 hk (ps:=["rows"]) aeT trivial ⟨T.free 169,T.free 170,trivial⟩ trivial
theorem uh(hk:1<=k:=by omega):bZ P w K mg base (aj w K) k "Herd" "all_living" (.q 1 pH):=wQ T 34 34 hk (ps:=["self"]) NT trivial ⟨T.free 171,trivial⟩ trivial
theorem DG(hk:2<=k:=by omega):bZ P w K mg base (aj w K) k "Herd" "grazing" (.q 2 qd):=wQ T 35 35 hk (ps:=["self","grounds"]) Ur trivial trivial ⟨⟨uh T,trivial⟩,trivial⟩
theorem JC(hk:1<=k:=by omega):bZ P w K mg base (aj w K) k "Rights" "in_grounds" (.q 2 nM):=wQ T 36 36 hk (ps:=["self","grounds"]) Ka trivial trivial trivial
theorem u5(hk:6<=k:=by omega):bZ P w K mg base (aj w K) k "Commons" "standing_but" (.q 3 iW):=wQ T 37 37 hk (ps:=["self","left_out","ground"]) Fp ⟨Oz T,trivial⟩ trivial ⟨⟨JC T,trivial⟩,⟨DG T,trivial⟩,⟨sJ T,trivial⟩,trivial⟩
theorem nJ(hk:7<=k:=by omega):bZ P w K mg base (aj w K) k "Commons" "standing" (.q 2 lE):=wQ T 38 38 hk (ps:=["self","ground"]) K8 trivial trivial ⟨⟨u5 T,trivial⟩,trivial⟩
theorem RN(hk:5<=k:=by omega):bZ P w K mg base (aj w K) k "Grounds" "room" (.q 2 pZ):=wQ T 39 39 hk (ps:=["self","ground"]) Tz trivial ⟨T.free 164,trivial⟩ ⟨⟨nQ T,trivial⟩,⟨yc T,trivial⟩,trivial⟩
theorem oR(hk:6<=k:=by omega):bZ P w K mg base (aj w K) k "Commons" "room" (.q 2 pP):=wQ T 40 40 hk (ps:=["self","ground"]) Ud trivial trivial ⟨⟨RN T,trivial⟩,trivial⟩
theorem Kf(hk:8<=k:=by omega):bZ P w K mg base (aj w K) k "Commons" "new_heir" (.g 4 cW):=wG T 41 41 hk (ps:=["self","elder","ground","extra"]) Mp ⟨ZW T,abO T,Tq T,Zk T,trivial⟩ trivial ⟨⟨yN T,trivial⟩,⟨yg T,trivial⟩,⟨oR T,trivial⟩,⟨nJ T,trivial⟩,⟨pU T,trivial⟩,⟨ji T,trivial⟩,⟨gD T,trivial⟩,⟨gH T,trivial⟩,trivial⟩
theorem Gx(hk:2<=k:=by omega):bZ P w K mg base (aj w K) k "Grounds" "add_ground" (.g 2 fD):=wG T 42 42 hk (ps:=["self","allowance"]) JD ⟨Um T,Ig T,trivial⟩ trivial ⟨⟨yd T,trivial⟩,trivial⟩
theorem Gm(hk:3<=k:=by omega):bZ P w K mg base (aj w K) k "Commons" "new_ground" (.g 2 ig):=wG T 43 43 hk (ps:=["self","allowance"]) Jg trivial trivial ⟨⟨Gx T,trivial⟩,trivial⟩
theorem aei(hk:4<=k:=by omega):bh P w K mg base (aj w K) k "barring" (.fq 4 Bf):=vQ T 44 44 hk (ps:=["owner","ear","rows","room"]) aee ⟨Y8 T,Oz T,trivial⟩ trivial trivial
theorem MJ(hk:1<=k:=by omega):bh P w K mg base (aj w K) k "joint" (.fq 2 qp):=vQ T 45 45 hk (ps:=["one","other"]) ahD trivial ⟨T.free 159,T.free 167,T.free 164,trivial⟩ trivial
theorem Td(hk:5<=k:=by omega):bh P w K mg base (aj w K) k "ask_room" (.fq 4 o7):=vQ T 46 46 hk (ps:=["owner","ear","rows","room"]) acD ⟨abl T (by decide),MJ T,aei T,trivial⟩ trivial trivial
theorem qm(hk:8<=k:=by omega):bZ P w K mg base (aj w K) k "Commons" "ask_ground" (.q 4 iy):=wQ T 47 47 hk (ps:=["self","owner","ear","ground"]) Ij ⟨Td T,trivial⟩ trivial ⟨⟨oR T,trivial⟩,⟨nJ T,trivial⟩,trivial⟩
theorem aae(hk:1<=k:=by omega):bh P w K mg base (aj w K) k "is_ear" (.fq 1 ux):=vQ T 48 48 hk (ps:=["parts"]) afM ⟨wj T,Pa T,trivial⟩ ⟨T.free 172,T.free 161,trivial⟩ trivial
theorem HY(hk:2<=k:=by omega):bh P w K mg base (aj w K) k "need_ear" (.fq 1 mj):=vQ T 49 49 hk (ps:=["parts"]) ab9 ⟨afW T,aae T,trivial⟩ trivial trivial
theorem Pk(hk:9<=k:=by omega):bZ P w K mg base (aj w K) k "Commons" "enrol" (.g 4 dX):=wG T 50 50 hk (ps:=["self","owner","ground","mark"]) Rz ⟨QM T,akp T,S9 T,HY T,trivial⟩ trivial ⟨⟨yN T,trivial⟩,⟨qm T,trivial⟩,⟨sY T,trivial⟩,⟨gD T,trivial⟩,⟨gH T,trivial⟩,trivial⟩
theorem T5(hk:2<=k:=by omega):bZ P w K mg base (aj w K) k "Rights" "drop" (.g 3 oF):=wG T 51 51 hk (ps:=["self","owner","ground"]) WY ⟨Wx T,trivial⟩ trivial ⟨⟨sY T,trivial⟩,trivial⟩
theorem Qt(hk:4<=k:=by omega):bZ P w K mg base (aj w K) k "Commons" "leave" (.g 3 fX):=wG T 52 52 hk (ps:=["self","owner","ground"]) Tg ⟨aad T,trivial⟩ ⟨T.free 168,trivial⟩ ⟨⟨T5 T,trivial⟩,⟨DG T,trivial⟩,⟨ji T,trivial⟩,⟨gD T,trivial⟩,⟨gH T,trivial⟩,trivial⟩
theorem BL(hk:1<=k:=by omega):bZ P w K mg base (aj w K) k "Beast" "stand_so" (.g 2 nu):=wG T 53 53 hk (ps:=["self","stand"]) O4 trivial trivial trivial
theorem ahp(hk:1<=k:=by omega):bh P w K mg base (aj w K) k "begun" (.fq 1 Cq):=vQ T 54 54 hk (ps:=["first"]) ahL ⟨S9 T,trivial⟩ trivial trivial
theorem aie(hk:3<=k:=by omega):bh P w K mg base (aj w K) k "Beast" (.cls 1 uw):=vI T 55 55 107 (ps:=["self","first"]) Yy ⟨ahp T,trivial⟩ trivial ⟨⟨BL T,trivial⟩,trivial⟩ hk
theorem BX(hk:4<=k:=by omega):bZ P w K mg base (aj w K) k "Herd" "add_beast" (.g 2 qM):=wG T 56 56 hk (ps:=["self","first"]) Qs ⟨aie T,trivial⟩ ⟨T.free 161,trivial⟩ trivial
theorem Ou(hk:5<=k:=by omega):bZ P w K mg base (aj w K) k "Commons" "bring" (.g 4 gq):=wG T 57 57 hk (ps:=["self","owner","ground","ear"]) S8 ⟨HY T,trivial⟩ trivial ⟨⟨BX T,trivial⟩,⟨ji T,trivial⟩,⟨gD T,trivial⟩,⟨gH T,trivial⟩,trivial⟩
theorem Bo(hk:1<=k:=by omega):bZ P w K mg base (aj w K) k "Herd" "known" (.q 2 lg):=wQ T 58 58 hk (ps:=["self","number"]) Z0 ⟨aew T,trivial⟩ ⟨T.free 161,trivial⟩ trivial
theorem uY(hk:2<=k:=by omega):bZ P w K mg base (aj w K) k "Herd" "living" (.q 2 qZ):=wQ T 59 59 hk (ps:=["self","number"]) Xo ⟨ajQ T,trivial⟩ trivial ⟨⟨Bo T,trivial⟩,trivial⟩
theorem zE(hk:3<=k:=by omega):bZ P w K mg base (aj w K) k "Herd" "marked" (.q 2 oH):=wQ T 60 60 hk (ps:=["self","number"]) W3 ⟨ab0 T,trivial⟩ trivial ⟨⟨uY T,trivial⟩,trivial⟩
theorem Rh(hk:5<=k:=by omega):bZ P w K mg base (aj w K) k "Commons" "bear" (.g 2 jm):=wG T 61 61 hk (ps:=["self","mother"]) Vl trivial trivial ⟨⟨BX T,trivial⟩,⟨zE T,trivial⟩,trivial⟩
theorem abF(hk:1<=k:=by omega):bh P w K mg base (aj w K) k "deepened" (.fq 2 xH):=vQ T 62 62 hk (ps:=["ear","place"]) abN trivial ⟨T.free 159,T.free 171,trivial⟩ trivial
theorem adB(hk:2<=k:=by omega):bh P w K mg base (aj w K) k "gone_on" (.fq 2 Ba):=vQ T 63 63 hk (ps:=["stand","event"]) acJ ⟨abF T,trivial⟩ trivial trivial
theorem jE(hk:3<=k:=by omega):bZ P w K mg base (aj w K) k "Beast" "befall" (.g 2 mU):=wG T 64 64 hk (ps:=["self","event"]) TQ ⟨adB T,trivial⟩ trivial ⟨⟨BL T,trivial⟩,⟨Hl T,trivial⟩,trivial⟩
theorem T8(hk:9<=k:=by omega):bZ P w K mg base (aj w K) k "Commons" "cut" (.g 2 jQ):=wG T 65 65 hk (ps:=["self","beast"]) WR ⟨MJ T,trivial⟩ trivial ⟨⟨jE T,trivial⟩,⟨qm T,trivial⟩,⟨pU T,trivial⟩,⟨uY T,trivial⟩,trivial⟩
theorem Ri(hk:4<=k:=by omega):bZ P w K mg base (aj w K) k "Commons" "tear" (.g 3 fL):=wG T 66 66 hk (ps:=["self","beast","place"]) UW ⟨aek T,wj T,acI T,Pa T,trivial⟩ ⟨T.free 161,trivial⟩ ⟨⟨jE T,trivial⟩,⟨uY T,trivial⟩,trivial⟩
theorem TY(hk:2<=k:=by omega):bZ P w K mg base (aj w K) k "Herd" "calves" (.q 2 rB):=wQ T 67 67 hk (ps:=["self","mother"]) Xh trivial trivial ⟨⟨uh T,trivial⟩,⟨Bo T,trivial⟩,trivial⟩
theorem yR(hk:4<=k:=by omega):bZ P w K mg base (aj w K) k "Herd" "lead_calves" (.g 2 oX):=wG T 68 68 hk (ps:=["self","mother"]) KN trivial trivial ⟨⟨TY T,trivial⟩,⟨jE T,trivial⟩,⟨Bo T,trivial⟩,trivial⟩
theorem Tn(hk:7<=k:=by omega):bZ P w K mg base (aj w K) k "Commons" "sell" (.g 3 dO):=wG T 69 69 hk (ps:=["self","beast","buyer"]) Tt ⟨Td T,MJ T,Oc T,trivial⟩ trivial ⟨⟨yR T,trivial⟩,⟨jE T,trivial⟩,⟨oR T,trivial⟩,⟨u5 T,trivial⟩,⟨pU T,trivial⟩,⟨ji T,trivial⟩,⟨gH T,trivial⟩,⟨zE T,trivial⟩,trivial⟩
theorem RJ(hk:9<=k:=by omega):bZ P w K mg base (aj w K) k "Commons" "move" (.g 3 dN):=wG T 70 70 hk (ps:=["self","beast","ground"]) Vc ⟨Yp T,trivial⟩ trivial ⟨⟨yR T,trivial⟩,⟨jE T,trivial⟩,⟨qm T,trivial⟩,⟨ji T,trivial⟩,⟨gD T,trivial⟩,⟨zE T,trivial⟩,trivial⟩
theorem UJ(hk:4<=k:=by omega):bZ P w K mg base (aj w K) k "Commons" "die" (.g 2 lN):=wG T 71 71 hk (ps:=["self","beast"]) Xn trivial trivial ⟨⟨jE T,trivial⟩,⟨uY T,trivial⟩,trivial⟩
theorem ab1(hk:4<=k:=by omega):bh P w K mg base (aj w K) k "clashing" (.fq 2 uW):=vQ T 72 72 hk (ps:=["rows","room"]) abY ⟨Y8 T,Oz T,trivial⟩ ⟨T.free 171,trivial⟩ trivial
theorem J5(hk:8<=k:=by omega):bZ P w K mg base (aj w K) k "Commons" "quarrels" (.q 3 kY):=wQ T 73 73 hk (ps:=["self","ground","other"]) Kz ⟨ab1 T,trivial⟩ ⟨T.free 164,trivial⟩ ⟨⟨nJ T,trivial⟩,⟨oR T,trivial⟩,trivial⟩
theorem Ai(hk:1<=k:=by omega):bZ P w K mg base (aj w K) k "Grounds" "enclose" (.g 2 lO):=wG T 74 74 hk (ps:=["self","grounds"]) NP trivial ⟨T.free 159,trivial⟩ trivial
theorem Pq(hk:5<=k:=by omega):bZ P w K mg base (aj w K) k "Grounds" "unite" (.g 3 lH):=wG T 75 75 hk (ps:=["self","ground","other"]) Tf ⟨RK T,trivial⟩ ⟨T.free 169,trivial⟩ ⟨⟨Ai T,trivial⟩,⟨nQ T,trivial⟩,trivial⟩
theorem Qp(hk:9<=k:=by omega):bZ P w K mg base (aj w K) k "Commons" "unite" (.g 3 gA):=wG T 76 76 hk (ps:=["self","ground","other"]) Rb ⟨abl T (by decide),MJ T,RK T,trivial⟩ trivial ⟨⟨Pq T,trivial⟩,⟨J5 T,trivial⟩,⟨sJ T,trivial⟩,⟨gD T,trivial⟩,trivial⟩
theorem QV(hk:5<=k:=by omega):bZ P w K mg base (aj w K) k "Grounds" "part" (.g 2 jw):=wG T 77 77 hk (ps:=["self","ground"]) U8 ⟨agL T,trivial⟩ trivial ⟨⟨Ai T,trivial⟩,⟨nQ T,trivial⟩,trivial⟩
theorem Rg(hk:6<=k:=by omega):bZ P w K mg base (aj w K) k "Commons" "part" (.g 2 kh):=wG T 78 78 hk (ps:=["self","ground"]) Uj trivial trivial ⟨⟨QV T,trivial⟩,trivial⟩
theorem Kc(hk:1<=k:=by omega):bZ P w K mg base (aj w K) k "Rights" "hand_over" (.g 3 oN):=wG T 79 79 hk (ps:=["self","elder","heir"]) Ko trivial trivial trivial
theorem W7(hk:2<=k:=by omega):bZ P w K mg base (aj w K) k "Herd" "owned" (.q 2 yC):=wQ T 80 80 hk (ps:=["self","owner"]) XJ trivial trivial ⟨⟨uh T,trivial⟩,trivial⟩
theorem K9(hk:4<=k:=by omega):bZ P w K mg base (aj w K) k "Commons" "pass_on" (.g 3 fU):=wG T 81 81 hk (ps:=["self","elder","heir"]) NZ ⟨Oc T,trivial⟩ trivial ⟨⟨jE T,trivial⟩,⟨W7 T,trivial⟩,⟨Kc T,trivial⟩,⟨gH T,trivial⟩,trivial⟩
theorem aaE(hk:2<=k:=by omega):bh P w K mg base (aj w K) k "part_fits" (.fq 2 iQ):=vQ T 82 82 hk (ps:=["kind","part"]) aaI ⟨Pa T,RQ T,aae T,trivial⟩ ⟨T.free 173,T.free 174,T.free 161,T.free 159,trivial⟩ trivial
theorem akW(hk:3<=k:=by omega):bh P w K mg base (aj w K) k "fits" (.fq 1 GP):=vQ T 83 83 hk (ps:=["deed"]) akB ⟨aaE T,ae7 T,trivial⟩ ⟨T.free 172,T.free 167,T.free 161,trivial⟩ trivial
theorem Xf(hk:10<=k:=by omega):bZ P w K mg base (aj w K) k "Commons" "do" (.g 2 cU):=wG T 84 84 hk (ps:=["self","deed"]) Ys ⟨ada T,akW T,trivial⟩ trivial ⟨⟨Kf T,trivial⟩,⟨K9 T,trivial⟩,⟨Rg T,trivial⟩,⟨Qp T,trivial⟩,⟨UJ T,trivial⟩,⟨RJ T,trivial⟩,⟨Tn T,trivial⟩,⟨Ri T,trivial⟩,⟨T8 T,trivial⟩,⟨Rh T,trivial⟩,⟨Ou T,trivial⟩,⟨Qt T,trivial⟩,⟨Pk T,trivial⟩,⟨Gm T,trivial⟩,⟨yg T,trivial⟩,trivial⟩
theorem akC(hk:11<=k:=by omega):bh P w K mg base (aj w K) k "_law_done" (.fg 3 rJ):=vG T 85 85 hk (ps:=["_law_house","_law_deed_here","_law_counts"]) aiy ⟨Xa T,trivial⟩ trivial ⟨⟨Xf T,trivial⟩,trivial⟩
theorem adt(hk:1<=k:=by omega):bh P w K mg base (aj w K) k "_law_near" (.fq 2 Ax):=vQ T 86 86 hk (ps:=["_law_ear_here","_law_figures"]) ajx trivial ⟨T.free 159,T.free 167,T.free 164,T.free 165,trivial⟩ trivial
theorem aeF(hk:2<=k:=by omega):bh P w K mg base (aj w K) k "_law_mark_by" (.fq 3 wU):=vQ T 87 87 hk (ps:=["_law_figures","_law_mode","_law_base"]) adl ⟨O8 T,adt T,trivial⟩ trivial trivial
theorem amh(hk:1<=k:=by omega):bh P w K mg base (aj w K) k "_law_ref" (.fq 3 jU):=vQ T 88 88 hk (ps:=["_law_figure","_law_many","_law_sure"]) alW trivial ⟨T.free 164,trivial⟩ trivial
theorem aj0(hk:3<=k:=by omega):bh P w K mg base (aj w K) k "_law_deed" (.fq 6 gU):=vQ T 89 89 hk (ps:=["_law_word","_law_one","_law_two","_law_parts","_law_counts","_law_base"]) ajb ⟨amh T,aeF T,trivial⟩ ⟨T.free 174,trivial⟩ trivial
theorem ajF(hk:12<=k:=by omega):bh P w K mg base (aj w K) k "_law_play" (.fg 3 Gf):=vG T 90 90 hk (ps:=["_law_house","_law_cells","_law_head"]) aky ⟨akC T,aj0 T,aea T,XC T,aaG T,agt T,trivial⟩ ⟨T.free 162,T.free 171,T.free 161,trivial⟩ trivial
theorem aeI(hk:1<=k:=by omega):bh P w K mg base (aj w K) k "_law_torn_by" (.fq 3 Ak):=vQ T 91 91 hk (ps:=["_law_ear_here","_law_figures","_law_many"]) acV trivial ⟨T.free 159,T.free 160,trivial⟩ trivial
theorem ahN(hk:1<=k:=by omega):bh P w K mg base (aj w K) k "_law_whole" (.fq 1 Gg):=vQ T 92 92 hk (ps:=["_law_found"]) ahG trivial ⟨T.free 173,T.free 175,T.free 174,trivial⟩ trivial
theorem ak3(hk:12<=k:=by omega):bh P w K mg base (aj w K) k "_law_like" (.fq 2 (pQ 10)):=by
 obtain⟨fd,F⟩:=T.c.VN 93
 have b:=FunD.bindsN (ps:=["_law_found","_law_due"]) F fun _ _ _ _ _ _ us hl=>match us,hl with|[_,_],_=>rfl
 have key:∀j:Nat,FnOk P w K mg base (L2.CX P w) (2+j) (He.ga K "_law_like") fd ["_law_found","_law_due"] (Wr K (aj w K) 2 (pQ j)):=by
  intro j
  induction j with
  |zero=>exact aj5
  |succ j ih'=>
   have ih:∀{k:Nat},2+j<=k->bh P w K mg base (aj w K) k "_law_like" (.fq 2 (pQ j)):=fun hk=>afY hk (T.glo 93) F.kp (b) ih'
   refine Yb (k:=2+j) (Dy F) ahs ?_ ?_ ?_ (akc (pQ j))
   ·exact⟨ih (aro _),ahN T,trivial⟩
   ·exact⟨T.free 167,T.free 161,T.free 173,T.free 160,T.free 159,T.free 176,T.free 174,trivial⟩
   ·exact T.hs trivial
 exact afY hk (T.glo 93) F.kp (b) (key 10)
theorem aeW(hk:1<=k:=by omega):bh P w K mg base (aj w K) k "deeper" (.fq 2 yW):=vQ T 94 94 hk (ps:=["shallow","deep"]) afX trivial ⟨T.free 172,T.free 167,trivial⟩ trivial
theorem aaw(hk:2<=k:=by omega):bh P w K mg base (aj w K) k "owners_of" (.fq 3 vA):=vQ T 95 95 hk (ps:=["ear","rows","room"]) aaz ⟨Va T,aeW T,trivial⟩ ⟨T.free 159,T.free 169,trivial⟩ trivial
theorem Dh(hk:8<=k:=by omega):bZ P w K mg base (aj w K) k "Commons" "whose" (.q 3 sU):=wQ T 96 96 hk (ps:=["self","ground","ear"]) Ry ⟨aaw T,HY T,trivial⟩ trivial ⟨⟨oR T,trivial⟩,⟨nJ T,trivial⟩,⟨gD T,trivial⟩,trivial⟩
theorem ajD(hk:1<=k:=by omega):bh P w K mg base (aj w K) k "_law_cell" (.fq 2 vJ):=vQ T 97 97 hk (ps:=["_law_script","_law_k"]) aiZ trivial ⟨T.free 161,trivial⟩ trivial
theorem alP(hk:9<=k:=by omega):bh P w K mg base (aj w K) k "_law_few" (.fq 3 Eb):=vQ T 98 98 hk (ps:=["_law_house","_law_ground","_law_ear_here"]) alB trivial ⟨T.free 161,T.free 173,T.free 159,trivial⟩ ⟨⟨Dh T,trivial⟩,trivial⟩
theorem adD(hk:1<=k:=by omega):bh P w K mg base (aj w K) k "_law_room_of" (.fq 2 Az):=vQ T 99 99 hk (ps:=["_law_stand","_law_ground"]) aey trivial ⟨T.free 164,trivial⟩ trivial
theorem al1(hk:1<=k:=by omega):bh P w K mg base (aj w K) k "_law_top" (.fq 2 HJ):=vQ T 100 100 hk (ps:=["_law_one","_law_other"]) alE trivial ⟨T.free 159,T.free 167,T.free 164,trivial⟩ trivial
theorem aaD(hk:2<=k:=by omega):bh P w K mg base (aj w K) k "_law_other_ear" (.fq 2 rK):=vQ T 101 101 hk (ps:=["_law_ear_here","_law_cell_here"]) aak ⟨O8 T,adt T,XC T,trivial⟩ trivial trivial
theorem ami{fd:FuncData}(F:FunD K "law" "law" (defArgs Nu) (defBody Nu) (defScope Nu) [] [] (He.ga K "law") fd):FnOk P w K mg base (L2.CX P w) 13 (He.ga K "law") fd ["_law_script"] (JN K (aj w K) 1 S7):=by
 refine Q7 (k:=12) (Dy F) akg ?_ ?_ ?_ ale
 ·exact⟨ak3 T,aeI T,adD T,XC T,ajD T,alP T,al1 T,aaD T,agt T,ajF T,aeD T,trivial⟩
 ·exact⟨T.free 161,T.free 162,T.free 163,trivial⟩
 ·exact T.hs ⟨⟨Dh T,trivial⟩,⟨R9 T,trivial⟩,trivial⟩
end
def digs(b:Int):Nat->Int->List Int
 |0,_=>[]
 |n+1,c=>c % b::digs b n (c / b)
def N6(b:Int):Nat->Int->Int->List Int
 |0,_,_=>[]
 |n+1,k,t=>((t * 48271+9973 * k+11) % 2147483647 / 1021 % b)::N6 b n (k+1) ((t * 48271+9973 * k+11) % 2147483647)
def BJ(c:Int):Int:=if c < 0 then -c else c
def rowOf(c:Int)(n:Nat)(b:Int):List Int:=if 10 ^ 18<=BJ c then digs b n (BJ c) else N6 b n 0 ((BJ c % 1000003+17) * 69621 % 2147483647)
theorem Zm(b:Int):∀n c,(digs b n c).length=n
 |0,_=>rfl
 |n+1,c=>by simp[digs,Zm b n]
theorem aaY(b:Int):∀n k t,(N6 b n k t).length=n
 |0,_,_=>rfl
 |n+1,k,t=>by simp[N6,aaY b n]
theorem aa1{b:Int}(hb:0 < b):∀n c,∀x∈digs b n c,0<=x/\x < b
 |0,_,x,h=>by simp[digs]at h
 |n+1,c,x,h=>by
  rcases ara.mp h with rfl|h
  ·exact⟨Int.emod_nonneg _ (by omega),Int.emod_lt_of_pos _ hb⟩
  ·exact aa1 hb n _ x h
theorem adN{b:Int}(hb:0 < b):∀n k t,∀x∈N6 b n k t,0<=x/\x < b
 |0,_,_,x,h=>by simp[N6]at h
 |n+1,k,t,x,h=>by
  rcases ara.mp h with rfl|h
  ·exact⟨Int.emod_nonneg _ (by omega),Int.emod_lt_of_pos _ hb⟩
  ·exact adN hb n _ _ x h
@[simp]theorem aaS (c:Int) (n:Nat) (b:Int):(rowOf c n b).length=n:=by
 unfold rowOf
 split
 ·exact Zm ..
 ·exact aaY ..
theorem Tj{b:Int}(hb:0 < b)(c:Int)(n:Nat):∀x∈rowOf c n b,0<=x/\x < b:=by
 unfold rowOf
 split
 ·exact aa1 hb _ _
 ·exact adN hb _ _ _
@[simp]theorem Tp (M:Mo) (ns:List Int) (k:Nat):vJ M [lI ns,.int k]=.ok (.int (ns.getD k 0)):=by
 unfold vJ XS
 by_cases h:k < ns.length
 ·simp[h,atI,ixN]
 ·simp[h]
theorem Zv(M:Mo)(b:Int)(hb:0 < b)(hb2:b < 1073741824):∀(n k:Nat) (c:Int) (x1:Option Cell) (acc:List Dat) (x4 x5:Option Cell),acc.length+n < 100000->∃c' x4',gY (aF 4) Vk ((List.range' k n).map fun(i:Nat)=>PyData.int (i:Int)) M [some (.dat (.int c)),x1,some (.dat (.int b)),some (.mut acc),x4,x5]=.next [c',x1,some (.dat (.int b)),some (.mut (acc++(digs b n c).map .int)),x4',x5] M
 |0,k,c,x1,acc,x4,x5,_=>⟨some (.dat (.int c)),x4,by simp[gY,digs]⟩
 |n+1,k,c,x1,acc,x4,x5,hl=>by
  obtain⟨c',x4',ih⟩:=Zv M b hb hb2 n (k+1) (c / b) x1 (acc++[.int (c % b)]) (some (.dat (.int k))) x5 (by simp;omega)
  refine⟨c',x4',?_⟩
  have h1:decide (CDiv c b)=true:=decide_eq_true ⟨hb,hb2⟩
  have hl:acc.length < 100000:=by omega
  rw[List.range'_succ,aqZ,gR (ρ1:=[some (.dat (.int c)),x1,some (.dat (.int b)),some (.mut acc),some (.dat (.int k)),x5]) (by simp) (ρ2:=[some (.dat (.int (c / b))),x1,some (.dat (.int b)),some (.mut (acc++[.int (c % b)])),some (.dat (.int k)),x5]) (M2:=M) (by simp[Vk,h1,hb,hl])]
  rw[ih]
  simp[digs]
theorem abC(M:Mo)(b:Int)(hb:0 < b):∀(n k:Nat) (t:Int) (x0 x1:Option Cell) (acc:List Dat) (x4:Option Cell),acc.length+n < 100000->∃x4' x5',gY (aF 4) U9 ((List.range' k n).map fun(i:Nat)=>PyData.int (i:Int)) M [x0,x1,some (.dat (.int b)),some (.mut acc),x4,some (.dat (.int t))]=.next [x0,x1,some (.dat (.int b)),some (.mut (acc++(N6 b n k t).map .int)),x4',x5'] M
 |0,k,t,x0,x1,acc,x4,_=>⟨x4,some (.dat (.int t)),by simp[gY,N6]⟩
 |n+1,k,t,x0,x1,acc,x4,hl=>by
  obtain⟨x4',x5',ih⟩:=abC M b hb n (k+1) ((t * 48271+9973 * k+11) % 2147483647) x0 x1 (acc++[.int ((t * 48271+9973 * k+11) % 2147483647 / 1021 % b)]) (some (.dat (.int k))) (by simp;omega)
  refine⟨x4',x5',?_⟩
  have h1:decide (CMul t 48271)=true:=mul_r (by decide)
  have h2:decide (CMul 9973 (k:Int))=true:=agm (by decide)
  have h3:∀x,decide (CDiv x 1021)=true:=fun x=>decide_eq_true ⟨by decide,by decide⟩
  have hl:acc.length < 100000:=by omega
  rw[List.range'_succ,aqZ,gR (ρ1:=[x0,x1,some (.dat (.int b)),some (.mut acc),some (.dat (.int k)),some (.dat (.int t))]) (by simp) (ρ2:=[x0,x1,some (.dat (.int b)),some (.mut (acc++[.int ((t * 48271+9973 * k+11) % 2147483647 / 1021 % b)])),some (.dat (.int k)),some (.dat (.int ((t * 48271+9973 * k+11) % 2147483647)))]) (M2:=M) (by simp[U9,h1,h2,h3,hb,hl])]
  rw[ih]
  simp[N6]
theorem Qv(n:Nat):fH 0 n=(List.range' 0 n).map fun(i:Nat)=>PyData.int (i:Int):=by
 unfold fH
 rw[List.range_eq_range']
 simp
theorem R5(M:Mo)(c:Int)(n:Nat)(b:Int)(hb:0 < b)(hb2:b < 1073741824)(hn:n<=1000):qR M [.int c,.int n,.int b]=.ok (lI (rowOf c n b)):=by
 unfold qR abS
 have hp:decide (CPow 10 18)=true:=decide_eq_true ⟨by decide,by decide,by decide⟩
 have hn1:(n:Int)<=100000:=by omega
 have hn2 : -100000<=(n:Int):=by omega
 have hm:∀x,decide (CMul x 69621)=true:=fun x=>mul_r (by decide)
 have ea:(if c < 0 then -c else c)=BJ c:=rfl
 by_cases h:10 ^ 18<=BJ c
 ·obtain⟨c',x4',e⟩:=Zv M b hb hb2 n 0 (BJ c) (some (.dat (.int n))) [] none none (by simp;omega)
  have e2:rowOf c n b=digs b n (BJ c):=if_pos h
  have h':(1000000000000000000:Int)<=BJ c:=by simpa using h
  simp[hp,ea,h',hn1,hn2,Qv,e,e2]
 ·obtain⟨x4',x5',e⟩:=abC M b hb n 0 ((BJ c % 1000003+17) * 69621 % 2147483647) (some (.dat (.int (BJ c)))) (some (.dat (.int n))) [] none (by simp;omega)
  have e2:rowOf c n b=N6 b n 0 ((BJ c % 1000003+17) * 69621 % 2147483647):=if_neg h
  have h':¬(1000000000000000000:Int)<=BJ c:=by simpa using h
  have e':=e
  simp[hp,ea,h',hn1,hn2,hm,Qv]at e ⊢
  rw[e]
  simp[e2]
def Qi(i j:Int):Int:=if j > i then j else i
def uG(l:List Int)(m:Int):List Int:=if m % 4=1 then l.map fun f=>Qi 0 (f - 7) else if m % 4=2 then l.map fun f=>f % 3 else l
theorem Mq(M:Mo)(l:List Int)(m:Int)(hl:l.length<=1000):mY M [lI l,.int m]=.ok (aJ (uG l m)):=by
 unfold mY Ov
 have hl':l.length<=50000:=by omega
 have c1:=fj (tg:=aF 2) (te:=aA tL (qC (.int 0)) (aA pB (ao 2) (qC (.int 7)))) (M:=M) (ρ:=[some (.dat (lI l)),some (.dat (.int m)),none]) PyData.int (fun f=>.int (Qi 0 (f - 7))) l fun x _=>⟨_,rfl,by simp[Qi]⟩
 have c2:=fj (tg:=aF 2) (te:=aA jx (ao 2) (qC (.int 3))) (M:=M) (ρ:=[some (.dat (lI l)),some (.dat (.int m)),none]) PyData.int (fun f=>.int (f % 3)) l fun x _=>⟨_,rfl,by simp⟩
 by_cases h1:m % 4=1
 ·simp[h1,hl',c1,uG,arn]
 ·by_cases h2:m % 4=2
  ·simp[h2,hl',c2,uG,arn]
  ·simp[h1,h2,uG]
def Jl(c:Int):List Int:=uG ((rowOf c 7 10).take 6) ((rowOf c 7 10).getD 6 0)
theorem Z5{α:Type}(l:List α)(n:Nat):Rf.cutD l none (some (n:Int))=l.take n:=by
 unfold Rf.cutD
 rw[HT.sIx_nat]
 simp[HT.sIx]
theorem Zj{α:Type}(l:List α)(n:Nat):Rf.cutD l (some (n:Int)) none=l.drop n:=by
 unfold Rf.cutD
 rw[HT.sIx_nat]
 simp[HT.sIx]
 by_cases h:n<=l.length
 ·rw[Nat.min_eq_left h]
  exact List.take_of_length_le (by simp)
 ·rw[Nat.min_eq_right (by omega),List.drop_eq_nil_of_le (by omega),List.drop_eq_nil_of_le (by omega)]
  simp
theorem Ji(l:List Int)(n:Nat)(h:n < l.length):atI (l.map PyData.int) (n:Int)=some (.int (l.getD n 0)):=atI_nat (by simp[h])
theorem ac5(M:Mo)(c:Int):Jk M [.int c]=.ok (aJ (Jl c)):=by
 unfold Jk ab3
 have h1:qR M [.int c,.int 7,.int 10]=.ok (.list ((rowOf c 7 10).map .int)):=R5 M c 7 10 (by decide) (by decide) (by decide)
 have h2:Rf.cutD ((rowOf c 7 10).map PyData.int) none (some 6)=((rowOf c 7 10).take 6).map PyData.int:=by
  rw[show(6:Int)=((6:Nat):Int) from rfl,Z5,List.map_take]
 have h3:atI ((rowOf c 7 10).map PyData.int) 6=some (.int ((rowOf c 7 10).getD 6 0)):=Ji _ 6 (by simp)
 have h4:mY M [.list (((rowOf c 7 10).take 6).map .int),.int ((rowOf c 7 10).getD 6 0)]=.ok (.tuple ((Jl c).map .int)):=Mq M _ _ (by simp)
 generalize (rowOf c 7 10).getD 6 0=z at h3 h4
 generalize ((rowOf c 7 10).take 6).map PyData.int=y at h2 h4
 simp[h1,h2,h3,h4]
theorem Wt(c:Int):(Jl c).length=6:=by
 unfold Jl uG
 split
 ·simp
 ·split <;> simp
theorem Ym{l:List Int}{m:Int}(h:∀x∈l,0<=x/\x < 10):∀x∈uG l m,0<=x/\x < 10:=by
 unfold uG Qi
 split
 ·intro x hx
  obtain⟨y,hy,rfl⟩:=aq8.mp hx
  have:=h y hy
  split <;> omega
 ·split
  ·intro x hx
   obtain⟨y,hy,rfl⟩:=aq8.mp hx
   have:=h y hy
   omega
  ·exact h
mutual
def lk:Nat->Dat->Bool
 |_,.none=>true
 |_,.bool _=>true
 |_,.int _=>true
 |_,.str _=>true
 |n+1,.list ds=>Ww n ds
 |n+1,.tuple ds=>Ww n ds
 |0,.list _=>false
 |0,.tuple _=>false
 |_,.dict _=>false
def Ww:Nat->List Dat->Bool
 |_,[]=>true
 |n,d::ds=>lk n d&&Ww n ds
end
theorem MF{n:Nat}:∀{ds:List Dat},Ww n ds=true↔∀d∈ds,lk n d=true
 |[]=>by simp[Ww]
 |d::ds=>by simp[Ww,MF (ds:=ds)]
@[simp]theorem anu (n:Nat) (l:List Int):Ww n (l.map PyData.int)=true:=MF.mpr fun d h=>by
 obtain⟨i,_,rfl⟩:=aq8.mp h
 simp[lk]
theorem V5(M:Mo)(i:Int):Gg M [.int i]=.ok (.bool true):=by
 unfold Gg Vf
 simp[xJ,Br]
theorem zip_self(ds:List Dat):yq ds ds=ds.map fun d=>.tuple [d,d]:=by
 unfold yq
 rw[List.zipWith_self]
theorem Ld(M:Mo)(r:Mo->List Dat->Out Dat)(x0 x1:Option Cell):∀(ds:List Dat) (x2 x3:Option Cell),(∀d∈ds,r M [d,d]=.ok (.bool true))->∃x2' x3',gY (bD [2,3]) (PB r) (ds.map fun d=>PyData.tuple [d,d]) M [x0,x1,x2,x3]=.next [x0,x1,x2',x3'] M
 |[],x2,x3,_=>⟨x2,x3,rfl⟩
 |d::ds,x2,x3,h=>by
  obtain⟨x2',x3',ih⟩:=Ld M r x0 x1 ds (some (.dat d)) (some (.dat d)) fun d hd=>h d (aq0 _ hd)
  refine⟨x2',x3',?_⟩
  have hd:=h d aq1
  rw[aqZ,gR (ρ1:=[x0,x1,some (.dat d),some (.dat d)]) (by simp) (ρ2:=[x0,x1,some (.dat d),some (.dat d)]) (M2:=M) (by simp[PB,hd])]
  exact ih
theorem ahd(M:Mo):∀(n:Nat) (d:Dat),lk n d=true->pQ (n+1) M [d,d]=.ok (.bool true):=by
 intro n
 induction n with
 |zero=>
  intro d h
  show mQ 4 (Ht (pQ 0)) M [d,d]=_
  unfold Ht
  cases d with
  |none=>simp[pA]
  |bool b=>cases b <;> simp[pA]
  |int i=>simp[pA,xJ,Br,V5]
  |str x=>simp[pA,xJ,Br]
  |list ds=>simp[lk]at h
  |tuple ds=>simp[lk]at h
  |dict kv=>simp[lk]at h
 |succ n ih=>
  intro d h
  show mQ 4 (Ht (pQ (n+1))) M [d,d]=_
  unfold Ht
  cases d with
  |none=>simp[pA]
  |bool b=>cases b <;> simp[pA]
  |int i=>simp[pA,xJ,Br,V5]
  |str x=>simp[pA,xJ,Br]
  |list ds=>
   rw[lk,MF]at h
   obtain⟨x2',x3',e⟩:=Ld M (pQ (n+1)) (some (.dat (.list ds))) (some (.dat (.list ds))) ds none none fun d hd=>ih d (h d hd)
   simp[pA,xJ,Br,zip_self,e]
  |tuple ds=>
   rw[lk,MF]at h
   obtain⟨x2',x3',e⟩:=Ld M (pQ (n+1)) (some (.dat (.tuple ds))) (some (.dat (.tuple ds))) ds none none fun d hd=>ih d (h d hd)
   simp[pA,xJ,Br,zip_self,e]
  |dict kv=>simp[lk]at h
inductive En where
 |torn (p:Nat)|cut (e:List Int)|sold (o:Int) (e:List Int)|moved (g:Int)|followed (o g:Int)|passed (o:Int)|died
def En.dat:En->Dat
 |.torn p=>.tuple [.str "torn",.int p]
 |.cut e=>.tuple [.str "cut",aJ e]
 |.sold o e=>.tuple [.str "sold",.int o,aJ e]
 |.moved g=>.tuple [.str "moved",.int g]
 |.followed o g=>.tuple [.str "followed",.int o,.int g]
 |.passed o=>.tuple [.str "passed",.int o]
 |.died=>.tuple [.str "died"]
inductive Fi where
 |brought (o g:Int) (e:List Int)|born (m o g:Int)
def Fi.dat:Fi->Dat
 |.brought o g e=>.tuple [.str "brought",.int o,.int g,aJ e]
 |.born m o g=>.tuple [.str "born",.int m,.int o,.int g]
structure Sd where
 o:Int
 g:Int
 due:Option (List Int)
 ear:List Int
 al:Bool
def sH:Option (List Int)->Dat
 |none=>.none
 |some e=>aJ e
def Sd.dat(s:Sd):Dat:=.tuple [.int s.o,.int s.g,sH s.due,aJ s.ear,.bool s.al]
def uE(l:List Int)(p:Nat):List Int:=l.mapIdx fun i x=>if i=p then x+1 else x
def go(s:Sd):En->Sd
 |.torn p=>{ s with ear:=uE s.ear p }
 |.cut e=>{ s with due:=some e,ear:=e }
 |.sold o e=>{ s with o:=o,due:=some e,ear:=e }
 |.moved g=>{ s with g:=g }
 |.followed o g=>{ s with o:=o,g:=g }
 |.passed o=>{ s with o:=o }
 |.died=>{ s with al:=false }
def beg:Fi->Sd
 |.brought o g e=>⟨o,g,none,e,true⟩
 |.born _ o g=>⟨o,g,none,[0,0,0,0,0,0],true⟩
theorem aeR(M:Mo)(f:Fi):Cq M [f.dat]=.ok (beg f).dat:=by
 cases f <;> simp[Cq,Nm,Fi.dat,beg,Sd.dat,sH,jF]
theorem aaB(M:Mo)(l:List Int)(p:Nat)(hl:l.length<=1000):xH M [aJ l,.int p]=.ok (aJ (uE l p)):=by
 unfold xH Ip
 have c:tH 0 (l.map PyData.int)=(l.mapIdx fun i x=>(i,x)).map fun(q:Nat×Int)=>PyData.tuple [.int q.1,.int q.2]:=by
  unfold tH
  rw[List.mapIdx_eq_mapIdx_iff.mpr (fun i h=>rfl)]
  apply arz
  intro i
  simp
  cases l[i]? <;> simp
 have c2:=fj (tg:=bD [2,3]) (te:=Qy (bA (aA cG (ao 2) (ao 1))) (aA gK (ao 3) (qC (.int 1))) (aq 3)) (M:=M) (ρ:=[some (.dat (aJ l)),some (.dat (.int p)),none,none]) (fun(q:Nat×Int)=>PyData.tuple [.int q.1,.int q.2]) (fun q=>.int (if q.1=p then q.2+1 else q.2)) (l.mapIdx fun i x=>(i,x)) fun x _=>⟨[some (.dat (aJ l)),some (.dat (.int p)),some (.dat (.int x.1)),some (.dat (.int x.2))],by simp,by
  by_cases h:x.1=p
  ·simp[h]
  ·have h':¬((x.1:Int)=p):=by omega
   simp[h,h']⟩
 have hl':l.length<=50000:=by omega
 simp[c,c2,hl',uE]
 apply arz
 intro i
 simp
 cases l[i]? <;> simp
theorem acv(l:List Int)(p:Nat):(uE l p).length=l.length:=by simp[uE]
theorem gone_ok(M:Mo)(s:Sd)(e:En)(hl:s.ear.length<=1000):Ba M [s.dat,e.dat]=.ok (go s e).dat:=by
 have h:=fun p=>aaB M s.ear p hl
 cases e <;> simp[Ba,Kw,En.dat,go,Sd.dat,sH,h]
abbrev Row3:=Int×Int×List Int
def eZ(r:Row3):Dat:=.tuple [.int r.1,.int r.2.1,aJ r.2.2]
structure dD where
 fi:Fi
 en:List En
 mo:Int
 sd:Sd
structure aK where
 count:Int
 own:List Int
 al:List Int
 ci:List (List Int)
 held:List Row3
 bs:List dD
structure Lay where
 c:Nat
 g:Nat
 r:Nat
 h:Nat
 bs:List Nat
 fr:List (Nat×Inst)
def aQ(L:Lay)(c:aK):Inst:=⟨"Commons",[("owner_count",.dat (.int c.count)),("holders",.dic false (c.own.map fun o=>(.int o,.bool true))),("grounds",.dat (ob L.g)),("rights",.dat (ob L.r)),("herd",.dat (ob L.h))]⟩
def dw(n m:Nat)(c:aK):Inst:=⟨"Grounds",[("allowances",.lst n (c.al.map PyData.int)),("circles",.lst m (c.ci.map aJ))]⟩
def nZ(c:aK):Inst:=⟨"Rights",[("held",.dic true (c.held.map fun r=>(eZ r,.bool true)))]⟩
def dJ(n:Nat)(L:Lay):Inst:=⟨"Herd",[("beasts",.lst n (L.bs.map ob))]⟩
def iB(n:Nat)(b:dD):Inst:=⟨"Beast",[("story",.lst n (b.fi.dat::b.en.map En.dat)),("mother",.dat (.int b.mo)),("owner",.dat (.int b.sd.o)),("ground",.dat (.int b.sd.g)),("due",.dat (sH b.sd.due)),("ear",.dat (aJ b.sd.ear)),("alive",.dat (.bool b.sd.al))]⟩
structure At(M:Mo)(L:Lay)(c:aK):Prop where
 hc:M[L.c]?=some (aQ L c)
 hg:∃n m,M[L.g]?=some (dw n m c)
 hr:M[L.r]?=some (nZ c)
 hh:∃n,M[L.h]?=some (dJ n L)
 len:L.bs.length=c.bs.length
 hb:∀(i h:Nat) (b:dD),L.bs[i]?=some h->c.bs[i]?=some b->∃n,M[h]?=some (iB n b)
 nd:(L.c::L.g::L.r::L.h::L.bs).Nodup
 fr:∀p∈L.fr,M[p.1]?=some p.2/\p.1∉L.c::L.g::L.r::L.h::L.bs
section
variable{M:Mo}{L:Lay}{c:aK}(a:At M L c)
include a
theorem abj:pO M [ob L.g]=.ok (.int c.al.length):=by
 obtain⟨n,m,hg⟩:=a.hg
 simp[pO,uI,hg,dw]
theorem ajk(g:Int):vW M [ob L.g,.int g]=.ok (.bool (decide (1<=g/\g<=c.al.length))):=by
 obtain⟨n,m,hg⟩:=a.hg
 have:=abj a
 by_cases h:1<=g <;> simp[vW,Bp,hg,dw,this,eY,h]
end
@[simp]theorem af0 {α:Type} (l:List α) (n:Nat):atI l (n:Int)=l[n]?:=by
 cases h:l[n]? with
 |some a=>exact atI_nat h
 |none=>
  have hl:=List.getElem?_eq_none_iff.mp h
  unfold atI ixN
  rw[if_pos (by omega),if_neg (by omega)]
  rfl
abbrev Vg(c:aK)(x:Int):Prop:=1<=x/\x<=c.al.length
theorem qY{c:aK}{x:Int}(h:Vg c x):∃k:Nat,k < c.al.length/\x=(k:Int)+1:=⟨(x - 1).toNat,by omega,by omega⟩
structure cY(c:aK):Prop where
 len:c.ci.length=c.al.length
 few:c.al.length<=200
 al:∀x∈c.al,0<=x/\x<=9
 mem:∀(k:Nat) (l:List Int),c.ci[k]?=some l->∀y∈l,Vg c y
 own:∀(k:Nat) (l:List Int),c.ci[k]?=some l->(k:Int)+1∈l
 up:∀(k:Nat) (l:List Int),c.ci[k]?=some l->l.Pairwise (· < ·)
 one:∀(k j:Nat) (l:List Int),c.ci[k]?=some l->(j:Int)+1∈l->c.ci[j]?=some l
def aH(c:aK)(x:Int):List Int:=(c.ci[(x - 1).toNat]?).getD []
def j9(c:aK)(x:Int):Int:=(c.al[(x - 1).toNat]?).getD 0
def aci:List Int->Int
 |[]=>0
 |n::ns=>Fw n ns
def roomOf(c:aK)(x:Int):Int:=aci ((aH c x).map (j9 c))
theorem acO:∀{l:List Int} {lo hi:Int},l.Pairwise (· < ·)->(∀y∈l,lo<=y/\y<=hi)->(l.length:Int)<=max 0 (hi - lo+1)
 |[],_,_,_,_=>by simp;omega
 |x::l,lo,hi,h,hb=>by
  rw[List.pairwise_cons]at h
  have:=acO (lo:=x+1) (hi:=hi) h.2 fun y hy=>⟨by have:=h.1 y hy;omega,(hb y (aq0 _ hy)).2⟩
  have:=hb x aq1
  simp
  omega
theorem maxD_ints{l:List Int}(h:l≠[]):maxD (.list (l.map PyData.int))=.ok (.int (aci l)):=by
 cases l with
 |nil=>exact absurd rfl h
 |cons n ns=>
  show(match intsOf ((n::ns).map PyData.int) with
   |some (n::ns)=>Out.ok (PyData.int (Fw n ns))
   |_=>Out.bad)=_
  rw[lQ]
  rfl
theorem cY.clen{c:aK}(i:cY c){k:Nat}{l:List Int}(h:c.ci[k]?=some l):l.length<=200:=by
 have:=acO (lo:=1) (hi:=c.al.length) (i.up k l h) fun y hy=>i.mem k l h y hy
 have:=i.few
 omega
section
variable{M:Mo}{L:Lay}{c:aK}(a:At M L c)
include a
theorem uL(x:Int):uQ M [ob L.g,.int x]=if Vg c x then .ok .none else .exc ⟨"NoGround",[]⟩:=by
 obtain⟨n,m,hg⟩:=a.hg
 have:=ajk a x
 by_cases h:Vg c x <;> simp[uQ,zm,hg,dw,this,zu,h]
theorem K7(x:Int):j5 M [ob L.g,.int x]=if Vg c x then .ok (.int (j9 c x)) else .exc ⟨"NoGround",[]⟩:=by
 obtain⟨n,m,hg⟩:=a.hg
 have hn:=uL a x
 by_cases h:Vg c x
 ·obtain⟨k,hk,rfl⟩:=qY h
  rw[if_pos h]at hn ⊢
  simp[j5,nR,hg,dw,hn,aG,j9,hk]
 ·rw[if_neg h]at hn ⊢
  simp[j5,nR,hg,dw,hn,aG]
theorem vL(i:cY c)(x:Int):lB M [ob L.g,.int x]=if Vg c x then .ok (lI (aH c x)) else .exc ⟨"NoGround",[]⟩:=by
 obtain⟨n,m,hg⟩:=a.hg
 have hn:=uL a x
 by_cases h:Vg c x
 ·obtain⟨k,hk,rfl⟩:=qY h
  have hk':k < c.ci.length:=by rw[i.len];exact hk
  rw[if_pos h]at hn ⊢
  simp[lB,pq,hg,dw,hn,aG,aH,hk']
 ·rw[if_neg h]at hn ⊢
  simp[lB,pq,hg,dw,hn,aG]
theorem agN(i:cY c)(x:Int):pZ M [ob L.g,.int x]=if Vg c x then .ok (.int (roomOf c x)) else .exc ⟨"NoGround",[]⟩:=by
 obtain⟨n,m,hg⟩:=a.hg
 have hn:=vL a i x
 by_cases h:Vg c x
 ·rw[if_pos h]at hn ⊢
  obtain⟨k,hk,rfl⟩:=qY h
  have hk':k < c.ci.length:=by rw[i.len];exact hk
  have hc:c.ci[k]?=some (aH c ((k:Int)+1)):=by simp[aH,hk']
  unfold roomOf
  generalize aH c ((k:Int)+1)=l at hc hn ⊢
  have hl:l.length<=50000:=by have:=i.clen hc;omega
  have hne:l.map (j9 c)≠[]:=fun z=>by
   have:=i.own k l hc
   rw[List.map_eq_nil_iff.mp z]at this
   cases this
  have key:=fj (tg:=aF 2) (te:=aP dU (ao 0) (ak (aq 2) au)) (M:=M) (ρ:=[some (.dat (ob L.g)),some (.dat (.int ((k:Int)+1))),none]) PyData.int (fun y=>.int (j9 c y)) l fun y hy=>⟨[some (.dat (ob L.g)),some (.dat (.int ((k:Int)+1))),some (.dat (.int y))],by simp,by
   have:=K7 a y
   rw[if_pos (i.mem k l hc y hy)]at this
   simp[hg,dw,dU,this]⟩
  simp[pZ,uX,hg,dw,hn,bB,key,hl]
  have:=maxD_ints hne
  rw[arw]at this
  simp[arn]at this ⊢
  simp[this]
 ·rw[if_neg h]at hn ⊢
  simp[pZ,uX,hg,dw,hn,bB]
end
theorem bF{M:Mo}{h k:Nat}{i j:Inst}(hm:M[h]?=some j):(M.set h i)[k]?=if h=k then some i else M[k]?:=by
 have hl:h < M.length:=(aqX.mp hm).1
 rw[arS]
 by_cases e:h=k
 ·subst e
  rw[if_pos rfl,if_pos hl,if_pos rfl]
 ·rw[if_neg e,if_neg e]
theorem At.neq{M:Mo}{L:Lay}{c:aK}(a:At M L c):L.c≠L.g/\L.c≠L.r/\L.c≠L.h/\L.g≠L.r/\L.g≠L.h/\L.r≠L.h/\(∀x∈L.bs,L.c≠x/\L.g≠x/\L.r≠x/\L.h≠x)/\L.bs.Nodup:=by
 have nd:=a.nd
 simp only[asi,ara,not_or]at nd
 obtain⟨⟨n1,n2,n3,n4⟩,⟨n5,n6,n7⟩,⟨n8,n9⟩,n10,n11⟩:=nd
 exact⟨n1,n2,n3,n5,n6,n8,fun x hx=>⟨fun z=>n4 (z ▸ hx),fun z=>n7 (z ▸ hx),fun z=>n9 (z ▸ hx),fun z=>n10 (z ▸ hx)⟩,n11⟩
theorem At.frS{M:Mo}{L:Lay}{c:aK}(a:At M L c){h:Nat}{i j:Inst}(hm:M[h]?=some j)(hh:h∈L.c::L.g::L.r::L.h::L.bs):∀p∈L.fr,(M.set h i)[p.1]?=some p.2/\p.1∉L.c::L.g::L.r::L.h::L.bs:=fun p hp=>by
 obtain⟨h1,h2⟩:=a.fr p hp
 refine⟨?_,h2⟩
 rw[bF hm,if_neg (fun(z:h=p.1)=>h2 (z ▸ hh))]
 exact h1
theorem At.setG{M:Mo}{L:Lay}{c:aK}(a:At M L c){al:List Int}{ci:List (List Int)}{n m:Nat}:At (M.set L.g (dw n m { c with al:=al,ci:=ci })) L { c with al:=al,ci:=ci }:=by
 obtain⟨n',m',hg⟩:=a.hg
 obtain⟨e1,e2,e3,e4,e5,e6,e7,e8⟩:=a.neq
 have e1':=Ne.symm e1
 refine⟨?_,⟨n,m,?_⟩,?_,?_,a.len,fun i h b h1 h2=>?_,a.nd,a.frS hg (by simp)⟩
 ·rw[bF hg,if_neg e1']
  exact a.hc
 ·rw[bF hg,if_pos rfl]
 ·rw[bF hg,if_neg e4]
  exact a.hr
 ·rw[bF hg,if_neg e5]
  exact a.hh
 ·rw[bF hg,if_neg (e7 h (aq3 h1)).2.1]
  exact a.hb i h b h1 h2
theorem At.afo{M:Mo}{L:Lay}{c:aK}(a:At M L c){held:List Row3}:At (M.set L.r (nZ { c with held:=held })) L { c with held:=held }:=by
 obtain⟨e1,e2,e3,e4,e5,e6,e7,e8⟩:=a.neq
 have e2':=Ne.symm e2
 have e4':=Ne.symm e4
 have hr:=a.hr
 refine⟨?_,?_,?_,?_,a.len,fun i h b h1 h2=>?_,a.nd,a.frS hr (by simp)⟩
 ·rw[bF hr,if_neg e2']
  exact a.hc
 ·rw[bF hr,if_neg e4']
  exact a.hg
 ·rw[bF hr,if_pos rfl]
 ·rw[bF hr,if_neg e6]
  exact a.hh
 ·rw[bF hr,if_neg (e7 h (aq3 h1)).2.2.1]
  exact a.hb i h b h1 h2
theorem At.setC{M:Mo}{L:Lay}{c:aK}(a:At M L c){n:Int}{own:List Int}:At (M.set L.c (aQ L { c with count:=n,own:=own })) L { c with count:=n,own:=own }:=by
 obtain⟨e1,e2,e3,e4,e5,e6,e7,e8⟩:=a.neq
 have hc:=a.hc
 refine⟨?_,?_,?_,?_,a.len,fun i h b h1 h2=>?_,a.nd,a.frS hc (by simp)⟩
 ·rw[bF hc,if_pos rfl]
 ·rw[bF hc,if_neg e1]
  exact a.hg
 ·rw[bF hc,if_neg e2]
  exact a.hr
 ·rw[bF hc,if_neg e3]
  exact a.hh
 ·rw[bF hc,if_neg (e7 h (aq3 h1)).1]
  exact a.hb i h b h1 h2
theorem At.setB{M:Mo}{L:Lay}{c:aK}(a:At M L c){k h n:Nat}{b':dD}(hk:L.bs[k]?=some h):At (M.set h (iB n b')) L { c with bs:=c.bs.set k b' }:=by
 obtain⟨e1,e2,e3,e4,e5,e6,e7,e8⟩:=a.neq
 have hl:k < c.bs.length:=by rw[←a.len];exact(aqX.mp hk).1
 obtain⟨n0,hb⟩:=a.hb k h _ hk (aqY hl)
 obtain⟨q1,q2,q3,q4⟩:=e7 h (aq3 hk)
 refine⟨?_,?_,?_,?_,by simp[a.len],fun i h2 b h3 h4=>?_,a.nd,a.frS hb (by simp[aq3 hk])⟩
 ·rw[bF hb,if_neg (Ne.symm q1)]
  exact a.hc
 ·rw[bF hb,if_neg (Ne.symm q2)]
  exact a.hg
 ·rw[bF hb,if_neg (Ne.symm q3)]
  exact a.hr
 ·rw[bF hb,if_neg (Ne.symm q4)]
  exact a.hh
 ·by_cases e:i=k
  ·subst e
   rw[hk]at h3
   cases h3
   have h4:(c.bs.set i b')[i]?=some b:=h4
   rw[arf hl]at h4
   cases h4
   exact⟨n,by rw[bF hb,if_pos rfl]⟩
  ·have h4:(c.bs.set k b')[i]?=some b:=h4
   rw[aq4 (Ne.symm e)]at h4
   have ne:h≠h2:=fun z=>by
    subst z
    exact e ((List.getElem?_inj (aqX.mp h3).1 e8).mp (h3.trans hk.symm))
   rw[bF hb,if_neg ne]
   exact a.hb i h2 b h3 h4
theorem At.anH{M:Mo}{L:Lay}{c:aK}(a:At M L c){M2:Mo}{h n n2:Nat}{b:dD}(hh:M.length<=h)(hM:∀k,k < M.length->M2[k]?=M[k]?)(hb:M2[h]?=some (iB n b)):At (M2.set L.h (dJ n2 { L with bs:=L.bs++[h] })) { L with bs:=L.bs++[h] } { c with bs:=c.bs++[b] }:=by
 obtain⟨e1,e2,e3,e4,e5,e6,e7,e8⟩:=a.neq
 have lt:∀{k:Nat} {i:Inst},M[k]?=some i->k < M.length:=fun z=>(aqX.mp z).1
 obtain⟨n0,m0,hg⟩:=a.hg
 obtain⟨n1,hh1⟩:=a.hh
 have l1:=lt a.hc
 have l2:=lt hg
 have l3:=lt a.hr
 have l4:=lt hh1
 have lb:∀x∈L.bs,x < M.length:=fun x hx=>by
  obtain⟨i,hi,e⟩:=List.mem_iff_getElem.mp hx
  obtain⟨n',z⟩:=a.hb i x _ (by rw[aqY hi,e]) (aqY (by rw[←a.len];exact hi))
  exact lt z
 have g4:M2[L.h]?=some (dJ n1 L):=by rw[hM _ l4];exact hh1
 refine⟨?_,⟨n0,m0,?_⟩,?_,⟨n2,?_⟩,by simp[a.len],fun i h2 b2 h3 h4=>?_,?_,fun p hp=>?_⟩
 ·show(M2.set L.h _)[L.c]?=_
  rw[bF g4,if_neg (Ne.symm e3),hM _ l1]
  exact a.hc
 ·show(M2.set L.h _)[L.g]?=_
  rw[bF g4,if_neg (Ne.symm e5),hM _ l2]
  exact hg
 ·show(M2.set L.h _)[L.r]?=_
  rw[bF g4,if_neg (Ne.symm e6),hM _ l3]
  exact a.hr
 ·show(M2.set L.h _)[L.h]?=_
  rw[bF g4,if_pos rfl]
 ·have h3:(L.bs++[h])[i]?=some h2:=h3
  have h4:(c.bs++[b])[i]?=some b2:=h4
  by_cases hi:i < L.bs.length
  ·rw[aq6 hi]at h3
   rw[aq6 (by rw[←a.len];exact hi)]at h4
   have m:=aq3 h3
   rw[bF g4,if_neg (e7 h2 m).2.2.2,hM _ (lb h2 m)]
   exact a.hb i h2 b2 h3 h4
  ·rw[arj (by omega)]at h3
   rw[arj (by rw[←a.len];omega),←a.len]at h4
   have e0:i - L.bs.length=0:=by
    have:=(aqX.mp h3).1
    simp at this
    omega
   rw[e0]at h3 h4
   cases h3
   cases h4
   exact⟨n,by rw[bF g4,if_neg (by omega)];exact hb⟩
 ·have nd:=a.nd
  show(L.c::L.g::L.r::L.h::(L.bs++[h])).Nodup
  have:(L.c::L.g::L.r::L.h::(L.bs++[h]))=(L.c::L.g::L.r::L.h::L.bs)++[h]:=by simp
  rw[this,arR]
  refine⟨nd,by simp,fun x hx y hy=>?_⟩
  rw[aq2.mp hy]
  rcases ara.mp hx with rfl|hx
  ·omega
  rcases ara.mp hx with rfl|hx
  ·omega
  rcases ara.mp hx with rfl|hx
  ·omega
  rcases ara.mp hx with rfl|hx
  ·omega
  have:=lb x hx
  omega
 ·obtain⟨h1,h2⟩:=a.fr p hp
  have hl:=lt h1
  refine⟨?_,?_⟩
  ·show(M2.set L.h _)[p.1]?=_
   rw[bF g4,if_neg (fun(z:L.h=p.1)=>h2 (by simp[←z])),hM _ hl]
   exact h1
  ·show p.1∉L.c::L.g::L.r::L.h::(L.bs++[h])
   intro z
   have:p.1∈(L.c::L.g::L.r::L.h::L.bs)++[h]:=by simpa using z
   rcases aq5.mp this with z|z
   ·exact h2 z
   ·rw[aq2]at z
    omega
section
variable{M:Mo}{L:Lay}{c:aK}(a:At M L c)
include a
theorem Xb(i:cY c)(hf:c.al.length < 200)(x:Int):if 0<=x/\x<=9 then ∃M',fD M [ob L.g,.int x]=.ok (.int (c.al.length+1)) M'/\At M' L { c with al:=c.al++[x],ci:=c.ci++[[(c.al.length:Int)+1]] } else fD M [ob L.g,.int x]=.exc ⟨"BadAllowance",[]⟩ M:=by
 obtain⟨n,m,hg⟩:=a.hg
 have hl:∀i,(M.set L.g i)[L.g]?=some i:=fun i=>by rw[bF hg,if_pos rfl]
 by_cases h:0<=x/\x<=9
 ·rw[if_pos h]
  refine⟨_,?_,a.setG (n:=n) (m:=m)⟩
  have h2:c.ci.length < 100000:=by rw[i.len];omega
  have h3:c.al.length < 100000:=by omega
  simp[fD,jJ,pO,uI,eY,hg,dw,hl,h,iw,h2,h3]
  rfl
 ·rw[if_neg h]
  have:decide (0<=x)=true->decide (x<=9)=false:=by simp;omega
  by_cases h0:0<=x
  ·have h9:¬x<=9:=by omega
   simp[fD,jJ,iw,h0,h9]
  ·simp[fD,jJ,iw,h0]
end
def encl(ci:List (List Int))(l:List Int):List (List Int):=l.foldl (fun s y=>s.set (y - 1).toNat l) ci
theorem v9(l:List Int):∀(k:List Int) (ci:List (List Int)),(k.foldl (fun s y=>s.set (y - 1).toNat l) ci).length=ci.length
 |[],_=>rfl
 |y::k,ci=>by rw[ar4,v9 l k];simp
@[simp]theorem amP (n k:Nat):ixN n (k:Int)=if k < n then some k else none:=by
 unfold ixN
 rw[if_pos (by omega)]
 by_cases h:k < n
 ·rw[if_pos (by omega),if_pos h]
  simp
 ·rw[if_neg (by omega),if_neg h]
section
variable{M:Mo}{L:Lay}{c:aK}{n m:Nat}(hg:M[L.g]?=some (dw n m c))
include hg
theorem Vp(l:List Int):∀(k:List Int) (s:List (List Int)) (o:Option Cell),(∀y∈k,1<=y/\y<=s.length)->
  ∃o',gY (aF 3) rP (k.map PyData.int) (M.set L.g (dw n m { c with ci:=s })) [some (.dat (ob L.g)),some (.dat (lI l)),some (.dat (aJ l)),o]=.next [some (.dat (ob L.g)),some (.dat (lI l)),some (.dat (aJ l)),o'] (M.set L.g (dw n m { c with ci:=k.foldl (fun s y=>s.set (y - 1).toNat l) s }))
 |[],s,o,_=>⟨o,rfl⟩
 |y::k,s,o,h=>by
  have hl:∀i,(M.set L.g i)[L.g]?=some i:=fun i=>by rw[bF hg,if_pos rfl]
  obtain⟨j,hj,rfl⟩:∃j:Nat,j < s.length/\y=(j:Int)+1:=⟨(y - 1).toNat,by have:=h y aq1;omega,by have:=h y aq1;omega⟩
  obtain⟨o',ih⟩:=Vp l k (s.set j l) (some (.dat (.int ((j:Int)+1)))) fun z hz=>by
   have:=h z (aq0 _ hz)
   simpa using this
  refine⟨o',?_⟩
  rw[aqZ,gR (ρ1:=[some (.dat (ob L.g)),some (.dat (lI l)),some (.dat (aJ l)),some (.dat (.int ((j:Int)+1)))]) (M2:=M.set L.g (dw n m { c with ci:=s.set j l })) (ρ2:=[some (.dat (ob L.g)),some (.dat (lI l)),some (.dat (aJ l)),some (.dat (.int ((j:Int)+1)))]) (by simp) (by simp[rP,hl,dw,hj,List.map_set]),ih]
  simp
end
theorem Yx{M:Mo}{h:Nat}{i:Inst}(e:M[h]?=some i):M.set h i=M:=by
 apply arz
 intro k
 rw[bF e]
 split
 ·next z=>rw[←z,e]
 ·rfl
section
variable{M:Mo}{L:Lay}{c:aK}(a:At M L c)
include a
theorem Jp(l:List Int)(h:∀y∈l,1<=y/\y<=c.ci.length):∃M',lO M [ob L.g,lI l]=.ok (lI l) M'/\At M' L { c with ci:=encl c.ci l }:=by
 obtain⟨n,m,hg⟩:=a.hg
 obtain⟨o',key⟩:=Vp hg l l c.ci none h
 have e:(dw n m { c with ci:=c.ci })=dw n m c:=rfl
 rw[e,Yx hg]at key
 refine⟨_,?_,a.setG (n:=n) (m:=m) (al:=c.al)⟩
 simp[lO,vm,key,encl]
end
theorem any_ints(y:Int)(l:List Int):((l.map PyData.int).any fun d=>PyData.eqv d (.int y))=decide (y∈l):=by
 induction l with
 |nil=>simp
 |cons x l ih=>
  rw[aqZ,arX,ih,Yl]
  by_cases h:x=y
  ·simp[h]
  ·have:¬y=x:=fun z=>h z.symm
   simp[h,this]
theorem Gu(neg:Bool)(y:Int)(l:List Int):inD neg (.int y) (lI l)=.ok (.bool (neg ^^ decide (y∈l))):=by
 show(Out.when (okd 12 (.int y)&&jT 12 (l.map PyData.int)) (.ok ((l.map PyData.int).any fun z=>PyData.eqv z (.int y)))).bind _=_
 rw[any_ints,ag6,Wb]
 rfl
section
variable{M:Mo}{L:Lay}{c:aK}(a:At M L c)
include a
theorem ab6(i:cY c)(x y:Int)(hx:Vg c x)(hy:Vg c y):if y∈aH c x then lH M [ob L.g,.int x,.int y]=.exc ⟨"Together",[]⟩ M else
  ∃M',lH M [ob L.g,.int x,.int y]=.ok (lI (sortI (aH c x++aH c y))) M'/\At M' L { c with ci:=encl c.ci (sortI (aH c x++aH c y)) }:=by
 have t1:=vL a i x
 have t2:=vL a i y
 rw[if_pos hx]at t1
 rw[if_pos hy]at t2
 obtain⟨n,m,hg⟩:=a.hg
 have hcx:c.ci[(x - 1).toNat]?=some (aH c x):=by
  obtain⟨k,hk,rfl⟩:=qY hx
  have hk':k < c.ci.length:=by rw[i.len];exact hk
  simp[aH,hk']
 have hcy:c.ci[(y - 1).toNat]?=some (aH c y):=by
  obtain⟨k,hk,rfl⟩:=qY hy
  have hk':k < c.ci.length:=by rw[i.len];exact hk
  simp[aH,hk']
 by_cases h:y∈aH c x
 ·rw[if_pos h]
  simp[lH,sV,hg,dw,bB,t1,t2,Gu,h]
 ·rw[if_neg h]
  have hm:∀z∈sortI (aH c x++aH c y),1<=z/\z<=c.ci.length:=fun z hz=>by
   unfold sortI at hz
   rw[List.mem_mergeSort,aq5]at hz
   rw[i.len]
   rcases hz with hz|hz
   ·exact i.mem _ _ hcx z hz
   ·exact i.mem _ _ hcy z hz
  obtain⟨M',h1,h2⟩:=Jp a _ hm
  refine⟨M',?_,h2⟩
  have l1:=i.clen hcx
  have l2:=i.clen hcy
  have hs:Jo (lI (aH c x++aH c y))=.ok (lI (sortI (aH c x++aH c y))):=by
   show(match intsOf ((aH c x++aH c y).map PyData.int) with
    |some l=>Out.ok (PyData.list ((sortI l).map PyData.int))
    |none=>_)=_
   rw[lQ]
  have hz:(aH c x).length+(aH c y).length<=100000:=by omega
  have hs:Jo (.list ((aH c x).map PyData.int++(aH c y).map PyData.int))=.ok (lI (sortI (aH c x++aH c y))):=by rw[←arC];exact hs
  simp[lH,sV,hg,dw,bB,gQ,t1,t2,Gu,h,hz,hs,h1]
theorem acY(i:cY c)(x:Int):if Vg c x then(if (aH c x).filter (fun y=>!(y==x))=[] then jw M [ob L.g,.int x]=.exc ⟨"Alone",[]⟩ M else
  ∃M',jw M [ob L.g,.int x]=.ok (lI ((aH c x).filter (fun y=>!(y==x)))) M'/\At M' L { c with ci:=encl (encl c.ci [x]) ((aH c x).filter (fun y=>!(y==x))) }) else jw M [ob L.g,.int x]=.exc ⟨"NoGround",[]⟩ M:=by
 have t1:=vL a i x
 obtain⟨n,m,hg⟩:=a.hg
 by_cases hx:Vg c x
 ·rw[if_pos hx]at t1 ⊢
  have hcx:c.ci[(x - 1).toNat]?=some (aH c x):=by
   obtain⟨k,hk,rfl⟩:=qY hx
   have hk':k < c.ci.length:=by rw[i.len];exact hk
   simp[aH,hk']
  have hl:(aH c x).length<=50000:=by have:=i.clen hcx;omega
  have key:=fQ (tg:=aF 3) (tt:=bA (aA yO (ao 3) (ao 1))) (te:=aq 3) (M:=M) (ρ:=[some (.dat (ob L.g)),some (.dat (.int x)),none,none]) PyData.int (fun y=>!(y==x)) PyData.int (aH c x) fun y _=>⟨[some (.dat (ob L.g)),some (.dat (.int x)),none,some (.dat (.int y))],by simp,by simp,fun _=>by simp⟩
  by_cases he:(aH c x).filter (fun y=>!(y==x))=[]
  ·rw[if_pos he]
   rw[he]at key
   simp only[arY]at key
   simp[jw,ql,hg,dw,bB,t1,key,hl]
  ·rw[if_neg he]
   generalize hL:(aH c x).filter (fun y=>!(y==x))=left at he key
   have hm:∀z∈left,1<=z/\z<=(encl c.ci [x]).length:=fun z hz=>by
    rw[←hL,arh]at hz
    unfold encl
    rw[v9,i.len]
    exact i.mem _ _ hcx z hz.1
   obtain⟨M1,h1,a1⟩:=Jp a [x] (fun z hz=>by rw[aq2.mp hz,i.len];exact hx)
   obtain⟨M2,h2,a2⟩:=Jp a1 left hm
   refine⟨M2,?_,a2⟩
   obtain⟨n1,m1,hg1⟩:=a1.hg
   have h1:lO M [ob L.g,.list [.int x]]=.ok (.list [.int x]) M1:=h1
   have he':left.isEmpty=false:=by cases left with
    |nil=>exact absurd rfl he
    |cons _ _=>rfl
   simp[jw,ql,hg,hg1,dw,bB,gQ,t1,key,hl,h1,h2,he']
 ·rw[if_neg hx]at t1 ⊢
  simp[jw,ql,hg,dw,bB,t1]
end
theorem ah6(o g:Int)(m:List Int)(o' g':Int)(m':List Int):PyData.eqv (eZ (o,g,m)) (eZ (o',g',m'))=decide ((o,g,m)=(o',g',m')):=by
 simp only[eZ,Zg,abk,Yl,zU,ah3,Bool.and_true]
 by_cases h1:o=o' <;> by_cases h2:g=g' <;> by_cases h3:m=m' <;> simp[h1,h2,h3]
theorem adf(r s:Row3):PyData.eqv (eZ r) (eZ s)=decide (r=s):=ah6 _ _ _ _ _ _
theorem Wk:∀l:List Int,xU (l.map PyData.int)=some (l.map NestedKey.num)
 |[]=>rfl
 |i::l=>by rw[aqZ,xU,Wk l];rfl
theorem ajZ(r:Row3):uz (eZ r)=some (.tup [.num r.1,.num r.2.1,.tup (r.2.2.map .num)]):=by
 simp[eZ,uz,xU,Wk]
theorem depth_ints:∀l:List Int,NestedKey.depthAll (l.map NestedKey.num)<=1
 |[]=>by simp[NestedKey.depthAll]
 |i::l=>by
  have:=depth_ints l
  simp[NestedKey.depthAll,NestedKey.depth]
  omega
theorem Vm(kvs:List (Dat×Dat))(r:Row3):dhas true kvs (eZ r)=.ok (kvs.any fun p=>PyData.eqv p.1 (eZ r)):=by
 have hk:=ajZ r
 have hd:NestedKey.depth (.tup [.num r.1,.num r.2.1,.tup (r.2.2.map .num)])<=8:=by
  have:=depth_ints r.2.2
  simp[NestedKey.depth,NestedKey.depthAll]
  omega
 show(match uz (eZ r) with
  |some k=>match decide (k.depth<=8) with
   |true=>Out.ok (kvs.any fun p=>PyData.eqv p.1 (eZ r))
   |false=>.bad
  |none=>.bad)=_
 rw[hk]
 show(match decide (NestedKey.depth (.tup [.num r.1,.num r.2.1,.tup (r.2.2.map .num)])<=8) with
   |true=>Out.ok (kvs.any fun p=>PyData.eqv p.1 (eZ r))
   |false=>.bad)=_
 rw[decide_eq_true hd]
theorem ZG(held:List Row3)(r:Row3):((held.map fun r=>(eZ r,PyData.bool true)).any fun p=>PyData.eqv p.1 (eZ r))=decide (r∈held):=by
 induction held with
 |nil=>simp
 |cons s held ih=>
  rw[aqZ,arX,ih,adf]
  by_cases h:s=r
  ·simp[h]
  ·have:¬r=s:=fun z=>h z.symm
   simp[h,this]
def bU(c:aK)(o g:Int):List (List Int):=(c.held.filter fun r=>(r.1==o)&&(r.2.1==g)).map fun r=>r.2.2
section
variable{M:Mo}{L:Lay}{c:aK}(a:At M L c)(few:c.held.length<=50000)
include a few
theorem Iv(o g:Int):uP M [ob L.r,.int o,.int g]=.ok (.list ((bU c o g).map aJ)):=by
 have hr:=a.hr
 have key:=fQ (tg:=bD [3,4,5]) (tt:=jV (bA (aA cG (ao 3) (ao 1))) (bA (aA cG (ao 4) (ao 2)))) (te:=aq 5) (M:=M) (ρ:=[some (.dat (ob L.r)),some (.dat (.int o)),some (.dat (.int g)),none,none,none]) eZ (fun r=>(r.1==o)&&(r.2.1==g)) (fun r=>aJ r.2.2) c.held fun r _=>⟨[some (.dat (ob L.r)),some (.dat (.int o)),some (.dat (.int g)),some (.dat (.int r.1)),some (.dat (.int r.2.1)),some (.dat (aJ r.2.2))],by simp[eZ],by
  by_cases h:r.1=o <;> simp[h],fun _=>by simp⟩
 have e:(c.held.map fun r=>(eZ r,PyData.bool true)).map (·.1)=c.held.map eZ:=by simp
 simp[uP,yU,hr,nZ,bU]
 simp[arn,key,few]
theorem Yh(o g:Int):o9 M [ob L.r,.int o,.int g]=.ok (.bool (decide (bU c o g≠[]))):=by
 have hr:=a.hr
 have h:=Iv a few o g
 simp[o9,tR,hr,nZ,cJ,h,List.length_pos_iff]
theorem Xl(near:List Int):nM M [ob L.r,lI near]=.ok (.list ((c.held.filter fun r=>decide (r.2.1∈near)).map fun r=>Ear.rD (r.1,r.2.2))):=by
 have hr:=a.hr
 have key:=fQ (tg:=bD [2,3,4]) (tt:=bA (aA (inD false) (ao 3) (ao 1))) (te:=bL (ak (aq 2) (ak (aq 4) au))) (M:=M) (ρ:=[some (.dat (ob L.r)),some (.dat (lI near)),none,none,none]) eZ (fun r=>decide (r.2.1∈near)) (fun r=>Ear.rD (r.1,r.2.2)) c.held fun r _=>⟨[some (.dat (ob L.r)),some (.dat (lI near)),some (.dat (.int r.1)),some (.dat (.int r.2.1)),some (.dat (aJ r.2.2))],by simp[eZ],by simp[Gu],fun _=>by simp[Ear.rD,Ear.dT]⟩
 simp[nM,rW,hr,nZ]
 simp[arn,key,few]
theorem aaH:pJ M [ob L.r]=.ok (.list (c.held.map eZ)):=by
 have hr:=a.hr
 simp[pJ,vh,hr,nZ,arn]
theorem Kg(o g:Int)(m:List Int):if (o,g,m)∈c.held then jo M [ob L.r,.int o,.int g,aJ m]=.exc ⟨"HasRight",[]⟩ M else
  ∃M',jo M [ob L.r,.int o,.int g,aJ m]=.ok .none M'/\At M' L { c with held:=c.held++[(o,g,m)] }:=by
 have hr:=a.hr
 have h1:=Vm (c.held.map fun r=>(eZ r,PyData.bool true)) (o,g,m)
 rw[ZG]at h1
 simp only[eZ]at h1
 have f2:c.held.length < 100000:=by omega
 by_cases h:(o,g,m)∈c.held
 ·rw[if_pos h]
  simp[h]at h1
  simp[jo,oU,hr,nZ,eZ,h1]
 ·rw[if_neg h]
  refine⟨_,?_,a.afo⟩
  simp[h]at h1
  simp[jo,oU,hr,nZ,eZ,h1,f2]
end
theorem adW(held:List Row3)(r:Row3):((held.map fun r=>(eZ r,PyData.bool true)).filter fun p=>!PyData.eqv p.1 (eZ r))=(held.filter fun s=>decide (s≠r)).map fun r=>(eZ r,PyData.bool true):=by
 induction held with
 |nil=>rfl
 |cons s held ih=>
  simp only[aqZ,arx,adf,ih]
  by_cases h:s=r <;> simp[h]
def Xv(o g:Int)(k:List (List Int))(s:List Row3):List Row3:=k.foldl (fun s mk=>s.filter fun r=>decide (r≠(o,g,mk))) s
section
variable{M:Mo}{L:Lay}{c:aK}(hr:M[L.r]?=some (nZ c))
include hr
theorem WQ(o g:Int)(all:List (List Int)):∀(k:List (List Int)) (s:List Row3) (x:Option Cell),k.Nodup->(∀mk∈k,(o,g,mk)∈s)->s.length<=50000->
  ∃x',gY (aF 4) yJ (k.map aJ) (M.set L.r (nZ { c with held:=s })) [some (.dat (ob L.r)),some (.dat (.int o)),some (.dat (.int g)),some (.dat (.list (all.map aJ))),x]=.next [some (.dat (ob L.r)),some (.dat (.int o)),some (.dat (.int g)),some (.dat (.list (all.map aJ))),x'] (M.set L.r (nZ { c with held:=Xv o g k s }))
 |[],s,x,_,_,_=>⟨x,rfl⟩
 |mk::k,s,x,nd,h,hf=>by
  have hl:∀i,(M.set L.r i)[L.r]?=some i:=fun i=>by rw[bF hr,if_pos rfl]
  rw[asi]at nd
  have h1:=Vm (s.map fun r=>(eZ r,PyData.bool true)) (o,g,mk)
  rw[ZG,decide_eq_true (h mk aq1)]at h1
  have h2:=adW s (o,g,mk)
  have f2:s.length<=100000:=by omega
  obtain⟨x',ih⟩:=WQ o g all k (s.filter fun r=>decide (r≠(o,g,mk))) (some (.dat (aJ mk))) nd.2 (fun z hz=>by
   rw[arh]
   refine⟨h z (aq0 _ hz),decide_eq_true fun e=>?_⟩
   have:z=mk:=by simpa using e
   exact nd.1 (this ▸ hz)) (ars (ark _ _) hf)
  refine⟨x',?_⟩
  rw[aqZ,gR (ρ1:=[some (.dat (ob L.r)),some (.dat (.int o)),some (.dat (.int g)),some (.dat (.list (all.map aJ))),some (.dat (aJ mk))]) (M2:=M.set L.r (nZ { c with held:=s.filter fun r=>decide (r≠(o,g,mk)) })) (ρ2:=[some (.dat (ob L.r)),some (.dat (.int o)),some (.dat (.int g)),some (.dat (.list (all.map aJ))),some (.dat (aJ mk))]) (by simp) ?_,ih]
  ·rfl
  ·have h1':dhas true (s.map fun r=>(eZ r,PyData.bool true)) (.tuple [.int o,.int g,aJ mk])=.ok true:=h1
   have h2':((s.map fun r=>(eZ r,PyData.bool true)).filter fun p=>!PyData.eqv p.1 (.tuple [.int o,.int g,aJ mk]))=(s.filter fun s=>decide (s≠(o,g,mk))).map fun r=>(eZ r,PyData.bool true):=h2
   simp[yJ,hl,nZ,h1',f2]
   rw[h2']
   simp
end
theorem Y6(o g:Int):∀(k:List (List Int)) (s:List Row3),Xv o g k s=s.filter fun r=>decide (∀mk∈k,r≠(o,g,mk))
 |[],s=>(List.filter_eq_self.mpr (by simp)).symm
 |mk::k,s=>by
  show Xv o g k (s.filter _)=_
  rw[Y6 o g k,ar5]
  congr 1
  funext r
  by_cases h1:r=(o,g,mk) <;> simp[h1]
def dropped(c:aK)(o g:Int):List Row3:=c.held.filter fun r=>!((r.1==o)&&(r.2.1==g))
theorem abH(c:aK)(o g:Int):Xv o g (bU c o g) c.held=dropped c o g:=by
 rw[Y6]
 unfold dropped
 refine List.filter_congr fun r hr=>?_
 obtain⟨x,y,z⟩:=r
 by_cases h:x=o/\y=g
 ·obtain⟨rfl,rfl⟩:=h
  have:z∈bU c x y:=by
   unfold bU
   rw[aq8]
   exact⟨(x,y,z),by rw[arh];exact⟨hr,by simp⟩,rfl⟩
  simp
  exact this
 ·have e:(!((x==o)&&(y==g)))=true:=by
   by_cases h1:x=o <;> by_cases h2:y=g <;> simp_all
  have e2:∀mk∈bU c o g,(x,y,z)≠(o,g,mk):=fun mk _ z=>by
   simp at z
   exact h ⟨z.1,z.2.1⟩
  rw[e,decide_eq_true e2]
theorem aax{c:aK}(h:c.held.Nodup)(o g:Int):(bU c o g).Nodup:=by
 unfold bU
 have h1:(c.held.filter fun r=>(r.1==o)&&(r.2.1==g)).Nodup:=h.filter _
 unfold List.Nodup at h1 ⊢
 rw[List.pairwise_map]
 refine List.Pairwise.imp_of_mem (fun {r s} hr hs ne e=>ne ?_) h1
 rw[arh]at hr hs
 obtain⟨r1,r2,r3⟩:=r
 obtain⟨s1,s2,s3⟩:=s
 have:=hr.2
 have:=hs.2
 simp at *
 obtain⟨rfl,rfl⟩:=hr.2
 obtain⟨rfl,rfl⟩:=hs.2
 exact⟨rfl,rfl,e⟩
section
variable{M:Mo}{L:Lay}{c:aK}(a:At M L c)(few:c.held.length<=50000)(nd:c.held.Nodup)
include a few nd
theorem ahc(o g:Int):if bU c o g=[] then oF M [ob L.r,.int o,.int g]=.exc ⟨"NoRight",[]⟩ M else
  ∃M',oF M [ob L.r,.int o,.int g]=.ok (.list ((bU c o g).map aJ)) M'/\At M' L { c with held:=dropped c o g }:=by
 have hr:=a.hr
 have h1:=Iv a few o g
 by_cases h:bU c o g=[]
 ·rw[if_pos h]
  rw[h]at h1
  simp[oF,vZ,hr,nZ,cJ,h1]
 ·rw[if_neg h]
  obtain⟨x',key⟩:=WQ hr o g (bU c o g) (bU c o g) c.held none (aax nd o g) (fun mk hm=>by
   unfold bU at hm
   rw[aq8]at hm
   obtain⟨⟨r1,r2,r3⟩,h3,rfl⟩:=hm
   rw[arh]at h3
   have:=h3.2
   simp at this
   obtain⟨rfl,rfl⟩:=this
   exact h3.1) few
  have e:(nZ { c with held:=c.held })=nZ c:=rfl
  rw[e,Yx hr,abH]at key
  refine⟨_,?_,a.afo⟩
  have he:(bU c o g).isEmpty=false:=by
   cases hm:bU c o g with
   |nil=>exact absurd hm h
   |cons _ _=>rfl
  simp[oF,vZ,hr,nZ,cJ,h1,he]
  simp[key]
  rfl
end
def Fe(acc:List Row3)(r:Row3):List Row3:=if r∈acc then acc else acc++[r]
def Ab(e h:Int)(r:Row3):Row3:=(if r.1=e then h else r.1,r.2.1,r.2.2)
def handed(c:aK)(e h:Int):List Row3:=(c.held.map (Ab e h)).foldl Fe []
theorem aaZ{tg:fG}{tk:QF}{M:Mo}{ρ:Rf.Env}(f:Row3->Row3):∀(xs acc:List Row3),(∀x∈xs,∃ρ1,tg (eZ x) ρ=some ρ1/\tk M ρ1=.ok (eZ (f x)))->Ef tg tk M ρ (xs.map eZ) (acc.map fun r=>(eZ r,PyData.bool true))=.ok (((xs.map f).foldl Fe acc).map fun r=>(eZ r,PyData.bool true))
 |[],acc,_=>rfl
 |x::xs,acc,h=>by
  obtain⟨ρ1,h1,h2⟩:=h x aq1
  rw[aqZ,Ef,h1]
  show((xY (tk M ρ1)).bind fun kd=>(dhas true _ kd).bind fun r=>_)=_
  rw[h2,aaf,Out.zH,Vm,ZG,Out.zH,aqZ,ar4]
  have ih:=aaZ f xs (Fe acc (f x)) fun y hy=>h y (aq0 _ hy)
  unfold Fe at ih ⊢
  by_cases hm:f x∈acc
  ·rw[if_pos hm]at ih ⊢
   rw[decide_eq_true hm]
   exact ih
  ·rw[if_neg hm]at ih ⊢
   rw[decide_eq_false hm]
   rw[arC]at ih
   exact ih
section
variable{M:Mo}{L:Lay}{c:aK}(a:At M L c)(few:c.held.length<=50000)
include a few
theorem XQ(e h:Int):∃M',oN M [ob L.r,.int e,.int h]=.ok .none M'/\At M' L { c with held:=handed c e h }:=by
 have hr:=a.hr
 have hl:L.r < M.length:=(aqX.mp hr).1
 have hr2:(M++[(⟨"",[]⟩:Inst)])[L.r]?=some (nZ c):=by rw[aq6 hl];exact hr
 have key:=aaZ (tg:=bD [3,4,5]) (tk:=bL (ak (Qy (bA (aA cG (ao 3) (ao 1))) (aq 2) (aq 3)) (ak (aq 4) (ak (aq 5) au)))) (M:=M) (ρ:=[some (.dat (ob L.r)),some (.dat (.int e)),some (.dat (.int h)),none,none,none]) (Ab e h) c.held [] fun r _=>⟨[some (.dat (ob L.r)),some (.dat (.int e)),some (.dat (.int h)),some (.dat (.int r.1)),some (.dat (.int r.2.1)),some (.dat (aJ r.2.2))],by simp[eZ],by
  by_cases z:r.1=e <;> simp[z,Ab,eZ]⟩
 have ex:At (M++[⟨"",[]⟩]) L c:=by
  have lt:∀{k:Nat} {i:Inst},M[k]?=some i->(M++[(⟨"",[]⟩:Inst)])[k]?=some i:=fun z=>by rw[aq6 (aqX.mp z).1];exact z
  obtain⟨n,m,hg⟩:=a.hg
  obtain⟨n1,hh⟩:=a.hh
  exact⟨lt a.hc,⟨n,m,lt hg⟩,lt a.hr,⟨n1,lt hh⟩,a.len,fun i h b h1 h2=>by
   obtain⟨n2,z⟩:=a.hb i h b h1 h2
   exact⟨n2,lt z⟩,a.nd,fun p hp=>⟨lt (a.fr p hp).1,(a.fr p hp).2⟩⟩
 refine⟨_,?_,ex.afo⟩
 simp only[arY]at key
 simp[oN,uf,hr,hr2,nZ,kE]
 simp[arn,key,few,handed]
end
@[simp]theorem apG (n:Nat) (b:dD):(iB n b).cls="Beast":=rfl
theorem aaJ{M:Mo}{h n:Nat}{b:dD}(hb:M[h]?=some (iB n b))(s:Sd):nu M [ob h,s.dat]=.ok .none (M.set h (iB n { b with sd:=s })):=by
 have hl:∀i,(M.set h i)[h]?=some i:=fun i=>by rw[bF hb,if_pos rfl]
 simp[nu,qN,Sd.dat,hb,iB,hl,kE]
theorem X4{M:Mo}{h n:Nat}{b:dD}(hb:M[h]?=some (iB n b)):vM M [ob h]=.ok b.sd.dat:=by
 simp[vM,Bt,Sd.dat,hb,iB]
theorem tZ{M:Mo}{h n:Nat}{b:dD}(hb:M[h]?=some (iB n b))(e:En)(he:b.sd.ear.length<=1000)(hf:b.en.length<=50000):mU M [ob h,e.dat]=.ok .none (M.set h (iB n { b with en:=b.en++[e],sd:=go b.sd e })):=by
 have hl:∀i,(M.set h i)[h]?=some i:=fun i=>by rw[bF hb,if_pos rfl]
 have h1:(M.set h (iB n { b with en:=b.en++[e] }))[h]?=some (iB n { b with en:=b.en++[e] }):=hl _
 have h2:=X4 h1
 have h3:=gone_ok (M.set h (iB n { b with en:=b.en++[e] })) b.sd e he
 have h4:=aaJ h1 (go b.sd e)
 have h5:b.en.length+1 < 100000:=by omega
 have e1:M.set h ⟨"Beast",[("story",.lst n (b.fi.dat::(b.en.map En.dat++[e.dat]))),("mother",.dat (.int b.mo)),("owner",.dat (.int b.sd.o)),("ground",.dat (.int b.sd.g)),("due",.dat (sH b.sd.due)),("ear",.dat (aJ b.sd.ear)),("alive",.dat (.bool b.sd.al))]⟩=M.set h (iB n { b with en:=b.en++[e] }):=by simp[iB]
 simp[mU,zG,hb,iB,h5]
 rw[e1]
 simp[h1,mO,jP,h2,h3,h4]
 simp[iB]
def ajH:Fi->Int
 |.born m _ _=>m
 |_=>0
def yV(f:Fi):dD:=⟨f,[],ajH f,beg f⟩
theorem ag8(M:Mo)(f:Fi):uw (M++[⟨"Beast",[]⟩]) [ob M.length,f.dat]=.ok .none (M++[iB (M.length+1) (yV f),⟨"",[]⟩]):=by
 have hbeg:=fun M=>aeR M f
 have hg:∀i (r:List Inst),(M++i::r)[M.length]?=some i:=fun i r=>by simp
 have hs:∀i j (r:List Inst),(M++i::r).set M.length j=M++j::r:=fun i j r=>by simp
 cases f <;> simp[uw,Di,Fi.dat,hg,hs,kE,nu,qN,jP,Cq,Nm,jF,iB,yV,ajH,beg,sH,Fi.dat]
def cA(L:Lay)(c:aK):List (Nat×Nat×dD):=(L.bs.zip c.bs).mapIdx fun i p=>(i,p.1,p.2)
def nb(x:Nat×Nat×dD):Dat:=.tuple [.int ((x.1:Int)+1),ob x.2.1]
theorem DW{L:Lay}{c:aK}{x:Nat×Nat×dD}(h:x∈cA L c):L.bs[x.1]?=some x.2.1/\c.bs[x.1]?=some x.2.2:=by
 unfold cA at h
 obtain⟨i,hi,e⟩:=List.mem_mapIdx.mp h
 have hz:=aqY hi
 rw[arI]at hz
 subst e
 exact hz
theorem At.hb'{M:Mo}{L:Lay}{c:aK}(a:At M L c){x:Nat×Nat×dD}(h:x∈cA L c):∃n,M[x.2.1]?=some (iB n x.2.2):=by
 obtain⟨h1,h2⟩:=DW h
 exact a.hb _ _ _ h1 h2
theorem At.len'{M:Mo}{L:Lay}{c:aK}(a:At M L c):(cA L c).length=c.bs.length:=by
 unfold cA
 simp[a.len]
theorem At.enum{M:Mo}{L:Lay}{c:aK}(a:At M L c):tH 1 (L.bs.map ob)=(cA L c).map nb:=by
 unfold tH cA
 apply arz
 intro i
 simp only[arQ,aq9]
 by_cases hi:i < L.bs.length
 ·have hi2:i < c.bs.length:=by rw[←a.len];exact hi
  have hz:(L.bs.zip c.bs)[i]?=some (L.bs[i],c.bs[i]):=by
   rw[arI]
   exact⟨aqY hi,aqY hi2⟩
  rw[hz]
  simp[hi,nb,Int.add_comm]
 ·have hi2:¬i < c.bs.length:=by rw[←a.len];exact hi
  have:(L.bs.zip c.bs)[i]?=none:=by
   rw[List.getElem?_eq_none_iff,List.length_zip]
   omega
  simp[arA (by omega:L.bs.length<=i),this]
section
variable{M:Mo}{L:Lay}{c:aK}(a:At M L c)(few:c.bs.length<=50000)
include a few
theorem Bw:pH M [ob L.h]=.ok (.list (((cA L c).filter fun x=>x.2.2.sd.al).map nb)):=by
 obtain⟨n,hh⟩:=a.hh
 have hl:=a.len'
 have he:=a.enum
 have key:=fQ (tg:=bD [1,2]) (tt:=gG (bJ "alive" (ao 2))) (te:=bL (ak (aq 1) (ak (aq 2) au))) (M:=M) (ρ:=[some (.dat (ob L.h)),none,none]) nb (fun x=>x.2.2.sd.al) nb (cA L c) fun x hx=>⟨[some (.dat (ob L.h)),some (.dat (.int ((x.1:Int)+1))),some (.dat (ob x.2.1))],by simp[nb],by
  obtain⟨n,hb⟩:=a.hb' hx
  simp[hb,iB],fun _=>by simp[nb]⟩
 simp[pH,u6,hh,dJ]
 rw[he]
 simp[key,hl,few]
theorem QH(near:List Int):qd M [ob L.h,lI near]=.ok (.list (((cA L c).filter fun x=>decide (x.2.2.sd.g∈near)&&x.2.2.sd.al).map nb)):=by
 obtain⟨n,hh⟩:=a.hh
 have h1:=Bw a few
 have hl:((cA L c).filter fun x=>x.2.2.sd.al).length<=50000:=ars (ark _ _) (by rw[a.len'];exact few)
 have key:=fQ (tg:=bD [2,3]) (tt:=bA (aA (inD false) (bJ "ground" (ao 3)) (ao 1))) (te:=bL (ak (aq 2) (ak (aq 3) au))) (M:=M) (ρ:=[some (.dat (ob L.h)),some (.dat (lI near)),none,none]) nb (fun x=>decide (x.2.2.sd.g∈near)) nb ((cA L c).filter fun x=>x.2.2.sd.al) fun x hx=>⟨[some (.dat (ob L.h)),some (.dat (lI near)),some (.dat (.int ((x.1:Int)+1))),some (.dat (ob x.2.1))],by simp[nb],by
  obtain⟨n,hb⟩:=a.hb' (arh.mp hx).1
  simp[hb,iB,Gu],fun _=>by simp[nb]⟩
 rw[ar5]at key
 simp[qd,zp,hh,dJ,dR,h1,key,hl]
theorem ae4(o:Int):yC M [ob L.h,.int o]=.ok (.list (((cA L c).filter fun x=>(x.2.2.sd.o==o)&&x.2.2.sd.al).map nb)):=by
 obtain⟨n,hh⟩:=a.hh
 have h1:=Bw a few
 have hl:((cA L c).filter fun x=>x.2.2.sd.al).length<=50000:=ars (ark _ _) (by rw[a.len'];exact few)
 have key:=fQ (tg:=bD [2,3]) (tt:=bA (aA cG (bJ "owner" (ao 3)) (ao 1))) (te:=bL (ak (aq 2) (ak (aq 3) au))) (M:=M) (ρ:=[some (.dat (ob L.h)),some (.dat (.int o)),none,none]) nb (fun x=>x.2.2.sd.o==o) nb ((cA L c).filter fun x=>x.2.2.sd.al) fun x hx=>⟨[some (.dat (ob L.h)),some (.dat (.int o)),some (.dat (.int ((x.1:Int)+1))),some (.dat (ob x.2.1))],by simp[nb],by
  obtain⟨n,hb⟩:=a.hb' (arh.mp hx).1
  simp[hb,iB],fun _=>by simp[nb]⟩
 rw[ar5]at key
 simp[yC,CN,hh,dJ,dR,h1,key,hl]
theorem ZV(k:Int):lg M [ob L.h,.int k]=if 1<=k/\k<=c.bs.length then .ok (ob ((L.bs[(k - 1).toNat]?).getD 0)) else .exc ⟨"NoBeast",[]⟩:=by
 obtain⟨n,hh⟩:=a.hh
 have hlen:(L.bs.length:Int)=c.bs.length:=by rw[a.len]
 by_cases h:1<=k/\k<=c.bs.length
 ·rw[if_pos h]
  obtain⟨j,rfl⟩:∃j:Nat,k=(j:Int)+1:=⟨(k - 1).toNat,by omega⟩
  have hj:j < L.bs.length:=by have:=a.len;omega
  have h1:(1:Int)<=j+1:=by omega
  have h2:(j:Int)+1<=L.bs.length:=by omega
  simp[lg,uF,hh,dJ,h1,h2,hj]
 ·rw[if_neg h]
  by_cases h1:1<=k
  ·have h2:¬k<=L.bs.length:=by omega
   simp[lg,uF,hh,dJ,h1,h2]
  ·simp[lg,uF,hh,dJ,h1]
end
def bk(c:aK)(k:Int):Option dD:=if 1<=k/\k<=c.bs.length then c.bs[(k - 1).toNat]? else none
def hk(L:Lay)(k:Int):Nat:=(L.bs[(k - 1).toNat]?).getD 0
def mJ(b:dD)(e:En):dD:={ b with en:=b.en++[e],sd:=go b.sd e }
def fu(c:aK)(i:Nat)(e:En):aK:={ c with bs:=c.bs.modify i fun b=>mJ b e }
theorem rM{M:Mo}{L:Lay}{c:aK}(a:At M L c){k:Int}{b:dD}(h:bk c k=some b):1<=k/\k<=c.bs.length/\L.bs[(k - 1).toNat]?=some (hk L k)/\c.bs[(k - 1).toNat]?=some b/\∃n,M[hk L k]?=some (iB n b):=by
 unfold bk at h
 split at h
 ·next hh=>
  have hl:(k - 1).toNat < L.bs.length:=by have:=a.len;omega
  have e:L.bs[(k - 1).toNat]?=some (hk L k):=by
   unfold hk
   rw[aqY hl]
   rfl
  exact⟨hh.1,hh.2,e,h,a.hb _ _ _ e h⟩
 ·cases h
theorem aif{c:aK}{k:Int}(h:bk c k=none):¬(1<=k/\k<=c.bs.length):=fun z=>by
 unfold bk at h
 rw[if_pos z,List.getElem?_eq_none_iff]at h
 omega
section
variable{M:Mo}{L:Lay}{c:aK}(a:At M L c)(few:c.bs.length<=50000)
include a few
theorem Jy{k:Int}{b:dD}(h:bk c k=some b):lg M [ob L.h,.int k]=.ok (ob (hk L k)):=by
 obtain⟨h1,h2,_⟩:=rM a h
 rw[ZV a few,if_pos ⟨h1,h2⟩]
 rfl
theorem Sh{k:Int}(h:bk c k=none):lg M [ob L.h,.int k]=.exc ⟨"NoBeast",[]⟩:=by
 rw[ZV a few,if_neg (aif h)]
theorem Ek(k:Int):qZ M [ob L.h,.int k]=match bk c k with
  |none=>.exc ⟨"NoBeast",[]⟩
  |some b=>if b.sd.al then .ok (ob (hk L k)) else .exc ⟨"Dead",[]⟩:=by
 obtain⟨n,hh⟩:=a.hh
 cases h:bk c k with
 |none=>
  have h1:=Sh a few h
  simp[qZ,vU,hh,dJ,fJ,h1]
 |some b=>
  have h1:=Jy a few h
  obtain⟨_,_,_,_,n',hb⟩:=rM a h
  cases h2:b.sd.al <;> simp[qZ,vU,hh,dJ,fJ,h1,hb,iB,h2]
theorem Kv(k:Int):oH M [ob L.h,.int k]=match bk c k with
  |none=>.exc ⟨"NoBeast",[]⟩
  |some b=>if b.sd.al then(if b.sd.due=none then .exc ⟨"Unmarked",[]⟩ else .ok (ob (hk L k))) else .exc ⟨"Dead",[]⟩:=by
 obtain⟨n,hh⟩:=a.hh
 have h0:=Ek a few k
 cases h:bk c k with
 |none=>
  rw[h]at h0
  simp[oH,rA,hh,dJ,bG,h0]
 |some b=>
  rw[h]at h0
  obtain⟨_,_,_,_,n',hb⟩:=rM a h
  cases h2:b.sd.al with
  |false=>
   simp[h2]at h0
   simp[oH,rA,hh,dJ,bG,h0,h2]
  |true=>
   simp[h2]at h0
   cases h3:b.sd.due <;> simp[oH,rA,hh,dJ,bG,h0,hb,iB,h2,h3,sH,pA]
def uK(k:Int)(b:dD):Bool:=(b.mo==k)&&b.sd.due.isNone
theorem adh(k:Int):rB M [ob L.h,.int k]=match bk c k with
  |none=>.exc ⟨"NoBeast",[]⟩
  |some _=>.ok (.list (((cA L c).filter fun x=>uK k x.2.2&&x.2.2.sd.al).map nb)):=by
 obtain⟨n,hh⟩:=a.hh
 have h1:=Bw a few
 have hl:((cA L c).filter fun x=>x.2.2.sd.al).length<=50000:=ars (ark _ _) (by rw[a.len'];exact few)
 have key:=fQ (tg:=bD [2,3]) (tt:=jV (bA (aA cG (bJ "mother" (ao 3)) (ao 1))) (bA (yw false .none (bJ "due" (ao 3))))) (te:=bL (ak (aq 2) (ak (aq 3) au))) (M:=M) (ρ:=[some (.dat (ob L.h)),some (.dat (.int k)),none,none]) nb (fun x=>uK k x.2.2) nb ((cA L c).filter fun x=>x.2.2.sd.al) fun x hx=>⟨[some (.dat (ob L.h)),some (.dat (.int k)),some (.dat (.int ((x.1:Int)+1))),some (.dat (ob x.2.1))],by simp[nb],by
  obtain⟨n,hb⟩:=a.hb' (arh.mp hx).1
  by_cases h2:x.2.2.mo=k <;> cases h3:x.2.2.sd.due <;> simp[hb,iB,uK,h2,h3,sH,pA],fun _=>by simp[nb]⟩
 rw[ar5]at key
 cases h:bk c k with
 |none=>
  have h2:=Sh a few h
  simp[rB,vR,hh,dJ,fJ,h2]
 |some b=>
  have h2:=Jy a few h
  simp[rB,vR,hh,dJ,fJ,dR,h1,h2,key,hl]
theorem Ma(f:Fi)(hf:c.bs.length < 50000):∃M' h,qM M [ob L.h,f.dat]=.ok (.int (c.bs.length+1)) M'/\At M' { L with bs:=L.bs++[h] } { c with bs:=c.bs++[yV f] }:=by
 obtain⟨n,hh⟩:=a.hh
 have hl:L.h < M.length:=(aqX.mp hh).1
 have hi:=ag8 M f
 have hh2:(M++[iB (M.length+1) (yV f),⟨"",[]⟩])[L.h]?=some (dJ n L):=by rw[aq6 hl];exact hh
 have hs:∀i,((M++[iB (M.length+1) (yV f),(⟨"",[]⟩:Inst)]).set L.h i)[L.h]?=some i:=fun i=>by rw[bF hh2,if_pos rfl]
 have hz:c.bs.length < 100000:=by omega
 refine⟨_,M.length,?_,a.anH (M2:=M++[iB (M.length+1) (yV f),⟨"",[]⟩]) (n:=M.length+1) (n2:=n) (aro _) (fun k hk=>by rw[aq6 hk]) (by simp)⟩
 simp[qM,v7,hh,dJ,hi,hh2,hs,hz,a.len]
end
theorem yS{M:Mo}{L:Lay}{c:aK}(a:At M L c){i h n:Nat}{b:dD}{e:En}(h1:L.bs[i]?=some h)(h2:c.bs[i]?=some b):At (M.set h (iB n (mJ b e))) L (fu c i e):=by
 have:=a.setB (n:=n) (b':=mJ b e) h1
 have hm:c.bs.modify i (fun b=>mJ b e)=c.bs.set i (mJ b e):=by
  apply arz
  intro j
  rw[List.getElem?_modify,arS]
  by_cases hj:i=j
  ·subst hj
   have hl:=(aqX.mp h2).1
   simp[hl,h2]
   have:=(aqX.mp h2).2
   rw[this]
  ·simp[hj]
 unfold fu
 rw[hm]
 exact this
theorem wu(c:aK)(i j:Nat)(e:En):(fu c i e).bs[j]?=if i=j then(c.bs[j]?).map fun b=>mJ b e else c.bs[j]?:=by
 unfold fu
 simp only[List.getElem?_modify]
 by_cases h:i=j <;> simp[h]
def vC(xs:List (Nat×Nat×dD))(e:En)(c:aK):aK:=xs.foldl (fun c x=>fu c x.1 e) c
theorem O5{tg:fG}{body:SF}(Q:Rf.Env->Prop)(P:Nat->aK->Prop)(e:En)(L:Lay)(T:Nat):∀(xs:List (Nat×Nat×dD)) (M:Mo) (c:aK) (ρ:Rf.Env) (i:Nat),i+xs.length<=T->At M L c->P i c->Q ρ->
  (∀M c ρ x i,i < T->At M L c->P i c->Q ρ->x∈xs->∃ρ1 ρ2 M2,tg (nb x) ρ=some ρ1/\body M ρ1=.next ρ2 M2/\Q ρ2/\At M2 L (fu c x.1 e)/\P (i+1) (fu c x.1 e))->
  ∃ρ' M',gY tg body (xs.map nb) M ρ=.next ρ' M'/\Q ρ'/\At M' L (vC xs e c)
 |[],M,c,ρ,i,_,a,p,q,_=>⟨ρ,M,rfl,q,a⟩
 |x::xs,M,c,ρ,i,hT,a,p,q,h=>by
  rw[arb]at hT
  obtain⟨ρ1,ρ2,M2,h1,h2,h3,h4,h5⟩:=h M c ρ x i (by omega) a p q aq1
  obtain⟨ρ',M',g1,g2,g3⟩:=O5 Q P e L T xs M2 _ ρ2 (i+1) (by omega) h4 h5 h3 fun M c ρ y i hi a p q hy=>h M c ρ y i hi a p q (aq0 _ hy)
  exact⟨ρ',M',by rw[aqZ,gR h1 h2];exact g1,g2,g3⟩
structure Kr(n:Nat)(c:aK):Prop where
 ear:∀b∈c.bs,b.sd.ear.length=6
 en:∀b∈c.bs,b.en.length<=n
theorem akJ(s:Sd)(e:En)(he:s.ear.length=6)(h2:match e with|.cut l=>l.length=6|.sold _ l=>l.length=6|_=>True):(go s e).ear.length=6:=by
 cases e <;> simp_all [go,uE]
theorem QL(e:En):∀(xs:List (Nat×Nat×dD)) (c:aK) (j:Nat),(xs.map (·.1)).Nodup->(vC xs e c).bs[j]?=if j∈xs.map (·.1) then(c.bs[j]?).map fun b=>mJ b e else c.bs[j]?
 |[],c,j,_=>by simp[vC]
 |x::xs,c,j,nd=>by
  rw[aqZ,asi]at nd
  show(vC xs e (fu c x.1 e)).bs[j]?=_
  rw[QL e xs _ j nd.2,wu]
  by_cases h1:x.1=j
  ·subst h1
   rw[if_neg nd.1,if_pos rfl,if_pos (by simp)]
  ·rw[if_neg h1]
   by_cases h2:j∈xs.map (·.1)
   ·rw[if_pos h2,if_pos (by rw[aqZ];exact aq0 _ h2)]
   ·rw[if_neg h2,if_neg (by
     rw[aqZ,ara]
     rintro(z|z)
     ·exact h1 z.symm
     ·exact h2 z)]
theorem Ol(e:En):∀(xs:List (Nat×Nat×dD)) (c:aK),(vC xs e c)={ c with bs:=(vC xs e c).bs }
 |[],_=>rfl
 |x::xs,c=>by
  show vC xs e (fu c x.1 e)={ c with bs:=(vC xs e (fu c x.1 e)).bs }
  rw[Ol e xs]
  rfl
theorem adP{L:Lay}{c:aK}(p:Nat×Nat×dD->Bool):(((cA L c).filter p).map (·.1)).Nodup:=by
 have h:((cA L c).map (·.1)).Nodup:=by
  have e:(cA L c).map (·.1)=List.range (L.bs.zip c.bs).length:=by
   unfold cA
   apply arz
   intro i
   simp only[aq9,arQ]
   by_cases hi:i < (L.bs.zip c.bs).length
   ·rw[aqY hi,List.getElem?_range hi]
    rfl
   ·rw[arA (by omega:(L.bs.zip c.bs).length<=i),arA (by rw[List.length_range];omega:(List.range (L.bs.zip c.bs).length).length<=i)]
    rfl
  rw[e]
  exact List.nodup_range
 exact h.sublist (List.Sublist.map _ List.filter_sublist)
def nY(p:dD->Bool)(e:En)(c:aK):aK:={ c with bs:=c.bs.map fun b=>if p b then mJ b e else b }
theorem VB{M:Mo}{L:Lay}{c:aK}(a:At M L c)(p:dD->Bool)(e:En):vC ((cA L c).filter fun x=>p x.2.2) e c=nY p e c:=by
 rw[Ol]
 unfold nY
 congr 1
 apply arz
 intro j
 rw[QL _ _ _ _ (adP _),aq9]
 by_cases hj:j < c.bs.length
 ·have hb:=aqY hj
  rw[hb]
  have hl:j < L.bs.length:=by rw[a.len];exact hj
  have mem:(j,L.bs[j],c.bs[j])∈cA L c:=by
   unfold cA
   rw[List.mem_mapIdx]
   refine⟨j,by simp;omega,by simp⟩
  by_cases hp:p c.bs[j]=true
  ·have:j∈((cA L c).filter fun x=>p x.2.2).map (·.1):=aq8.mpr ⟨_,arh.mpr ⟨mem,hp⟩,rfl⟩
   rw[if_pos this]
   simp[hp]
  ·have:j∉((cA L c).filter fun x=>p x.2.2).map (·.1):=fun z=>by
    obtain⟨x,h1,h2⟩:=aq8.mp z
    obtain⟨h3,h4⟩:=arh.mp h1
    obtain⟨_,h5⟩:=DW h3
    rw[h2,hb]at h5
    rw[←ari h5]at h4
    exact hp h4
   rw[if_neg this]
   simp[hp]
 ·rw[arA (by omega:c.bs.length<=j)]
  simp
theorem Kr.step{n:Nat}{c:aK}(bi:Kr n c)(i:Nat)(e:En)(h2:match e with|.cut l=>l.length=6|.sold _ l=>l.length=6|_=>True):Kr (n+1) (fu c i e):=by
 have key:∀b∈(fu c i e).bs,b∈c.bs∨∃b0∈c.bs,b=mJ b0 e:=fun b hb=>by
  obtain⟨j,hj⟩:=List.mem_iff_getElem?.mp hb
  rw[wu]at hj
  split at hj
  ·obtain⟨b0,h3,h4⟩:=arF.mp hj
   exact .inr ⟨b0,aq3 h3,h4.symm⟩
  ·exact .inl (aq3 hj)
 refine⟨fun b hb=>?_,fun b hb=>?_⟩
 ·rcases key b hb with h|⟨b0,h,rfl⟩
  ·exact bi.ear b h
  ·exact akJ _ _ (bi.ear b0 h) h2
 ·rcases key b hb with h|⟨b0,h,rfl⟩
  ·have:=bi.en b h
   omega
  ·have:=bi.en b0 h
   simp[mJ]
   omega
section
variable{M:Mo}{L:Lay}{c:aK}(a:At M L c)(few:c.bs.length<=1000){n:Nat}(bi:Kr n c)(hn:n<=40000)
include a few bi hn
theorem GX(k:Int){b:dD}(hk':bk c k=some b):∃M',oX M [ob L.h,.int k]=.ok .none M'/\At M' L (nY (fun x=>uK k x&&x.sd.al) (.followed b.sd.o b.sd.g) c):=by
 obtain⟨m,hh⟩:=a.hh
 have few2:c.bs.length<=50000:=by omega
 have h1:=Jy a few2 hk'
 have h2:=adh a few2 k
 rw[hk']at h2
 obtain⟨k1,k2,k3,k4,k5⟩:=rM a hk'
 have hlen:((cA L c).filter fun x=>uK k x.2.2&&x.2.2.sd.al).length<=1000:=ars (ark _ _) (by rw[a.len'];exact few)
 obtain⟨ρ',M',g1,g2,g3⟩:=O5 (tg:=bD [3,4]) (body:=qK) (fun ρ=>∃x y,ρ=[some (.dat (ob L.h)),some (.dat (.int k)),some (.dat (ob (hk L k))),x,y])
  (fun i c1=>(∃b1,c1.bs[(k - 1).toNat]?=some b1/\b1.sd.o=b.sd.o/\b1.sd.g=b.sd.g)/\Kr (n+i) c1/\c1.bs.length=c.bs.length) (.followed b.sd.o b.sd.g) L 1000 ((cA L c).filter fun x=>uK k x.2.2&&x.2.2.sd.al) M c [some (.dat (ob L.h)),some (.dat (.int k)),some (.dat (ob (hk L k))),none,none] 0 (by omega) a ⟨⟨b,k4,rfl,rfl⟩,bi,rfl⟩ ⟨none,none,rfl⟩ (fun M1 c1 ρ x i hi a1 p1 q1 hx=>by
   obtain⟨⟨bm,m1,m2,m3⟩,bi1,l1⟩:=p1
   obtain⟨x0,y0,rfl⟩:=q1
   obtain⟨nm,hm⟩:=a1.hb _ _ _ k3 m1
   obtain⟨e1,e2⟩:=DW (arh.mp hx).1
   have hl:x.1 < c1.bs.length:=by rw[l1];exact(aqX.mp e2).1
   have e3:=aqY hl
   obtain⟨nx,hx1⟩:=a1.hb _ _ _ e1 e3
   have mem:=arL hl
   have hb:=tZ hx1 (.followed b.sd.o b.sd.g) (by rw[bi1.ear _ mem];decide) (by have:=bi1.en _ mem;omega)
   refine⟨[some (.dat (ob L.h)),some (.dat (.int k)),some (.dat (ob (hk L k))),some (.dat (.int ((x.1:Int)+1))),some (.dat (ob x.2.1))],[some (.dat (ob L.h)),some (.dat (.int k)),some (.dat (ob (hk L k))),some (.dat (.int ((x.1:Int)+1))),some (.dat (ob x.2.1))],_,by simp[nb],?_,⟨_,_,rfl⟩,yS (n:=nx) a1 e1 e3,?_,bi1.step _ _ trivial,by simp[fu,l1]⟩
   ·have hb:mU M1 [ob x.2.1,.tuple [.str "followed",.int b.sd.o,.int b.sd.g]]=_:=hb
    simp[qK,hx1,hm,bM]
    simp[iB]at hb ⊢
    simp[m2,m3,hb,mJ]
   ·rw[wu,m1]
    by_cases z:x.1=(k - 1).toNat
    ·exact⟨mJ bm (.followed b.sd.o b.sd.g),by rw[if_pos z];rfl,rfl,rfl⟩
    ·exact⟨bm,by rw[if_neg z],m2,m3⟩)
 rw[VB a (fun x=>uK k x&&x.sd.al)]at g3
 refine⟨M',?_,g3⟩
 simp[oX,tM,hh,dJ,fJ,zQ,h1,h2,g1]
end
def pD(p:Int×Int):Dat:=.tuple [.int p.1,.int p.2]
theorem za:∀(x y:List Int),yq (x.map PyData.int) (y.map PyData.int)=(x.zip y).map pD
 |[],_=>by simp[yq]
 |_::_,[]=>by simp[yq]
 |a::x,b::y=>by
  have:=za x y
  unfold yq at this ⊢
  rw[aqZ,aqZ,List.zipWith_cons_cons,this,arv,aqZ]
  rfl
def dI(x y:List Int):Int:=(((x.zip y).filter fun p=>decide (p.1 < p.2)).map fun p=>p.2 - p.1).sum
def fW(x y:List Int):Int:=if dI y x > dI x y then dI y x else dI x y
def iV(x y:List Int):List Int:=(x.zip y).map fun p=>if p.2 > p.1 then p.2 else p.1
theorem agX(x y:List Int)(h:x.length<=1000):(x.zip y).length<=50000:=by
 rw[List.length_zip]
 omega
theorem acK(l:List Int):ZS (.list (l.map PyData.int))=.ok (.int l.sum):=by
 show(match intsOf (l.map PyData.int) with
  |some ns=>Out.ok (PyData.int ns.sum)
  |none=>.bad)=_
 rw[lQ]
theorem Ir(M:Mo)(x y:List Int)(h:x.length<=1000):oE M [aJ x,aJ y]=.ok (.int (dI x y)):=by
 have key:=fQ (tg:=bD [2,3]) (tt:=bA (aA Wz (ao 3) (ao 2))) (te:=aA pB (ao 3) (ao 2)) (M:=M) (ρ:=[some (.dat (aJ x)),some (.dat (aJ y)),none,none]) pD (fun p=>decide (p.1 < p.2)) (fun p=>.int (p.2 - p.1)) (x.zip y) fun p _=>⟨[some (.dat (aJ x)),some (.dat (aJ y)),some (.dat (.int p.1)),some (.dat (.int p.2))],by simp[pD],by simp,fun _=>by simp⟩
 have hz:=agX x y h
 have hs:=acK (((x.zip y).filter fun p=>decide (p.1 < p.2)).map fun p=>p.2 - p.1)
 rw[arw]at hs
 have hz2:min x.length y.length<=50000:=by omega
 simp[oE,UL,za,key,hz2]
 simp[arn]at hs
 simp[hs,dI]
theorem afy(M:Mo)(x y:List Int)(h:x.length<=1000)(h2:y.length<=1000):Gp M [aJ x,aJ y]=.ok (.int (fW x y)):=by
 simp[Gp,Ul,Ir M x y h,Ir M y x h2,fW]
theorem Rv(x y:List Int):fW x y=fW y x:=by
 unfold fW
 split <;> split <;> omega
theorem Uu(M:Mo)(x y:List Int)(r:Int)(h:x.length<=1000)(h2:y.length<=1000):rF M [aJ x,aJ y,.int r]=.ok (.bool (decide (fW x y<=r))):=by
 simp[rF,X8,afy M x y h h2]
theorem Im(M:Mo)(x y:List Int)(h:x.length<=1000):qp M [aJ x,aJ y]=.ok (aJ (iV x y)):=by
 have key:=fj (tg:=bD [2,3]) (te:=aA tL (ao 2) (ao 3)) (M:=M) (ρ:=[some (.dat (aJ x)),some (.dat (aJ y)),none,none]) pD (fun p=>.int (if p.2 > p.1 then p.2 else p.1)) (x.zip y) fun p _=>⟨[some (.dat (aJ x)),some (.dat (aJ y)),some (.dat (.int p.1)),some (.dat (.int p.2))],by simp[pD],by simp⟩
 have hz2:min x.length y.length<=50000:=by omega
 simp[qp,Vb,za,key,hz2,iV]
abbrev Rw:=Ear.Rw
theorem Vv:∀R:List Rw,Ed (R.map Ear.rD)=some R
 |[]=>rfl
 |r::R=>by
  rw[aqZ,Ed,Vv R]
  have:acj (Ear.rD r)=some r:=by
   unfold Ear.rD Ear.dT
   show(intsOf (r.2.map PyData.int)).map _=_
   rw[lQ]
   rfl
  rw[this]
  rfl
theorem KC(M:Mo)(R:List Rw)(h:R.eraseDups.length<=76):qU M [.list (R.map Ear.rD)]=.ok (.list ((bK R).map Ear.rD)):=by
 have:Qx (.list (R.map Ear.rD))=.ok (.list ((bK R).map Ear.rD)):=by
  show(match Ed (R.map Ear.rD) with
   |some R=>match decide (R.eraseDups.length<=76) with
    |true=>Out.ok (PyData.list ((bK R).map Ear.rD))
    |false=>.bad
   |none=>.bad)=_
  rw[Vv]
  show(match decide (R.eraseDups.length<=76) with
    |true=>Out.ok (PyData.list ((bK R).map Ear.rD))
    |false=>.bad)=_
  rw[decide_eq_true h]
 simp[qU,O9,this]
theorem qG(R:List Rw):(bK R).length=R.eraseDups.length:=by
 unfold bK Rr
 rw[List.length_mergeSort]
def wD(o:Int)(e:List Int)(R:List Rw)(room:Int):List Rw:=(bK R).filter fun r=>!(r.1==o)&&decide (fW e r.2<=room)
def tG(R:List Rw):Prop:=∀r∈R,r.2.length=6
theorem abL(M:Mo)(o:Int)(e:List Int)(R:List Rw)(room:Int)(he:e.length=6)(hR:tG R)(h:R.eraseDups.length<=76):Bf M [.int o,aJ e,.list (R.map Ear.rD),.int room]=.ok (.list ((wD o e R room).map Ear.rD)):=by
 have ht:=KC M R h
 have hl:(bK R).length<=50000:=by rw[qG];omega
 have key:=fQ (tg:=bD [4,5]) (tt:=jV (bA (aA yO (ao 4) (ao 0))) (gG (aV rF (ak (aq 1) (ak (aq 5) (ak (aq 3) au)))))) (te:=bL (ak (aq 4) (ak (aq 5) au))) (M:=M) (ρ:=[some (.dat (.int o)),some (.dat (aJ e)),some (.dat (.list (R.map Ear.rD))),some (.dat (.int room)),none,none]) Ear.rD (fun r=>!(r.1==o)&&decide (fW e r.2<=room)) Ear.rD (bK R) fun r hr=>⟨[some (.dat (.int o)),some (.dat (aJ e)),some (.dat (.list (R.map Ear.rD))),some (.dat (.int room)),some (.dat (.int r.1)),some (.dat (aJ r.2))],by simp[Ear.rD,Ear.dT],by
  have:=Uu M e r.2 room (by omega) (by rw[hR r (dW.mp hr)];decide)
  by_cases hz:r.1=o <;> simp[this,hz],fun _=>by simp[Ear.rD,Ear.dT]⟩
 simp[Bf,Ly,ht,key,hl,wD]
theorem N7(M:Mo)(o:Int)(e:List Int)(R:List Rw)(room:Int)(he:e.length=6)(hR:tG R)(h:R.eraseDups.length<=76):o7 M [.int o,aJ e,.list (R.map Ear.rD),.int room]=match wD o e R room with
  |[]=>.ok .none
  |r::_=>.exc ⟨"Clash",[("ear",aJ (iV e r.2)),("others",Ear.rD r),("ones",Ear.rD (o,e))]⟩:=by
 have hb:=abL M o e R room he hR h
 cases hx:wD o e R room with
 |nil=>
  rw[hx]at hb
  simp[o7,Cd,hb]
 |cons r rs=>
  rw[hx]at hb
  have hj:=Im M e r.2 (by omega)
  simp[o7,Cd,hb]
  simp[Ear.rD,Ear.dT,hj]
theorem Ju{α β:Type}{tg tg1:fG}{tt tt1:QT}{it1:IF}{vs1:List Nat}{te:QF}{M:Mo}{ρ:Rf.Env}(ds:α->Dat)(ys:α->List β)(ds1:β->Dat)(p:α->β->Bool)(f:α->β->Dat):∀(xs:List α),(∀x∈xs,∃ρ1,tg (ds x) ρ=some ρ1/\tt M ρ1=.ok true/\zY ρ1=true/\it1 M ρ1=.ok ((ys x).map ds1)/\∀y∈ys x,∃ρ2,tg1 (ds1 y) (bR ρ1 vs1)=some ρ2/\tt1 M ρ2=.ok (p x y)/\(p x y=true->te M ρ2=.ok (f x y)))->
  iD tg tt it1 tg1 vs1 tt1 te M ρ (xs.map ds)=.ok (xs.flatMap fun x=>((ys x).filter (p x)).map (f x))
 |[],_=>rfl
 |x::xs,h=>by
  obtain⟨ρ1,h1,h2,h3,h4,h5⟩:=h x aq1
  have ih:=Ju ds ys ds1 p f xs fun y hy=>h y (aq0 _ hy)
  have hc:=fQ (tg:=tg1) (tt:=tt1) (te:=te) (M:=M) (ρ:=bR ρ1 vs1) ds1 (p x) (f x) (ys x) h5
  rw[aqZ,iD,h1]
  show((xY (tt M ρ1)).bind fun b=>if b=true then Out.when (zY ρ1) ((xY (it1 M ρ1)).bind fun es=>(cP tg1 tt1 te M (bR ρ1 vs1) es).bind fun r1=>(iD tg tt it1 tg1 vs1 tt1 te M ρ (xs.map ds)).bind fun r=>Out.ok (r1++r)) else iD tg tt it1 tg1 vs1 tt1 te M ρ (xs.map ds))=_
  rw[h2,aaf,Out.zH,if_pos rfl,h3,Out.VF,h4,aaf,Out.zH,hc,Out.zH,ih,Out.zH,List.flatMap_cons]
def cI(x:List Int):Bool:=decide (x.length=6)&&x.all fun d=>decide (0<=d)&&decide (d<=9)
theorem Bb(l:List Bool):qP (l.map PyData.bool)=some l:=by
 induction l with
 |nil=>rfl
 |cons b l ih=>rw[aqZ,qP,ih];rfl
theorem VD(M:Mo)(x:List Int)(h:x.length<=1000):ux M [aJ x]=.ok (.bool (cI x)):=by
 have key:=fj (tg:=aF 1) (te:=Vx (oY rG rG (qC (.int 0)) (ao 1) (qC cV))) (M:=M) (ρ:=[some (.dat (aJ x)),none]) PyData.int (fun d=>.bool (decide (0<=d)&&decide (d<=9))) x fun d _=>⟨[some (.dat (aJ x)),some (.dat (.int d))],by simp,by
  by_cases h0:0<=d <;> simp[h0,cV]⟩
 have ha:Ik (.list (x.map fun d=>PyData.bool (decide (0<=d)&&decide (d<=9))))=.ok (.bool (x.all fun d=>decide (0<=d)&&decide (d<=9))):=by
  have e:(x.map fun d=>PyData.bool (decide (0<=d)&&decide (d<=9)))=(x.map fun d=>decide (0<=d)&&decide (d<=9)).map PyData.bool:=by rw[arw];rfl
  rw[e]
  show(match qP _ with
   |some bs=>Out.ok (PyData.bool (bs.all id))
   |none=>.bad)=_
  rw[Bb]
  simp[List.all_map,arn]
 have hl:x.length<=50000:=by omega
 by_cases h6:x.length=6
 ·have h6':((x.length:Int)==6)=true:=by simp[h6]
  simp[ux,Jd,jd,key,hl,ha,cI,h6]
 ·have h6':¬(x.length:Int)=6:=by omega
  simp[ux,Jd,jd,cI,h6,h6']
theorem Fv(M:Mo)(x:List Int)(h:x.length<=1000):mj M [aJ x]=if cI x then .ok .none else .exc ⟨"BadEar",[]⟩:=by
 have:=VD M x h
 cases hb:cI x <;> simp[mj,IV,this,hb]
def pairD(p:Rw×Rw):Dat:=.tuple [Ear.rD p.1,Ear.rD p.2]
def jM(T:List Rw)(room:Int):List (Rw×Rw):=(T.mapIdx fun i r=>(i,r)).flatMap fun x=>((T.drop (x.1+1)).filter fun s=>!(x.2.1==s.1)&&decide (fW x.2.2 s.2<=room)).map fun s=>(x.2,s)
theorem aaj(T:List Rw)(room:Int):(jM T room).length<=T.length * T.length:=by
 unfold jM
 rw[List.length_flatMap]
 have key:∀(l:List (Nat×Rw)),(l.map fun x=>(((T.drop (x.1+1)).filter fun s=>!(x.2.1==s.1)&&decide (fW x.2.2 s.2<=room)).map fun s=>(x.2,s)).length).sum<=l.length * T.length:=by
  intro l
  induction l with
  |nil=>simp
  |cons x l ih=>
   rw[aqZ,List.sum_cons,arb,Nat.add_mul,Nat.one_mul]
   have:(((T.drop (x.1+1)).filter fun s=>!(x.2.1==s.1)&&decide (fW x.2.2 s.2<=room)).map fun s=>(x.2,s)).length<=T.length:=by
    rw[aq7]
    refine ars (ark _ _) ?_
    rw[ar9]
    omega
   omega
 have:=key (T.mapIdx fun i r=>(i,r))
 rw[List.length_mapIdx]at this
 exact this
theorem aam(M:Mo)(R:List Rw)(room:Int)(hR:tG R)(h:R.eraseDups.length<=76):uW M [.list (R.map Ear.rD),.int room]=.ok (.list ((jM (bK R) room).map pairD)):=by
 have ht:=KC M R h
 have hl:(bK R).length<=76:=by rw[qG];exact h
 have hE:∀r∈bK R,r.2.length=6:=fun r hr=>hR r (dW.mp hr)
 generalize bK R=T at ht hl hE
 have he:tH 0 (T.map Ear.rD)=(T.mapIdx fun i r=>(i,r)).map fun(x:Nat×Rw)=>PyData.tuple [.int x.1,Ear.rD x.2]:=by
  unfold tH
  apply arz
  intro i
  simp
  cases T[i]? <;> simp
 have key:=Ju (tg:=bD [3,4]) (tg1:=aF 5) (tt:=iG) (it1:=cZ (LK (ao 2) (pN (aA gK (ao 3) (qC (.int 1)))) xQ)) (vs1:=[5]) (tt1:=jV (bA (aA yO (aA aO (ao 4) (qC (.int 0))) (aA aO (ao 5) (qC (.int 0))))) (gG (aV rF (ak (aA aO (ao 4) (qC (.int 1))) (ak (aA aO (ao 5) (qC (.int 1))) (ak (aq 1) au)))))) (te:=bL (ak (aq 4) (ak (aq 5) au))) (M:=M) (ρ:=[some (.dat (.list (R.map Ear.rD))),some (.dat (.int room)),some (.dat (.list (T.map Ear.rD))),none,none,none])
  (fun(x:Nat×Rw)=>PyData.tuple [.int x.1,Ear.rD x.2]) (fun x=>T.drop (x.1+1)) Ear.rD (fun x s=>!(x.2.1==s.1)&&decide (fW x.2.2 s.2<=room)) (fun x s=>pairD (x.2,s)) (T.mapIdx fun i r=>(i,r)) fun x hx=>⟨[some (.dat (.list (R.map Ear.rD))),some (.dat (.int room)),some (.dat (.list (T.map Ear.rD))),some (.dat (.int x.1)),some (.dat (Ear.rD x.2)),none],by simp,rfl,rfl,by
   have:=Zj (T.map Ear.rD) (x.1+1)
   simp at this ⊢
   rw[this],fun s hs=>⟨[some (.dat (.list (R.map Ear.rD))),some (.dat (.int room)),some (.dat (.list (T.map Ear.rD))),some (.dat (.int x.1)),some (.dat (Ear.rD x.2)),some (.dat (Ear.rD s))],by simp,by
   obtain⟨i,hi,rfl⟩:=List.mem_mapIdx.mp hx
   have h1:=hE _ (arL hi)
   have h2:=hE s (List.mem_of_mem_drop hs)
   have:=Uu M (T[i]).2 s.2 room (by omega) (by omega)
   by_cases hz:(T[i]).1=s.1 <;> simp[Ear.rD,Ear.dT,this,hz],fun _=>by simp[pairD]⟩⟩
 have e2:((T.mapIdx fun i r=>(i,r)).flatMap fun x=>((T.drop (x.1+1)).filter fun s=>!(x.2.1==s.1)&&decide (fW x.2.2 s.2<=room)).map fun s=>pairD (x.2,s))=(jM T room).map pairD:=by
  unfold jM
  rw[List.map_flatMap]
  congr 1
  funext x
  rw[arw]
  rfl
 rw[e2]at key
 have hc:(jM T room).length<=50000:=by
  have:=aaj T room
  have:T.length * T.length<=76 * 76:=Nat.mul_le_mul hl hl
  omega
 simp[uW,Jw,ht]
 rw[he]
 simp[key,hc]
def hdD(x:List Int×Int):Dat:=.tuple [aJ x.1,.int x.2]
def Ky(d l:Int):Int:=(if 9 < d+l then 9 else d+l)+1
def Cj(d l:Int):List Int:=(List.range (Ky d l - d).toNat).map fun(i:Nat)=>d+(i:Int)
def stepT(d:Int)(H:List (List Int×Int)):List (List Int×Int):=H.flatMap fun x=>(Cj d x.2).map fun cut=>(x.1++[cut],x.2 - (cut - d))
structure Ox(k:Nat)(H:List (List Int×Int)):Prop where
 len:H.length<=4 ^ k
 left:∀x∈H,0<=x.2/\x.2<=3
 hd:∀x∈H,x.1.length=k/\∀y∈x.1,0<=y/\y<=9
theorem adp{d l:Int}(hl:0<=l/\l<=3):(Cj d l).length<=4:=by
 unfold Cj Ky
 simp
 split <;> omega
theorem V7{d l y:Int}(h:y∈Cj d l):d<=y/\y<=d+l/\y<=9:=by
 unfold Cj Ky at h
 obtain⟨i,hi,rfl⟩:=aq8.mp h
 rw[List.mem_range]at hi
 split at hi <;> omega
theorem VG{k:Nat}{H:List (List Int×Int)}{d:Int}(i:Ox k H)(hd:0<=d/\d<=9):Ox (k+1) (stepT d H):=by
 refine⟨?_,fun x hx=>?_,fun x hx=>?_⟩
 ·have key:∀l:List (List Int×Int),(∀x∈l,0<=x.2/\x.2<=3)->(stepT d l).length<=l.length * 4:=by
   intro l
   induction l with
   |nil=>intro _;simp[stepT]
   |cons x l ih=>
    intro h
    have h1:=ih fun y hy=>h y (aq0 _ hy)
    have h2:=adp (d:=d) (h x aq1)
    unfold stepT at h1 ⊢
    rw[List.flatMap_cons,arP,aq7,arb]
    omega
  have:=key H i.left
  have:=i.len
  rw[Nat.pow_succ]
  omega
 ·unfold stepT at hx
  obtain⟨y,hy,hx⟩:=List.mem_flatMap.mp hx
  obtain⟨c,hc,rfl⟩:=aq8.mp hx
  have:=V7 hc
  have:=i.left y hy
  show 0<=y.2 - (c - d)/\y.2 - (c - d)<=3
  omega
 ·unfold stepT at hx
  obtain⟨y,hy,hx⟩:=List.mem_flatMap.mp hx
  obtain⟨c,hc,rfl⟩:=aq8.mp hx
  have:=V7 hc
  obtain⟨h1,h2⟩:=i.hd y hy
  refine⟨by simp[h1],fun z hz=>?_⟩
  rcases aq5.mp hz with hz|hz
  ·exact h2 z hz
  ·rw[aq2.mp hz]
   omega
theorem aec(M:Mo)(e m:Option Cell)(he:zY [e,m]=true){k:Nat}{H:List (List Int×Int)}{d:Int}(i:Ox k H)(hk:k<=5)(hd:0<=d/\d<=9):CP M [e,m,some (.dat (.list (H.map hdD))),some (.dat (.int d)),none,none,none]=.next [e,m,some (.dat (.list ((stepT d H).map hdD))),some (.dat (.int d)),none,none,none] M:=by
 have key:=Ju (tg:=bD [4,5]) (tg1:=aF 6) (tt:=iG) (it1:=Cr (ao 3) (aA gK (aA Jm (aA gK (ao 3) (ao 5)) (qC cV)) (qC (.int 1)))) (vs1:=[6]) (tt1:=iG) (te:=bL (ak (aA gK (ao 4) (bL (ak (aq 6) au))) (ak (aA pB (ao 5) (aA pB (ao 6) (ao 3))) au))) (M:=M) (ρ:=[e,m,some (.dat (.list (H.map hdD))),some (.dat (.int d)),none,none,none])
  hdD (fun x=>Cj d x.2) PyData.int (fun _ _=>true) (fun x c=>hdD (x.1++[c],x.2 - (c - d))) H fun x hx=>⟨[e,m,some (.dat (.list (H.map hdD))),some (.dat (.int d)),some (.dat (aJ x.1)),some (.dat (.int x.2)),none],by simp[hdD],rfl,by
   simp[zY]at he ⊢
   exact he,by
   have hl:=i.left x hx
   have hz:Ky d x.2<=100000/\-100000<=Ky d x.2/\d<=100000/\-100000<=d:=by unfold Ky;split <;> omega
   have e1:fH d (Ky d x.2 - d).toNat=(Cj d x.2).map PyData.int:=by
    unfold fH Cj
    rw[arw]
    rfl
   have e2:(if 9 < d+x.2 then(9:Int) else d+x.2)+1=Ky d x.2:=rfl
   simp[cV,e2,e1,hz],fun c hc=>⟨[e,m,some (.dat (.list (H.map hdD))),some (.dat (.int d)),some (.dat (aJ x.1)),some (.dat (.int x.2)),some (.dat (.int c))],by simp,rfl,fun _=>by
   have h1:=(i.hd x hx).1
   have h2:x.1.length+1<=100000:=by omega
   simp[hdD,h2]⟩⟩
 have e2:(H.flatMap fun x=>((Cj d x.2).filter fun _=>true).map fun c=>hdD (x.1++[c],x.2 - (c - d)))=(stepT d H).map hdD:=by
  unfold stepT
  rw[List.map_flatMap]
  congr 1
  funext x
  rw[List.filter_eq_self.mpr (fun _ _=>rfl),arw]
  rfl
 rw[e2]at key
 have hl:(stepT d H).length<=50000:=by
  have:=(VG i hd).len
  have:4 ^ (k+1)<=4 ^ 6:=Nat.pow_le_pow_right (by decide) (by omega)
  omega
 simp[CP,key,hl]
theorem Lf(M:Mo)(e m:Option Cell)(he:zY [e,m]=true):∀(ear:List Int) (k:Nat) (H:List (List Int×Int)) (o:Option Cell),Ox k H->k+ear.length<=6->(∀d∈ear,0<=d/\d<=9)->
  (∃o',gY (aF 3) CP (ear.map PyData.int) M [e,m,some (.dat (.list (H.map hdD))),o,none,none,none]=.next [e,m,some (.dat (.list ((ear.foldl (fun H d=>stepT d H) H).map hdD))),o',none,none,none] M)/\Ox (k+ear.length) (ear.foldl (fun H d=>stepT d H) H)
 |[],k,H,o,i,_,_=>⟨⟨o,rfl⟩,i⟩
 |d::ear,k,H,o,i,hk,hd=>by
  rw[arb]at hk
  have h1:=hd d aq1
  obtain⟨⟨o',ih⟩,i2⟩:=Lf M e m he ear (k+1) (stepT d H) (some (.dat (.int d))) (VG i h1) (by omega) fun y hy=>hd y (aq0 _ hy)
  refine⟨⟨o',?_⟩,?_⟩
  ·rw[aqZ,gR (ρ1:=[e,m,some (.dat (.list (H.map hdD))),some (.dat (.int d)),none,none,none]) (by simp) (aec M e m he i (by omega) h1),ih]
   rfl
  ·rw[arb,show k+(ear.length+1)=k+1+ear.length by omega]
   exact i2
def Ey(ear:List Int)(many:Int):List (List Int):=(ear.foldl (fun H d=>stepT d H) [([],many)]).map (·.1)
theorem aes{many:Int}(hm:0<=many/\many<=3):Ox 0 [([],many)]:=⟨by simp,fun x hx=>by rw[aq2.mp hx];exact hm,fun x hx=>by rw[aq2.mp hx];simp⟩
theorem Qh{ear:List Int}{many:Int}(he:cI ear=true)(hm:0<=many/\many<=3):Ox 6 (ear.foldl (fun H d=>stepT d H) [([],many)]):=by
 unfold cI at he
 rw[aqW,decide_eq_true_eq,arl]at he
 have:=(Lf [] none none rfl ear 0 [([],many)] none (aes hm) (by omega) fun d hd=>by simpa using he.2 d hd).2
 rw[he.1]at this
 exact this
theorem aho(M:Mo)(ear:List Int)(many:Int)(he:cI ear=true)(hm:0<=many/\many<=3):Lh M [aJ ear,.int many]=.ok (.list ((Ey ear many).map aJ)):=by
 have he':=he
 unfold cI at he'
 rw[aqW,decide_eq_true_eq,arl]at he'
 obtain⟨⟨o',h1⟩,_⟩:=Lf M (some (.dat (aJ ear))) (some (.dat (.int many))) rfl ear 0 [([],many)] none (aes hm) (by omega) fun d hd=>by simpa using he'.2 d hd
 have hi:=Qh he hm
 generalize hH:ear.foldl (fun H d=>stepT d H) [([],many)]=H at h1 hi
 have key:=fj (tg:=bD [4,5]) (te:=aq 4) (M:=M) (ρ:=[some (.dat (aJ ear)),some (.dat (.int many)),some (.dat (.list (H.map hdD))),o',none,none,none]) hdD (fun x=>aJ x.1) H fun x _=>⟨[some (.dat (aJ ear)),some (.dat (.int many)),some (.dat (.list (H.map hdD))),o',some (.dat (aJ x.1)),some (.dat (.int x.2)),none],by simp[hdD],by simp⟩
 have hl:H.length<=50000:=by
  have:=hi.len
  have:(4:Nat) ^ 6=4096:=by decide
  omega
 have h1':gY (aF 3) CP (ear.map PyData.int) M [some (.dat (aJ ear)),some (.dat (.int many)),some (.dat (.list [.tuple [.tuple [],.int many]])),none,none,none,none]=_:=h1
 have key2:∀o2:Option Cell,cP (bD [4,5]) iG (aq 4) M [some (.dat (aJ ear)),some (.dat (.int many)),some (.dat (.list (H.map hdD))),o2,none,none,none] (H.map hdD)=.ok (H.map fun x=>aJ x.1):=fun o2=>fj (tg:=bD [4,5]) (te:=aq 4) (M:=M) (ρ:=[some (.dat (aJ ear)),some (.dat (.int many)),some (.dat (.list (H.map hdD))),o2,none,none,none]) hdD (fun x=>aJ x.1) H fun x _=>⟨[some (.dat (aJ ear)),some (.dat (.int many)),some (.dat (.list (H.map hdD))),o2,some (.dat (aJ x.1)),some (.dat (.int x.2)),none],by simp[hdD],by simp⟩
 simp[Lh,Za,h1',key2,hl,Ey,hH]
def Oo(mark:List Int)(extra:Int):List (List Int):=(Ey mark extra).filter fun e=>dI mark e==extra
theorem Wh{ear:List Int}{many:Int}(he:cI ear=true)(hm:0<=many/\many<=3){x:List Int}(h:x∈Ey ear many):cI x=true:=by
 obtain⟨y,hy,rfl⟩:=aq8.mp h
 obtain⟨h1,h2⟩:=(Qh he hm).hd y hy
 unfold cI
 rw[aqW,decide_eq_true_eq,arl]
 exact⟨h1,fun d hd=>by simpa using h2 d hd⟩
theorem ac3{ear:List Int}{many:Int}(he:cI ear=true)(hm:0<=many/\many<=3):(Ey ear many).length<=4096:=by
 unfold Ey
 rw[aq7]
 exact(Qh he hm).len
theorem Yj(M:Mo)(mark:List Int)(extra:Int)(he:cI mark=true)(hm:0<=extra/\extra<=3):vH M [aJ mark,.int extra]=.ok (.list ((Oo mark extra).map aJ)):=by
 have h1:=aho M mark extra he hm
 have hl:=ac3 he hm
 have h6:mark.length<=1000:=by
  unfold cI at he
  rw[aqW,decide_eq_true_eq]at he
  omega
 have key:=fQ (tg:=aF 2) (tt:=bA (aA cG (aV oE (ak (aq 0) (ak (aq 2) au))) (ao 1))) (te:=aq 2) (M:=M) (ρ:=[some (.dat (aJ mark)),some (.dat (.int extra)),none]) aJ (fun e=>dI mark e==extra) aJ (Ey mark extra) fun x _=>⟨[some (.dat (aJ mark)),some (.dat (.int extra)),some (.dat (aJ x))],by simp,by
  have:=Ir M mark x h6
  simp[this],fun _=>by simp⟩
 have hl2:(Ey mark extra).length<=50000:=by omega
 simp[vH,EY,h1,key,hl2,Oo]
def zX(R:List Rw)(room:Int)(e:List Int):Bool:=!(R.any fun r=>decide (fW e r.2<=room))
theorem X3(l:List Bool):P0 (.list (l.map PyData.bool))=.ok (.bool (l.any id)):=by
 show(match qP (l.map PyData.bool) with
  |some bs=>Out.ok (PyData.bool (bs.any id))
  |none=>.bad)=_
 rw[Bb]
theorem ach(M:Mo)(R:List Rw)(room:Int)(hR:tG R)(hl:R.length<=50000)(mk:List Int)(x:Int)(e:List Int)(he:e.length=6) :
  j7 M [some (.dat (aJ mk)),some (.dat (.int x)),some (.dat (.list (R.map Ear.rD))),some (.dat (.int room)),some (.dat (aJ e)),none,none]=if zX R room e then .ret (aJ e) M else .next [some (.dat (aJ mk)),some (.dat (.int x)),some (.dat (.list (R.map Ear.rD))),some (.dat (.int room)),some (.dat (aJ e)),none,none] M:=by
 have key:=fj (tg:=bD [5,6]) (te:=aV rF (ak (aq 4) (ak (aq 6) (ak (aq 3) au)))) (M:=M) (ρ:=[some (.dat (aJ mk)),some (.dat (.int x)),some (.dat (.list (R.map Ear.rD))),some (.dat (.int room)),some (.dat (aJ e)),none,none]) Ear.rD (fun r=>.bool (decide (fW e r.2<=room))) R fun r hr=>⟨[some (.dat (aJ mk)),some (.dat (.int x)),some (.dat (.list (R.map Ear.rD))),some (.dat (.int room)),some (.dat (aJ e)),some (.dat (.int r.1)),some (.dat (aJ r.2))],by simp[Ear.rD,Ear.dT],by
  have:=Uu M e r.2 room (by omega) (by rw[hR r hr];decide)
  simp[this]⟩
 have ha:=X3 (R.map fun r=>decide (fW e r.2<=room))
 rw[arw]at ha
 simp only[arn,ar8]at ha
 cases hf:zX R room e <;> simp[j7,key,hl,ha] <;> simp[zX]at hf <;> simpa using hf
theorem QC(M:Mo)(R:List Rw)(room:Int)(hR:tG R)(hl:R.length<=50000)(mk:List Int)(x:Int):∀(es:List (List Int)) (o:Option Cell),(∀e∈es,e.length=6)->
  match es.find? (zX R room) with
   |some e=>gY (aF 4) j7 (es.map aJ) M [some (.dat (aJ mk)),some (.dat (.int x)),some (.dat (.list (R.map Ear.rD))),some (.dat (.int room)),o,none,none]=.ret (aJ e) M
   |none=>∃ρ',gY (aF 4) j7 (es.map aJ) M [some (.dat (aJ mk)),some (.dat (.int x)),some (.dat (.list (R.map Ear.rD))),some (.dat (.int room)),o,none,none]=.next ρ' M
 |[],o,_=>⟨_,rfl⟩
 |e::es,o,he=>by
  have h1:=ach M R room hR hl mk x e (he e aq1)
  have ih:=QC M R room hR hl mk x es (some (.dat (aJ e))) fun y hy=>he y (aq0 _ hy)
  rw[List.find?_cons]
  cases hf:zX R room e with
  |true=>
   rw[hf,if_pos rfl]at h1
   show gY _ _ _ _ _=_
   rw[aqZ,gY]
   simp[h1]
  |false=>
   rw[hf,if_neg (by decide)]at h1
   have e1:gY (aF 4) j7 ((e::es).map aJ) M [some (.dat (aJ mk)),some (.dat (.int x)),some (.dat (.list (R.map Ear.rD))),some (.dat (.int room)),o,none,none]=gY (aF 4) j7 (es.map aJ) M [some (.dat (aJ mk)),some (.dat (.int x)),some (.dat (.list (R.map Ear.rD))),some (.dat (.int room)),some (.dat (aJ e)),none,none]:=by
    rw[aqZ,gR (by simp) h1]
   rw[e1]
   exact ih
theorem WW(M:Mo)(mark:List Int)(extra:Int)(R:List Rw)(room:Int)(he:cI mark=true)(hm:0<=extra/\extra<=3)(hR:tG R)(hl:R.length<=50000):pY M [aJ mark,.int extra,.list (R.map Ear.rD),.int room]=match (Oo mark extra).find? (zX R room) with
  |some e=>.ok (aJ e)
  |none=>.exc ⟨"NoneFree",[]⟩:=by
 have h1:=Yj M mark extra he hm
 have h2:=QC M R room hR hl mark extra (Oo mark extra) none fun e h=>by
  have:=Wh he hm (arh.mp h).1
  unfold cI at this
  rw[aqW,decide_eq_true_eq]at this
  exact this.1
 cases hf:(Oo mark extra).find? (zX R room) with
 |some e=>
  rw[hf]at h2
  simp[pY,yD,h1,h2]
 |none=>
  rw[hf]at h2
  obtain⟨ρ',h2⟩:=h2
  simp[pY,yD,h1,h2]
@[simp]theorem am5 (L:Lay) (c:aK):(aQ L c).cls="Commons":=rfl
theorem any_keys(y:Int)(l:List Int):((l.map fun o=>(PyData.int o,PyData.bool true)).any fun p=>PyData.eqv p.1 (.int y))=decide (y∈l):=by
 have:=any_ints y l
 rw[ar8]at this ⊢
 exact this
section
variable{M:Mo}{L:Lay}{c:aK}(a:At M L c)
include a
theorem lM(o:Int):jG M [ob L.c,.int o]=if o∈c.own then .ok .none else .exc ⟨"NoOwner",[]⟩:=by
 have hc:=a.hc
 have hk:=any_keys o c.own
 simp only[ar8,arn]at hk
 by_cases h:o∈c.own
 ·rw[decide_eq_true h]at hk
  rw[if_pos h]
  simp[jG,lU,hc,aQ,arn,hk]
  rw[if_neg (fun z=>z o h rfl)]
 ·rw[decide_eq_false h]at hk
  rw[if_neg h]
  simp[jG,lU,hc,aQ,arn,hk]
  have hz:∀x:Int,x∈c.own->¬x=o:=fun x hx e=>h (e ▸ hx)
  rw[if_pos hz]
theorem wN(i:cY c)(x:Int):pP M [ob L.c,.int x]=if Vg c x then .ok (.int (roomOf c x)) else .exc ⟨"NoGround",[]⟩:=by
 have hc:=a.hc
 obtain⟨n,m,hg⟩:=a.hg
 have h1:=agN a i x
 by_cases h:Vg c x
 ·rw[if_pos h]at h1 ⊢
  simp[pP,uH,hc,aQ,hg,dw,sW,h1]
 ·rw[if_neg h]at h1 ⊢
  simp[pP,uH,hc,aQ,hg,dw,sW,h1]
theorem Bx(i:cY c)(x:Int):lu M [ob L.c,.int x]=if Vg c x then .ok (lI (aH c x)) else .exc ⟨"NoGround",[]⟩:=by
 have hc:=a.hc
 obtain⟨n,m,hg⟩:=a.hg
 have h1:=vL a i x
 by_cases h:Vg c x
 ·rw[if_pos h]at h1 ⊢
  simp[lu,oZ,hc,aQ,hg,dw,bB,h1]
 ·rw[if_neg h]at h1 ⊢
  simp[lu,oZ,hc,aQ,hg,dw,bB,h1]
theorem adb:qT M [ob L.c]=.ok (lI c.own):=by
 have hc:=a.hc
 simp[qT,wA,hc,aQ,arn]
theorem rE(few:c.held.length<=50000)(o g:Int):mD M [ob L.c,.int o,.int g]=if bU c o g=[] then .exc ⟨"NoRight",[]⟩ else .ok .none:=by
 have hc:=a.hc
 have hr:=a.hr
 have h1:=Yh a few o g
 by_cases h:bU c o g=[] <;> simp[mD,qX,hc,aQ,hr,nZ,rZ,h1,h]
theorem Bm(few:c.held.length<=50000)(o g:Int){mk:List Int}{r:List (List Int)}(h:bU c o g=mk::r):mF M [ob L.c,.int o,.int g]=.ok (aJ mk):=by
 have hc:=a.hc
 have hr:=a.hr
 have h1:=Iv a few o g
 rw[h]at h1
 simp[mF,qI,hc,aQ,hr,nZ,cJ,h1]
end
def inR(c:aK)(near:List Int):List Rw:=(c.held.filter fun r=>decide (r.2.1∈near)).map fun r=>(r.1,r.2.2)
def YS(lo:Int)(x:Nat×Nat×dD):Bool:=x.2.2.sd.due.isSome&&!(((x.1:Int)+1)==lo)
def Ow(L:Lay)(c:aK)(lo:Int)(near:List Int):List Rw:=(((cA L c).filter fun x=>decide (x.2.2.sd.g∈near)&&x.2.2.sd.al).filter (YS lo)).map fun x=>(x.2.2.sd.o,x.2.2.sd.due.getD [])
def fK(L:Lay)(c:aK)(lo x:Int):List Rw:=inR c (aH c x)++Ow L c lo (aH c x)
section
variable{M:Mo}{L:Lay}{c:aK}(a:At M L c)
include a
theorem Et(i:cY c)(few:c.held.length<=20000)(fewb:c.bs.length<=20000)(lo x:Int)(h76:(fK L c lo x).eraseDups.length<=76):iW M [ob L.c,.int lo,.int x]=if Vg c x then .ok (.list ((bK (fK L c lo x)).map Ear.rD)) else .exc ⟨"NoGround",[]⟩:=by
 have hc:=a.hc
 have hr:=a.hr
 obtain⟨n,hh⟩:=a.hh
 have h1:=Bx a i x
 by_cases h:Vg c x
 ·rw[if_pos h]at h1 ⊢
  have h2:=QH a (by omega:c.bs.length<=50000) (aH c x)
  have h3:=Xl a (by omega:c.held.length<=50000) (aH c x)
  have h4:=KC M (fK L c lo x) h76
  have hl:((cA L c).filter fun y=>decide (y.2.2.sd.g∈aH c x)&&y.2.2.sd.al).length<=20000:=ars (ark _ _) (by rw[a.len'];exact fewb)
  have hl2:((cA L c).filter fun y=>decide (y.2.2.sd.g∈aH c x)&&y.2.2.sd.al).length<=50000:=by omega
  have key:=fQ (tg:=bD [5,6]) (tt:=jV (bA (yw true .none (bJ "due" (ao 6)))) (bA (aA yO (ao 5) (ao 1)))) (te:=bL (ak (gW "owner" (ao 6)) (ak (gW "due" (ao 6)) au))) (M:=M) (ρ:=[some (.dat (ob L.c)),some (.dat (.int lo)),some (.dat (.int x)),some (.dat (lI (aH c x))),none,none,none]) nb (YS lo) (fun y=>Ear.rD (y.2.2.sd.o,y.2.2.sd.due.getD [])) ((cA L c).filter fun y=>decide (y.2.2.sd.g∈aH c x)&&y.2.2.sd.al) fun y hy=>⟨[some (.dat (ob L.c)),some (.dat (.int lo)),some (.dat (.int x)),some (.dat (lI (aH c x))),none,some (.dat (.int ((y.1:Int)+1))),some (.dat (ob y.2.1))],by simp[nb],by
   obtain⟨n',hb⟩:=a.hb' (arh.mp hy).1
   cases hd:y.2.2.sd.due <;> simp[hb,iB,hd,sH,YS,pA],fun hp=>by
   obtain⟨n',hb⟩:=a.hb' (arh.mp hy).1
   cases hd:y.2.2.sd.due with
   |none=>simp[YS,hd]at hp
   |some e=>simp[hb,iB,hd,sH,Ear.rD,Ear.dT]⟩
  have e1:(c.held.filter fun r=>decide (r.2.1∈aH c x)).map (fun r=>Ear.rD (r.1,r.2.2))=(inR c (aH c x)).map Ear.rD:=by
   unfold inR
   rw[arw]
   rfl
  have e2:(((cA L c).filter fun y=>decide (y.2.2.sd.g∈aH c x)&&y.2.2.sd.al).filter (YS lo)).map (fun y=>Ear.rD (y.2.2.sd.o,y.2.2.sd.due.getD []))=(Ow L c lo (aH c x)).map Ear.rD:=by
   unfold Ow
   rw[arw]
   rfl
  rw[e1]at h3
  rw[e2]at key
  have z1:(inR c (aH c x)).length<=20000:=by
   unfold inR
   rw[aq7]
   exact ars (ark _ _) few
  have z2:(Ow L c lo (aH c x)).length<=20000:=by
   unfold Ow
   rw[aq7]
   exact ars (ark _ _) hl
  have z3:(inR c (aH c x)).length+(Ow L c lo (aH c x)).length<=100000:=by omega
  unfold fK at h4 ⊢
  rw[arC]at h4
  simp[iW,kW,hc,aQ,bV,h1,hh,dJ,jL,h2,hr,nZ,qL,h3]
  simp[key,hl2,z3,h4,hc,aQ,hr,nZ,h3]
 ·rw[if_neg h]at h1 ⊢
  simp[iW,kW,hc,aQ,bV,h1]
end
def iZ(b:dD):Dat:=.tuple [.int b.sd.o,.int b.sd.g,sH b.sd.due,aJ b.sd.ear,.bool b.sd.al,.int b.mo,.tuple (b.fi.dat::b.en.map En.dat)]
theorem ahY{M:Mo}{h n:Nat}{b:dD}(hb:M[h]?=some (iB n b)):yu M [ob h]=.ok (iZ b):=by
 have h1:=X4 hb
 simp[yu,Dg,hb,mO,h1]
 simp[iB,Sd.dat,iZ]
def grD(c:aK)(k:Nat):Dat:=.tuple [.int (j9 c ((k:Int)+1)),aJ (aH c ((k:Int)+1))]
def qJ(c:aK):Dat:=.tuple [lI c.own,.list ((List.range c.al.length).map (grD c)),.list (c.held.map eZ),.list (c.bs.map iZ)]
section
variable{M:Mo}{L:Lay}{c:aK}(a:At M L c)
include a
theorem ag5(i:cY c)(few:c.held.length<=20000)(fewb:c.bs.length<=20000):pW M [ob L.c]=.ok (qJ c):=by
 have hc:=a.hc
 have hr:=a.hr
 obtain⟨n,m,hg⟩:=a.hg
 obtain⟨n1,hh⟩:=a.hh
 have h1:=abj a
 have h2:=adb a
 have h3:=aaH a (by omega:c.held.length<=50000)
 have hf:=i.few
 have k1:=fj (tg:=aF 3) (te:=bL (ak (aP dU (bJ "grounds" (ao 0)) (ak (aq 3) au)) (ak (dH jX (aP bV (ao 0) (ak (aq 3) au))) au))) (M:=M) (ρ:=[some (.dat (ob L.c)),none,none,none,none]) (fun(k:Nat)=>PyData.int (1+(k:Int))) (grD c) (List.range c.al.length) fun k hk=>⟨[some (.dat (ob L.c)),none,none,some (.dat (.int ((k:Int)+1))),none],by simp[Int.add_comm],by
  rw[List.mem_range]at hk
  have hv:Vg c ((k:Int)+1):=by constructor <;> omega
  have g1:=K7 a ((k:Int)+1)
  have g2:=Bx a i ((k:Int)+1)
  rw[if_pos hv]at g1 g2
  simp[hc,aQ,hg,dw,dU,bV,g1,g2,grD]⟩
 have hl:=a.len'
 have k2:=fun(o1:Option Cell)=>fj (tg:=aF 4) (te:=aP vX (ao 4) au) (M:=M) (ρ:=[some (.dat (ob L.c)),o1,none,none,none]) (fun(x:Nat×Nat×dD)=>ob x.2.1) (fun x=>iZ x.2.2) (cA L c) fun x hx=>⟨[some (.dat (ob L.c)),o1,none,none,some (.dat (ob x.2.1))],by simp,by
  obtain⟨n',hb⟩:=a.hb' hx
  have:=ahY hb
  simp[hb,vX,this]⟩
 have e1:(cA L c).map (fun x=>ob x.2.1)=L.bs.map ob:=by
  unfold cA
  apply arz
  intro j
  simp only[aq9,arQ]
  by_cases hj:j < L.bs.length
  ·have hz:(L.bs.zip c.bs)[j]?=some (L.bs[j],c.bs[j]'(by rw[←a.len];exact hj)):=by
    rw[arI]
    exact⟨aqY hj,aqY _⟩
   rw[hz,aqY hj]
   rfl
  ·rw[arA (by omega:L.bs.length<=j),arA (by rw[List.length_zip];omega)]
   rfl
 have e2:(cA L c).map (fun x=>iZ x.2.2)=c.bs.map iZ:=by
  unfold cA
  apply arz
  intro j
  simp only[aq9,arQ]
  by_cases hj:j < c.bs.length
  ·have hz:(L.bs.zip c.bs)[j]?=some (L.bs[j]'(by rw[a.len];exact hj),c.bs[j]):=by
    rw[arI]
    exact⟨aqY _,aqY hj⟩
   rw[hz,aqY hj]
   rfl
  ·rw[arA (by omega:c.bs.length<=j),arA (by rw[List.length_zip];omega)]
   rfl
 simp only[e1,e2]at k2
 have r1:fH 1 c.al.length=(List.range c.al.length).map fun(k:Nat)=>PyData.int (1+(k:Int)):=rfl
 have z1:(c.al.length:Int)+1<=100000:=by omega
 have z2 : -100000<=(c.al.length:Int)+1:=by omega
 have z3:c.al.length<=50000:=by omega
 have z4:L.bs.length<=50000:=by rw[a.len];omega
 simp[pW,zN,hc,aQ,hg,dw,eY,h1,z1,z2,r1,k1,z3]
 simp[hc,aQ,hh,dJ,hr,nZ,k2,z4,vf,uD,h2,h3,qJ]
end
section
variable{M:Mo}{L:Lay}{c:aK}(a:At M L c)
include a
theorem vK(i:cY c)(few:c.held.length<=20000)(fewb:c.bs.length<=20000)(x:Int)(h76:(fK L c 0 x).eraseDups.length<=76):lE M [ob L.c,.int x]=if Vg c x then .ok (.list ((bK (fK L c 0 x)).map Ear.rD)) else .exc ⟨"NoGround",[]⟩:=by
 have hc:=a.hc
 have h1:=Et a i few fewb 0 x h76
 by_cases h:Vg c x
 ·rw[if_pos h]at h1 ⊢
  simp[lE,oO,hc,dh,h1]
 ·rw[if_neg h]at h1 ⊢
  simp[lE,oO,hc,dh,h1]
def ajc(o:Int)(e:List Int)(R:List Rw)(room:Int):Out Dat:=match wD o e R room with
 |[]=>.ok .none
 |r::_=>.exc ⟨"Clash",[("ear",aJ (iV e r.2)),("others",Ear.rD r),("ones",Ear.rD (o,e))]⟩
omit a in
theorem ae6{T:List Rw}(h:Ear.VH T):T.Nodup:=by
 unfold Ear.VH at h
 unfold List.Nodup
 exact h.imp fun {x y} z e=>by
  subst e
  exact List.lt_irrefl _ z
theorem KJ(ho:∀o∈c.own,o<=c.count)(few:c.own.length<=20000):∃M',iI M [ob L.c]=.ok (.int (c.count+1)) M'/\At M' L { c with count:=c.count+1,own:=c.own++[c.count+1] }:=by
 have hc:=a.hc
 have hl:∀i,(M.set L.c i)[L.c]?=some i:=fun i=>by rw[bF hc,if_pos rfl]
 have hk:=any_keys (c.count+1) c.own
 have hn:¬(c.count+1)∈c.own:=fun z=>by have:=ho _ z;omega
 rw[decide_eq_false hn]at hk
 have hz:∀x∈c.own,¬x=c.count+1:=fun x hx e=>hn (e ▸ hx)
 have f2:c.own.length < 100000:=by omega
 refine⟨_,?_,a.setC⟩
 simp only[ar8,arn]at hk
 have hd:(c.own.any fun x=>x==c.count+1)=false:=by
  rw[List.any_eq_false]
  intro x hx
  simpa using hz x hx
 simp[iI,sE,hc,aQ,hl,kE,f2,arn,hd]
end
theorem YB{α:Type}[BEq α][LawfulBEq α](l:List α):l.eraseDups.length<=l.length:=by
 induction hn:l.length using Nat.strongRecOn generalizing l with
 |_ n ih=>
  cases l with
  |nil=>simp
  |cons a r=>
   rw[List.eraseDups_cons]
   simp only[arb]at hn ⊢
   have hl:(r.filter fun b=>!b==a).length<=r.length:=ark _ _
   have:=ih _ (by omega) (r.filter fun b=>!b==a) rfl
   omega
theorem X6{S:List Rw}(h:S.eraseDups.length<=76):(bK S).eraseDups.length<=76:=ars (YB _) (by rw[qG];exact h)
theorem wY{S:List Rw}(h:tG S):tG (bK S):=fun r hr=>h r (dW.mp hr)
section
variable{M:Mo}{L:Lay}{c:aK}(a:At M L c)
include a
theorem Xm(i:cY c)(few:c.held.length<=20000)(fewb:c.bs.length<=20000)(o x:Int)(e:List Int)(he:e.length=6)(hv:Vg c x)(h76:(fK L c 0 x).eraseDups.length<=76)(hE:tG (fK L c 0 x)):iy M [ob L.c,.int o,aJ e,.int x]=ajc o e (bK (fK L c 0 x)) (roomOf c x):=by
 have hc:=a.hc
 have h1:=vK a i few fewb x h76
 have h2:=wN a i x
 rw[if_pos hv]at h1 h2
 have h3:=N7 M o e (bK (fK L c 0 x)) (roomOf c x) he (wY hE) (X6 h76)
 unfold ajc
 cases hb:wD o e (bK (fK L c 0 x)) (roomOf c x) with
 |nil=>
  rw[hb]at h3
  simp[iy,lZ,hc,bO,bQ,h1,h2,h3]
 |cons r rs=>
  rw[hb]at h3
  simp[iy,lZ,hc,bO,bQ,h1,h2,h3]
end
section
variable{M:Mo}{L:Lay}{c:aK}(a:At M L c)
include a
def Jx(L:Lay)(c:aK)(x y:Int):List Rw:=bK (fK L c 0 x)++bK (fK L c 0 y)
def qQ(c:aK)(x y:Int):Int:=if roomOf c y > roomOf c x then roomOf c y else roomOf c x
theorem aar(i:cY c)(few:c.held.length<=20000)(fewb:c.bs.length<=20000)(x y:Int)(hx:Vg c x)(hy:Vg c y)(h1:(fK L c 0 x).eraseDups.length<=76)(h2:(fK L c 0 y).eraseDups.length<=76)(h3:(Jx L c x y).eraseDups.length<=76)(e1:tG (fK L c 0 x))(e2:tG (fK L c 0 y)):kY M [ob L.c,.int x,.int y]=.ok (.list ((jM (bK (Jx L c x y)) (qQ c x y)).map pairD)):=by
 have hc:=a.hc
 have s1:=vK a i few fewb x h1
 have s2:=vK a i few fewb y h2
 have r1:=wN a i x
 have r2:=wN a i y
 rw[if_pos hx]at s1 r1
 rw[if_pos hy]at s2 r2
 have hE:tG (Jx L c x y):=fun r hr=>by
  rcases aq5.mp hr with hr|hr
  ·exact wY e1 r hr
  ·exact wY e2 r hr
 have k:=aam M (Jx L c x y) (qQ c x y) hE h3
 have l1:(bK (fK L c 0 x)).length<=76:=by rw[qG];exact h1
 have l2:(bK (fK L c 0 y)).length<=76:=by rw[qG];exact h2
 have l3:(bK (fK L c 0 x)).length+(bK (fK L c 0 y)).length<=100000:=by omega
 have k':uW M [.list ((bK (fK L c 0 x)).map Ear.rD++(bK (fK L c 0 y)).map Ear.rD),.int (if roomOf c y > roomOf c x then roomOf c y else roomOf c x)]=.ok (.list ((jM (bK (Jx L c x y)) (qQ c x y)).map pairD)):=by
  rw[←arC]
  exact k
 simp[kY,tO,hc,bO,bQ,s1,s2,r1,r2,l3]
 simp at k'
 exact k' ▸ (by simp[k'])
end
def Yo(c:aK)(lo:Int)(near:List Int):List Rw:=((c.bs.mapIdx fun i b=>(i,b)).filter fun x=>(x.2.sd.due.isSome&&!(((x.1:Int)+1)==lo))&&(decide (x.2.sd.g∈near)&&x.2.sd.al)).map fun x=>(x.2.sd.o,x.2.sd.due.getD [])
def cO(c:aK)(lo x:Int):List Rw:=inR c (aH c x)++Yo c lo (aH c x)
theorem Mv{M:Mo}{L:Lay}{c:aK}(a:At M L c):(cA L c).map (fun x=>(x.1,x.2.2))=c.bs.mapIdx fun i b=>(i,b):=by
 unfold cA
 apply arz
 intro j
 simp only[aq9,arQ]
 by_cases hj:j < c.bs.length
 ·have hz:(L.bs.zip c.bs)[j]?=some (L.bs[j]'(by rw[a.len];exact hj),c.bs[j]):=by
   rw[arI]
   exact⟨aqY _,aqY hj⟩
  rw[hz,aqY hj]
  rfl
 ·rw[arA (by omega:c.bs.length<=j),arA (by rw[List.length_zip];omega)]
  rfl
theorem jf{M:Mo}{L:Lay}{c:aK}(a:At M L c)(lo x:Int):fK L c lo x=cO c lo x:=by
 unfold fK cO Ow Yo
 rw[←Mv a,List.filter_map,arw,ar5]
 rfl
inductive bH where
 |owner|ground (x:Int)|enrol (o g:Int) (m:List Int)|leave (o g:Int)|bring (o g:Int) (e:List Int)|bear (k:Int)|cut (k:Int)|tear (k p:Int)|sell (k o:Int)|move (k g:Int)|die (k:Int)|vP (x y:Int)|part (x:Int)|pass (e h:Int)|heir (e g x:Int)
def bH.dat:bH->Dat
 |.owner=>.tuple [.str "owner"]
 |.ground x=>.tuple [.str "ground",.int x]
 |.enrol o g m=>.tuple [.str "enrol",.int o,.int g,aJ m]
 |.leave o g=>.tuple [.str "leave",.int o,.int g]
 |.bring o g m=>.tuple [.str "bring",.int o,.int g,aJ m]
 |.bear k=>.tuple [.str "bear",.int k]
 |.cut k=>.tuple [.str "cut",.int k]
 |.tear k p=>.tuple [.str "tear",.int k,.int p]
 |.sell k o=>.tuple [.str "sell",.int k,.int o]
 |.move k g=>.tuple [.str "move",.int k,.int g]
 |.die k=>.tuple [.str "die",.int k]
 |.vP x y=>.tuple [.str "unite",.int x,.int y]
 |.part x=>.tuple [.str "part",.int x]
 |.pass e h=>.tuple [.str "pass",.int e,.int h]
 |.heir e g x=>.tuple [.str "heir",.int e,.int g,.int x]
inductive Res where
 |ok (d:Dat) (c:aK)|no (x:eE)
def Hg(o:Int)(e:List Int)(r:Rw):eE:=⟨"Clash",[("ear",aJ (iV e r.2)),("others",Ear.rD r),("ones",Ear.rD (o,e))]⟩
def firstM(c:aK)(o g:Int):List Int:=(bU c o g).headD []
def v8(o:Int)(e:List Int)(R:List Rw)(room:Int)(r:Res):Res:=match wD o e (bK R) room with
 |[]=>r
 |x::_=>.no (Hg o e x)
def Ck(c:aK)(x y:Int):List Rw:=bK (cO c 0 x)++bK (cO c 0 y)
def lW(c:aK)(x:Int):List Int:=(aH c x).filter fun y=>!(y==x)
def SN(c:aK)(e:Int):List Int:=((c.bs.mapIdx fun i b=>(i,b)).filter fun x=>(x.2.sd.o==e)&&x.2.sd.al).map fun x=>(x.1:Int)+1
def Xy(o g:Int)(b:dD):Bool:=(decide (b.sd.g∈[g])&&b.sd.al)&&(b.sd.o==o)
def wM(c:aK)(k:Int)(f:dD->Res):Res:=match bk c k with
 |none=>.no ⟨"NoBeast",[]⟩
 |some b=>if b.sd.al=true then f b else .no ⟨"Dead",[]⟩
def markB(c:aK)(k:Int)(f:dD->List Int->Res):Res:=wM c k fun b=>match b.sd.due with
 |none=>.no ⟨"Unmarked",[]⟩
 |some e=>f b e
def xq(c:aK)(k o g:Int):aK:=nY (fun x=>uK k x&&x.sd.al) (.followed o g) c
def rO(c:aK)(o:Int)(r:Res):Res:=if o∈c.own then r else .no ⟨"NoOwner",[]⟩
def xg(c:aK)(g:Int)(r:Res):Res:=if Vg c g then r else .no ⟨"NoGround",[]⟩
def IW(e:List Int)(r:Res):Res:=if cI e=true then r else .no ⟨"BadEar",[]⟩
def ni(c:aK)(o g:Int)(r:Res):Res:=if bU c o g=[] then .no ⟨"NoRight",[]⟩ else r
def cQ(c:aK):bH->Res
 |.owner=>.ok (.int (c.count+1)) { c with count:=c.count+1,own:=c.own++[c.count+1] }
 |.ground x=>if 0<=x/\x<=9 then .ok (.int (c.al.length+1)) { c with al:=c.al++[x],ci:=c.ci++[[(c.al.length:Int)+1]] } else .no ⟨"BadAllowance",[]⟩
 |.enrol o g m=>rO c o <|xg c g <|IW m <|if m=[0,0,0,0,0,0] then .no ⟨"Bare",[]⟩ else if m∈bU c o g then .no ⟨"HasRight",[]⟩ else v8 o m (cO c 0 g) (roomOf c g) (.ok .none { c with held:=c.held++[(o,g,m)] })
 |.leave o g=>rO c o <|xg c g <|ni c o g <|if c.bs.any (Xy o g)=true then .no ⟨"StillThere",[]⟩ else .ok (.list ((bU c o g).map aJ)) { c with held:=dropped c o g }
 |.bring o g e=>rO c o <|xg c g <|IW e <|ni c o g <|.ok (.int (c.bs.length+1)) { c with bs:=c.bs++[yV (.brought o g e)] }
 |.bear k=>markB c k fun b _=>.ok (.int (c.bs.length+1)) { c with bs:=c.bs++[yV (.born k b.sd.o b.sd.g)] }
 | .cut k=>wM c k fun b=>v8 b.sd.o (iV b.sd.ear (firstM c b.sd.o b.sd.g)) (cO c 0 b.sd.g) (roomOf c b.sd.g) (.ok (aJ (iV b.sd.ear (firstM c b.sd.o b.sd.g))) (fu c (k - 1).toNat (.cut (iV b.sd.ear (firstM c b.sd.o b.sd.g)))))
 |.tear k p=>wM c k fun b=>if 0<=p/\p < 6 then(if 9<=b.sd.ear.getD p.toNat 0 then .no ⟨"Deepest",[]⟩ else .ok (aJ (uE b.sd.ear p.toNat)) (fu c (k - 1).toNat (.torn p.toNat))) else .no ⟨"NoPlace",[]⟩
 |.sell k o=>markB c k fun b _=>rO c o <|if b.sd.o=o then .no ⟨"SameOwner",[]⟩ else ni c o b.sd.g <| v8 o (iV b.sd.ear (firstM c o b.sd.g)) (cO c k b.sd.g) (roomOf c b.sd.g) (.ok (aJ (iV b.sd.ear (firstM c o b.sd.g))) (xq (fu c (k - 1).toNat (.sold o (iV b.sd.ear (firstM c o b.sd.g)))) k o b.sd.g))
 |.move k g=>markB c k fun b e=>xg c g <|if b.sd.g=g then .no ⟨"SameGround",[]⟩ else ni c b.sd.o g <|v8 b.sd.o e (cO c 0 g) (roomOf c g) (.ok (.int b.sd.g) (xq (fu c (k - 1).toNat (.moved g)) k b.sd.o g))
 |.die k=>wM c k fun _=>.ok .none (fu c (k - 1).toNat .died)
 |.vP x y=>xg c y <|xg c x <|if y∈aH c x then .no ⟨"Together",[]⟩ else match jM (bK (Ck c x y)) (qQ c x y) with
  |p::_=>.no (Hg p.1.1 p.1.2 p.2)
  |[]=>.ok (lI (sortI (aH c x++aH c y))) { c with ci:=encl c.ci (sortI (aH c x++aH c y)) }
 |.part x=>xg c x <|if lW c x=[] then .no ⟨"Alone",[]⟩ else .ok (lI (lW c x)) { c with ci:=encl (encl c.ci [x]) (lW c x) }
 |.pass e h=>rO c e <|rO c h <|if e=h then .no ⟨"SameOwner",[]⟩ else .ok (lI (SN c e)) { nY (fun b=>(b.sd.o==e)&&b.sd.al) (.passed h) c with own:=c.own.filter (fun o=>!(o==e)),held:=handed c e h }
 | .heir e g x=>rO c e <| xg c g <| if 1<=x/\x<=3 then ni c e g (match (Oo (firstM c e g) x).find? (zX (bK (cO c 0 g)) (roomOf c g)) with
  |some mk=>.ok (.tuple [.int (c.count+1),aJ mk]) { c with count:=c.count+1,own:=c.own++[c.count+1],held:=c.held++[(c.count+1,g,mk)] }
  |none=>.no ⟨"NoneFree",[]⟩) else .no ⟨"BadExtra",[]⟩
structure Inv(n s:Nat)(c:aK):Prop where
 gr:cY c
 al:c.al.length<=n
 cnt:0<=c.count/\c.count<=n
 own:∀o∈c.own,1<=o/\o<=c.count
 Oq:c.own.Nodup
 ownL:c.own.length<=n
 held:c.held.Nodup
 hL:c.held.length+c.bs.length<=s
 hE:∀r∈c.held,r.1∈c.own/\Vg c r.2.1/\cI r.2.2=true
 ear:∀b∈c.bs,cI b.sd.ear=true
 due:∀b∈c.bs,∀e,b.sd.due=some e->cI e=true
 en:∀b∈c.bs,b.en.length<=2 * n
 rt:∀b∈c.bs,b.sd.al=true->∃m,(b.sd.o,b.sd.g,m)∈c.held
theorem dG{x:List Int}(h:cI x=true):x.length=6:=by
 unfold cI at h
 simp at h
 exact h.1
theorem CT{α:Type}[BEq α][LawfulBEq α]:∀{l S:List α},l.Nodup->(∀x∈l,x∈S)->l.length<=S.length
 |[],_,_,_=>by simp
 |x::l,S,nd,h=>by
  rw[asi]at nd
  have hx:=h x aq1
  have:=CT (l:=l) (S:=S.erase x) nd.2 fun y hy=>by
   have:y≠x:=fun z=>nd.1 (z ▸ hy)
   exact(List.mem_erase_of_ne this).mpr (h y (aq0 _ hy))
  rw[List.length_erase_of_mem hx]at this
  have:=List.length_pos_of_mem hx
  rw[arb]
  omega
def Mz(c:aK):List Rw:=c.held.map (fun r=>(r.1,r.2.2))++c.bs.map fun b=>(b.sd.o,b.sd.due.getD [])
theorem Uw{c:aK}{near:List Int}{r:Rw}(h:r∈inR c near):∃g,(r.1,g,r.2)∈c.held/\g∈near:=by
 unfold inR at h
 obtain⟨x,h1,rfl⟩:=aq8.mp h
 obtain⟨h2,h3⟩:=arh.mp h1
 exact⟨x.2.1,h2,by simpa using h3⟩
theorem Ql{c:aK}{lo:Int}{near:List Int}{r:Rw}(h:r∈Yo c lo near):∃(i:Nat) (b:dD),c.bs[i]?=some b/\b.sd.o=r.1/\b.sd.due=some r.2/\b.sd.al=true/\b.sd.g∈near/\(i:Int)+1≠lo:=by
 unfold Yo at h
 obtain⟨x,h1,rfl⟩:=aq8.mp h
 obtain⟨h2,h3⟩:=arh.mp h1
 obtain⟨i,hi,rfl⟩:=List.mem_mapIdx.mp h2
 simp only[aqW,decide_eq_true_eq,ard,beq_eq_false_iff_ne]at h3
 obtain⟨⟨h4,h5⟩,h6,h7⟩:=h3
 refine⟨i,c.bs[i],aqY hi,rfl,?_,h7,h6,h5⟩
 cases hd:c.bs[i].sd.due with
 |none=>simp[hd]at h4
 |some e=>rfl
theorem lX{c:aK}{lo x:Int}{r:Rw}(h:r∈cO c lo x):r∈Mz c:=by
 unfold Mz
 rcases aq5.mp h with h|h
 ·obtain⟨g,h1,_⟩:=Uw h
  exact arG _ (aq8.mpr ⟨_,h1,rfl⟩)
 ·obtain⟨i,b,h1,h2,h3,_⟩:=Ql h
  refine arH _ (aq8.mpr ⟨b,aq3 h1,?_⟩)
  rw[h2,h3]
  rfl
section
variable{n s:Nat}{c:aK}(I:Inv n s c)
include I
theorem Inv.few{R:List Rw}(h:∀r∈R,r∈Mz c):R.eraseDups.length<=s:=by
 have h1:=CT (l:=bK R) (S:=Mz c) (ae6 (Yr R)) fun r hr=>h r (dW.mp hr)
 rw[qG]at h1
 have:(Mz c).length=c.held.length+c.bs.length:=by simp[Mz]
 have:=I.hL
 omega
theorem Inv.Fj{lo x:Int}:tG (cO c lo x):=fun r hr=>by
 rcases aq5.mp hr with h|h
 ·obtain⟨g,h1,_⟩:=Uw h
  exact dG (I.hE _ h1).2.2
 ·obtain⟨i,b,h1,h2,h3,_⟩:=Ql h
  exact dG (I.due b (aq3 h1) _ h3)
theorem Inv.bi:Kr (2 * n) c:=⟨fun b hb=>dG (I.ear b hb),I.en⟩
theorem Inv.mk1{o g:Int}(h:bU c o g≠[]):∃r,bU c o g=firstM c o g::r/\cI (firstM c o g)=true:=by
 cases hm:bU c o g with
 |nil=>exact absurd hm h
 |cons m r=>
  refine⟨r,by simp[firstM,hm],?_⟩
  have:m∈bU c o g:=by rw[hm];exact aq1
  unfold bU at this
  obtain⟨x,h1,rfl⟩:=aq8.mp this
  have e:firstM c o g=x.2.2:=by simp[firstM,hm]
  rw[e]
  exact(I.hE x (arh.mp h1).1).2.2
end
theorem Ei{c:aK}{o g:Int}{m:List Int}:m∈bU c o g↔(o,g,m)∈c.held:=by
 unfold bU
 rw[aq8]
 constructor
 ·rintro⟨⟨x,y,z⟩,h,rfl⟩
  obtain⟨h1,h2⟩:=arh.mp h
  simp at h2
  obtain⟨rfl,rfl⟩:=h2
  exact h1
 ·intro h
  exact⟨_,arh.mpr ⟨h,by simp⟩,rfl⟩
theorem zj{c:aK}{o g:Int}:bU c o g≠[]↔∃m,(o,g,m)∈c.held:=by
 constructor
 ·intro h
  obtain⟨m,hm⟩:=List.exists_mem_of_ne_nil _ h
  exact⟨m,Ei.mp hm⟩
 ·rintro⟨m,hm⟩ z
  have:=Ei.mpr hm
  rw[z]at this
  cases this
theorem wZ{x y:List Int}(hx:cI x=true)(hy:cI y=true):cI (iV x y)=true:=by
 have lx:=dG hx
 have ly:=dG hy
 unfold cI at *
 simp only[aqW,decide_eq_true_eq,arl]at *
 refine⟨by simp[iV];omega,fun d hd=>?_⟩
 unfold iV at hd
 obtain⟨p,hp,rfl⟩:=aq8.mp hd
 have h1:=hx.2 p.1 (List.of_mem_zip hp).1
 have h2:=hy.2 p.2 (List.of_mem_zip hp).2
 split <;> omega
theorem zA(n:Nat)(x:List Int):okd (n+1) (aJ x)=true:=by
 show okd (n+1) (.tuple (x.map PyData.int))=true
 rw[okd]
 exact Wb n x
theorem ahQ(x y:List Int):cG (aJ x) (aJ y)=.ok (.bool (decide (x=y))):=by
 show(Out.when (okd 12 (aJ x)&&okd 12 (aJ y)) (.ok (PyData.eqv (aJ x) (aJ y)))).bind _=_
 rw[zA 11,zA 11,Zg,zU]
 rfl
theorem ah8(neg:Bool)(m:List Int)(ms:List (List Int)):inD neg (aJ m) (.list (ms.map aJ))=.ok (.bool (neg ^^ decide (m∈ms))):=by
 have h1:jT 12 (ms.map aJ)=true:=wI.mpr fun d hd=>by
  obtain⟨x,_,rfl⟩:=aq8.mp hd
  exact zA 11 x
 have h2:((ms.map aJ).any fun z=>PyData.eqv z (aJ m))=decide (m∈ms):=by
  induction ms with
  |nil=>simp
  |cons x ms ih=>
   have h1':jT 12 (ms.map aJ)=true:=wI.mpr fun d hd=>by
    obtain⟨x,_,rfl⟩:=aq8.mp hd
    exact zA 11 x
   rw[aqZ,arX,ih h1',Zg,zU]
   by_cases h:x=m
   ·simp[h]
   ·have:¬m=x:=fun z=>h z.symm
    simp[h,this]
 show(Out.when (okd 12 (aJ m)&&jT 12 (ms.map aJ)) (.ok ((ms.map aJ).any fun z=>PyData.eqv z (aJ m)))).bind _=_
 rw[h1,h2,zA 11]
 rfl
def Sp(M:Mo)(L:Lay)(o:aZ Dat):Res->Prop
 |.ok d c'=>∃M' bs,o=.ok d M'/\At M' { L with bs:=bs } c'
 |.no x=>o=.exc x M
section
variable{M:Mo}{L:Lay}{c:aK}(a:At M L c){n s:Nat}(I:Inv n s c)(hs:s<=76)(hn:n<=199)
include a I hn
theorem ail:Sp M L (iI M [ob L.c]) (cQ c .owner):=by
 obtain⟨M',h1,h2⟩:=KJ a (fun o ho=>(I.own o ho).2) (by have:=I.ownL;omega)
 exact⟨M',L.bs,h1,h2⟩
theorem afn(x:Int):Sp M L (ig M [ob L.c,.int x]) (cQ c (.ground x)):=by
 have hc:=a.hc
 obtain⟨n,m,hg⟩:=a.hg
 have hl:=I.al
 have h1:=Xb a I.gr (by omega) x
 simp only[cQ]
 by_cases h:0<=x/\x<=9
 ·rw[if_pos h]at h1 ⊢
  obtain⟨M',h1,h2⟩:=h1
  exact⟨M',L.bs,by simp[ig,lV,hc,aQ,hg,dw,lJ,h1],h2⟩
 ·rw[if_neg h]at h1 ⊢
  show _=_
  simp[ig,lV,hc,aQ,hg,dw,lJ,h1]
include hs
omit hn
theorem Z6(o x:Int)(e:List Int)(he:e.length=6)(hv:Vg c x):iy M [ob L.c,.int o,aJ e,.int x]=match wD o e (bK (cO c 0 x)) (roomOf c x) with
  |[]=>.ok .none
  |r::_=>.exc (Hg o e r):=by
 have h1:=I.hL
 have h76:=I.few (R:=cO c 0 x) fun r hr=>lX hr
 have:=Xm a I.gr (by omega) (by omega) o x e he hv (by rw[jf a];omega) (by rw[jf a];exact I.Fj)
 rw[jf a]at this
 exact this
theorem agK(o g:Int)(m:List Int)(hm:m.length<=1000):Sp M L (dX M [ob L.c,.int o,.int g,aJ m]) (cQ c (.enrol o g m)):=by
 have hc:=a.hc
 have hr:=a.hr
 obtain⟨n1,m1,hg⟩:=a.hg
 have hL:=I.hL
 have h1:=lM a o
 have h2:=uL a g
 have h3:=Fv M m hm
 have h4:=Iv a (by omega) o g
 simp only[cQ,rO,xg,IW,v8]
 by_cases e1:o∈c.own
 rotate_left
 ·rw[if_neg e1]at h1 ⊢
  show _=_
  simp[dX,fY,hc,aQ,aC,h1]
 rw[if_pos e1]at h1 ⊢
 by_cases e2:Vg c g
 rotate_left
 ·rw[if_neg e2]at h2 ⊢
  show _=_
  simp[dX,fY,hc,aQ,aC,h1,hg,dw,aG,h2]
 rw[if_pos e2]at h2 ⊢
 by_cases e3:cI m=true
 rotate_left
 ·rw[if_neg e3]at h3 ⊢
  show _=_
  simp[dX,fY,hc,aQ,aC,h1,hg,dw,aG,h2,h3]
 rw[if_pos e3]at h3 ⊢
 have h5:cG (.tuple (m.map PyData.int)) (.tuple [.int 0,.int 0,.int 0,.int 0,.int 0,.int 0])=_:=ahQ m [0,0,0,0,0,0]
 by_cases e4:m=[0,0,0,0,0,0]
 ·rw[if_pos e4]
  rw[decide_eq_true e4]at h5
  show _=_
  simp[dX,fY,hc,aQ,aC,h1,hg,dw,aG,h2,h3,jF]
  simp[h5]
 rw[if_neg e4]
 rw[decide_eq_false e4]at h5
 have h6:=ah8 false m (bU c o g)
 by_cases e5:m∈bU c o g
 ·rw[if_pos e5]
  rw[decide_eq_true e5]at h6
  simp at h6
  show _=_
  simp[dX,fY,hc,aQ,aC,h1,hg,dw,aG,h2,h3,jF,h5,hr,nZ,cJ,h4,h6]
 rw[if_neg e5]
 rw[decide_eq_false e5]at h6
 simp at h6
 have h7:=Z6 a I hs o g m (dG e3) e2
 cases e6:wD o m (bK (cO c 0 g)) (roomOf c g) with
 |cons r rs=>
  rw[e6]at h7
  show _=_
  simp[dX,fY,hc,aQ,aC,h1,hg,dw,aG,h2,h3,jF,h5,hr,nZ,cJ,h4,h6,bW,h7]
 |nil=>
  rw[e6]at h7
  have h8:=Kg a (by omega) o g m
  rw[if_neg fun z=>e5 (Ei.mpr z)]at h8
  obtain⟨M',h8,h9⟩:=h8
  refine⟨M',L.bs,?_,h9⟩
  simp[dX,fY,hc,aQ,aC,h1,hg,dw,aG,h2,h3,jF,h5,hr,nZ,cJ,h4,h6,bW,h7,iK,h8]
end
@[simp]theorem aqQ (n:Nat) (b:dD):List.lookup ("owner" : Str) (iB n b).fs=some (.dat (.int b.sd.o)):=by simp[iB]
@[simp]theorem aqT (n:Nat) (b:dD):List.lookup ("ground" : Str) (iB n b).fs=some (.dat (.int b.sd.g)):=by simp[iB]
@[simp]theorem aqS (n:Nat) (b:dD):List.lookup ("due" : Str) (iB n b).fs=some (.dat (sH b.sd.due)):=by simp[iB]
@[simp]theorem aqR (n:Nat) (b:dD):List.lookup ("ear" : Str) (iB n b).fs=some (.dat (aJ b.sd.ear)):=by simp[iB]
@[simp]theorem aqO (n:Nat) (b:dD):List.lookup ("alive" : Str) (iB n b).fs=some (.dat (.bool b.sd.al)):=by simp[iB]
section
variable{M:Mo}{L:Lay}{c:aK}(a:At M L c){n s:Nat}(I:Inv n s c)(hs:s<=76)
include a I hs
theorem ah4(o g:Int):Sp M L (fX M [ob L.c,.int o,.int g]) (cQ c (.leave o g)):=by
 have hc:=a.hc
 have hr:=a.hr
 obtain⟨n1,m1,hg⟩:=a.hg
 obtain⟨n2,hh⟩:=a.hh
 have hL:=I.hL
 have h1:=lM a o
 have h2:=uL a g
 have h3:=rE a (by omega) o g
 simp only[cQ,rO,xg,ni]
 by_cases e1:o∈c.own
 rotate_left
 ·rw[if_neg e1]at h1 ⊢
  show _=_
  simp[fX,jA,hc,aQ,aC,h1]
 rw[if_pos e1]at h1 ⊢
 by_cases e2:Vg c g
 rotate_left
 ·rw[if_neg e2]at h2 ⊢
  show _=_
  simp[fX,jA,hc,aQ,aC,h1,hg,dw,aG,h2]
 rw[if_pos e2]at h2 ⊢
 by_cases e3:bU c o g=[]
 ·rw[if_pos e3]at h3 ⊢
  show _=_
  simp[fX,jA,hc,aQ,aC,h1,hg,dw,aG,h2,aN,h3]
 rw[if_neg e3]at h3 ⊢
 have h4:qd M [ob L.h,.list [.int g]]=_:=QH a (by omega) [g]
 have key:=fj (tg:=bD [3,4]) (te:=aA cG (bJ "owner" (ao 4)) (ao 1)) (M:=M) (ρ:=[some (.dat (ob L.c)),some (.dat (.int o)),some (.dat (.int g)),none,none]) nb (fun x=>.bool (x.2.2.sd.o==o)) ((cA L c).filter fun x=>decide (x.2.2.sd.g∈[g])&&x.2.2.sd.al) fun x hx=>⟨[some (.dat (ob L.c)),some (.dat (.int o)),some (.dat (.int g)),some (.dat (.int ((x.1:Int)+1))),some (.dat (ob x.2.1))],by simp[nb],by
  obtain⟨n,hb⟩:=a.hb' (arh.mp hx).1
  simp[hb,iB]⟩
 have hl:((cA L c).filter fun x=>decide (x.2.2.sd.g∈[g])&&x.2.2.sd.al).length<=50000:=ars (ark _ _) (by rw[a.len'];omega)
 have h5:P0 (.list (((cA L c).filter fun x=>decide (x.2.2.sd.g∈[g])&&x.2.2.sd.al).map fun x=>PyData.bool (x.2.2.sd.o==o)))=.ok (.bool (c.bs.any (Xy o g))):=by
  have e:(((cA L c).filter fun x=>decide (x.2.2.sd.g∈[g])&&x.2.2.sd.al).map fun x=>PyData.bool (x.2.2.sd.o==o))=(((cA L c).filter fun x=>decide (x.2.2.sd.g∈[g])&&x.2.2.sd.al).map fun x=>(x.2.2.sd.o==o)).map PyData.bool:=by rw[arw];rfl
  rw[e,X3,ar8,List.any_filter]
  have e2:=Mv a
  have e3:(cA L c).map (fun x=>x.2.2)=c.bs:=by
   have:(cA L c).map (fun x=>x.2.2)=((cA L c).map (fun x=>(x.1,x.2.2))).map (·.2):=by rw[arw];rfl
   rw[this,e2]
   apply arz
   intro i
   simp
   cases c.bs[i]? <;> rfl
  conv=>rhs;rw[←e3]
  rw[ar8]
  rfl
 cases e4:c.bs.any (Xy o g) with
 |true=>
  rw[e4]at h5
  show _=_
  simp[fX,jA,hc,aQ,aC,h1,hg,dw,aG,h2,aN,h3,hh,dJ,jL]
  simp at h4 key h5 hl
  simp[h4,key,hl,h5]
 |false=>
  rw[e4]at h5
  have h6:=ahc a (by omega) I.held o g
  rw[if_neg e3]at h6
  obtain⟨M',h6,h7⟩:=h6
  refine⟨M',L.bs,?_,h7⟩
  simp[fX,jA,hc,aQ,aC,h1,hg,dw,aG,h2,aN,h3,hh,dJ,jL]
  simp at h4 key h5 hl
  simp[h4,key,hl,h5,hc,aQ,hr,nZ,zF,h6]
theorem aij(o g:Int)(m:List Int)(hm:m.length<=1000):Sp M L (gq M [ob L.c,.int o,.int g,aJ m]) (cQ c (.bring o g m)):=by
 have hc:=a.hc
 have hr:=a.hr
 obtain⟨n1,m1,hg⟩:=a.hg
 obtain⟨n2,hh⟩:=a.hh
 have hL:=I.hL
 have h1:=lM a o
 have h2:=uL a g
 have h3:=Fv M m hm
 have h4:=rE a (by omega) o g
 simp only[cQ,rO,xg,IW,ni]
 by_cases e1:o∈c.own
 rotate_left
 ·rw[if_neg e1]at h1 ⊢
  show _=_
  simp[gq,jD,hc,aQ,aC,h1]
 rw[if_pos e1]at h1 ⊢
 by_cases e2:Vg c g
 rotate_left
 ·rw[if_neg e2]at h2 ⊢
  show _=_
  simp[gq,jD,hc,aQ,aC,h1,hg,dw,aG,h2]
 rw[if_pos e2]at h2 ⊢
 by_cases e3:cI m=true
 rotate_left
 ·rw[if_neg e3]at h3 ⊢
  show _=_
  simp[gq,jD,hc,aQ,aC,h1,hg,dw,aG,h2,h3]
 rw[if_pos e3]at h3 ⊢
 by_cases e4:bU c o g=[]
 ·rw[if_pos e4]at h4 ⊢
  show _=_
  simp[gq,jD,hc,aQ,aC,h1,hg,dw,aG,h2,h3,aN,h4]
 rw[if_neg e4]at h4 ⊢
 obtain⟨M',h,h5,h6⟩:=Ma a (by omega) (.brought o g m) (by omega)
 refine⟨M',L.bs++[h],?_,h6⟩
 simp[Fi.dat]at h5
 simp[gq,jD,hc,aQ,aC,h1,hg,dw,aG,h2,h3,aN,h4,hh,dJ,jO,h5]
theorem ajv(k:Int):Sp M L (jm M [ob L.c,.int k]) (cQ c (.bear k)):=by
 have hc:=a.hc
 obtain⟨n2,hh⟩:=a.hh
 have hL:=I.hL
 have h1:=Kv a (by omega) k
 simp only[cQ,markB,wM]
 cases hk:bk c k with
 |none=>
  rw[hk]at h1
  show _=_
  simp[jm,mX,hc,aQ,hh,dJ,bx,h1]
 |some b=>
  rw[hk]at h1
  obtain⟨_,_,_,_,n3,hb⟩:=rM a hk
  show Sp M L _ (if b.sd.al=true then _ else _)
  cases e1:b.sd.al with
  |false=>
   simp[e1]at h1
   show _=_
   simp[jm,mX,hc,aQ,hh,dJ,bx,h1]
  |true=>
   simp[e1]at h1
   cases e2:b.sd.due with
   |none=>
    simp[e2]at h1
    show _=_
    simp[jm,mX,hc,aQ,hh,dJ,bx,h1]
   |some e=>
    simp[e2]at h1
    simp only[if_true]
    obtain⟨M',h,h5,h6⟩:=Ma a (by omega) (.born k b.sd.o b.sd.g) (by omega)
    refine⟨M',L.bs++[h],?_,h6⟩
    simp[Fi.dat]at h5
    simp[jm,mX,hc,aQ,hh,dJ,bx,h1,hb,iB,jO,h5]
theorem alR(k:Int)(hn:n<=1000):Sp M L (lN M [ob L.c,.int k]) (cQ c (.die k)):=by
 have hc:=a.hc
 obtain⟨n2,hh⟩:=a.hh
 have hL:=I.hL
 have h1:=Ek a (by omega) k
 simp only[cQ,wM]
 cases hk:bk c k with
 |none=>
  rw[hk]at h1
  show _=_
  simp[lN,rC,hc,aQ,hh,dJ,bG,h1]
 |some b=>
  rw[hk]at h1
  obtain⟨_,_,h3,h4,n3,hb⟩:=rM a hk
  show Sp M L _ (if b.sd.al=true then _ else _)
  cases e1:b.sd.al with
  |false=>
   simp[e1]at h1
   show _=_
   simp[lN,rC,hc,aQ,hh,dJ,bG,h1]
  |true=>
   simp[e1]at h1
   have mem:=aq3 h4
   simp only[if_true]
   have h5:=tZ hb .died (by rw[dG (I.ear b mem)];decide) (by have:=I.en b mem;omega)
   refine⟨_,L.bs,?_,yS (n:=n3) (e:=.died) a h3 h4⟩
   simp[En.dat]at h5
   simp[lN,rC,hc,aQ,hh,dJ,bG,h1,hb,bM,h5,mJ]
theorem ajj(k p:Int)(hn:n<=1000):Sp M L (fL M [ob L.c,.int k,.int p]) (cQ c (.tear k p)):=by
 have hc:=a.hc
 obtain⟨n2,hh⟩:=a.hh
 have hL:=I.hL
 have h1:=Ek a (by omega) k
 simp only[cQ,wM]
 cases hk:bk c k with
 |none=>
  rw[hk]at h1
  show _=_
  simp[fL,jk,hc,aQ,hh,dJ,bG,h1]
 |some b=>
  rw[hk]at h1
  obtain⟨_,_,h3,h4,n3,hb⟩:=rM a hk
  show Sp M L _ (if b.sd.al=true then _ else _)
  cases e1:b.sd.al with
  |false=>
   simp[e1]at h1
   show _=_
   simp[fL,jk,hc,aQ,hh,dJ,bG,h1]
  |true=>
   simp[e1]at h1
   have mem:=aq3 h4
   have h6:=dG (I.ear b mem)
   simp only[if_true]
   by_cases e2:0<=p/\p < 6
   ·rw[if_pos e2]
    obtain⟨q,rfl⟩:∃q:Nat,p=q:=⟨p.toNat,by omega⟩
    have hq:q < 6:=by omega
    have hq2:q < b.sd.ear.length:=by omega
    have hq3:(q:Int) < 6:=by omega
    have h7:b.sd.ear[q]?.getD 0=b.sd.ear[q]:=by simp[hq2]
    simp only[Int.toNat_natCast,List.getD_eq_getElem?_getD,h7]
    have h5:=tZ hb (.torn q) (by omega) (by have:=I.en b mem;omega)
    by_cases e3:9<=b.sd.ear[q]
    ·rw[if_pos e3]
     show _=_
     simp[fL,jk,hc,aQ,hh,dJ,bG,h1,hb,iB,jd,hq3,cV,hq2,e3]
    ·rw[if_neg e3]
     refine⟨_,L.bs,?_,yS (n:=n3) (e:=.torn q) a h3 h4⟩
     simp[En.dat]at h5
     have hl:∀i,(M.set (Pr.hk L k) i)[Pr.hk L k]?=some i:=fun i=>by rw[bF hb,if_pos rfl]
     simp[fL,jk,hc,aQ,hh,dJ,bG,h1,hb,jd,hq3,cV,bM,h5,hl,hq2,e3,mJ,go]
   ·rw[if_neg e2]
    show _=_
    by_cases e3:0<=p
    ·have e4:¬p < 6:=fun z=>e2 ⟨e3,z⟩
     simp[fL,jk,hc,aQ,hh,dJ,bG,h1,jd,e3,e4]
    ·simp[fL,jk,hc,aQ,hh,dJ,bG,h1,jd,e3]
end
theorem Inv.alive{n s:Nat}{c:aK}(I:Inv n s c){b:dD}(h:b∈c.bs)(h2:b.sd.al=true):bU c b.sd.o b.sd.g≠[]/\Vg c b.sd.g/\b.sd.o∈c.own:=by
 obtain⟨m,hm⟩:=I.rt b h h2
 exact⟨zj.mpr ⟨m,hm⟩,(I.hE _ hm).2.1,(I.hE _ hm).1⟩
section
variable{M:Mo}{L:Lay}{c:aK}(a:At M L c){n s:Nat}(I:Inv n s c)(hs:s<=76)(hn:n<=1000)
include a I hs hn
theorem alp(k:Int):Sp M L (jQ M [ob L.c,.int k]) (cQ c (.cut k)):=by
 have hc:=a.hc
 obtain⟨n2,hh⟩:=a.hh
 have hL:=I.hL
 have h1:=Ek a (by omega) k
 simp only[cQ,wM,v8]
 cases hk:bk c k with
 |none=>
  rw[hk]at h1
  show _=_
  simp[jQ,oG,hc,aQ,hh,dJ,bG,h1]
 |some b=>
  rw[hk]at h1
  obtain⟨_,_,h3,h4,n3,hb⟩:=rM a hk
  show Sp M L _ (if b.sd.al=true then _ else _)
  cases e1:b.sd.al with
  |false=>
   simp[e1]at h1
   show _=_
   simp[jQ,oG,hc,aQ,hh,dJ,bG,h1]
  |true=>
   simp[e1]at h1
   simp only[if_true]
   have mem:=aq3 h4
   obtain⟨q1,q2,q3⟩:=I.alive mem e1
   obtain⟨r,q4,q5⟩:=I.mk1 q1
   have h6:=dG (I.ear b mem)
   have h7:=Bm a (by omega) _ _ q4
   have h8:=Im M b.sd.ear (firstM c b.sd.o b.sd.g) (by omega)
   have q6:=dG (wZ (I.ear b mem) q5)
   generalize iV b.sd.ear (firstM c b.sd.o b.sd.g)=e at h8 q6 ⊢
   have h9:=Z6 a I hs b.sd.o b.sd.g e q6 q2
   cases e2:wD b.sd.o e (bK (cO c 0 b.sd.g)) (roomOf c b.sd.g) with
   |cons r rs=>
    rw[e2]at h9
    show _=_
    simp[jQ,oG,hc,aQ,hh,dJ,bG,h1,hb,iB,bY,h7,h8,bW,h9]
   |nil=>
    rw[e2]at h9
    have h5:=tZ hb (.cut e) (by omega) (by have:=I.en b mem;omega)
    refine⟨_,L.bs,?_,yS (n:=n3) (e:=.cut e) a h3 h4⟩
    simp[En.dat]at h5
    simp[jQ,oG,hc,aQ,hh,dJ,bG,h1,hb,bY,bM,h5,bW,h7,h8,h9,mJ]
theorem ak9(x:Int):Sp M L (kh M [ob L.c,.int x]) (cQ c (.part x)):=by
 have hc:=a.hc
 obtain⟨n1,m1,hg⟩:=a.hg
 have h1:=acY a I.gr x
 have e0:(aH c x).filter (fun y=>!(y==x))=lW c x:=rfl
 rw[e0]at h1
 simp only[cQ,xg]
 by_cases e1:Vg c x
 ·rw[if_pos e1]at h1 ⊢
  by_cases e2:lW c x=[]
  ·rw[if_pos e2]at h1 ⊢
   show _=_
   simp[kh,qj,hc,aQ,hg,dw,oM,h1]
  ·rw[if_neg e2]at h1 ⊢
   obtain⟨M',h1,h2⟩:=h1
   refine⟨M',L.bs,?_,h2⟩
   simp[kh,qj,hc,aQ,hg,dw,oM,h1]
 ·rw[if_neg e1]at h1 ⊢
  show _=_
  simp[kh,qj,hc,aQ,hg,dw,oM,h1]
theorem aiq(x y:Int)(hx:Vg c x)(hy:Vg c y):kY M [ob L.c,.int x,.int y]=.ok (.list ((jM (bK (Ck c x y)) (qQ c x y)).map pairD)):=by
 have h1:=I.hL
 have f1:=I.few (R:=cO c 0 x) fun r hr=>lX hr
 have f2:=I.few (R:=cO c 0 y) fun r hr=>lX hr
 have f3:=I.few (R:=Ck c x y) fun r hr=>by
  rcases aq5.mp hr with h|h
  ·exact lX (dW.mp h)
  ·exact lX (dW.mp h)
 have e:Jx L c x y=Ck c x y:=by unfold Jx Ck;rw[jf a,jf a]
 have:=aar a I.gr (by omega) (by omega) x y hx hy (by rw[jf a];omega) (by rw[jf a];omega) (by rw[e];omega) (by rw[jf a];exact I.Fj) (by rw[jf a];exact I.Fj)
 rw[e]at this
 exact this
theorem ahl(x y:Int):Sp M L (gA M [ob L.c,.int x,.int y]) (cQ c (.vP x y)):=by
 have hc:=a.hc
 obtain⟨n1,m1,hg⟩:=a.hg
 have h1:=uL a y
 have h2:=Bx a I.gr x
 simp only[cQ,xg]
 by_cases e1:Vg c y
 rotate_left
 ·rw[if_neg e1]at h1 ⊢
  show _=_
  simp[gA,jB,hc,aQ,hg,dw,aG,h1]
 rw[if_pos e1]at h1 ⊢
 by_cases e2:Vg c x
 rotate_left
 ·rw[if_neg e2]at h2 ⊢
  show _=_
  simp[gA,jB,hc,aQ,hg,dw,aG,h1,bV,h2]
 rw[if_pos e2]at h2 ⊢
 have h3:=Gu false y (aH c x)
 have h4:=ab6 a I.gr x y e2 e1
 by_cases e3:y∈aH c x
 ·rw[if_pos e3]
  rw[decide_eq_true e3]at h3
  show _=_
  simp[gA,jB,hc,aQ,hg,dw,aG,h1,bV,h2,h3]
 rw[if_neg e3]at h4 ⊢
 rw[decide_eq_false e3]at h3
 have h5:=aiq a I hs hn x y e2 e1
 have h6:∀p∈jM (bK (Ck c x y)) (qQ c x y),p.1.2.length=6:=fun p hp=>by
  unfold jM at hp
  obtain⟨q,hq,hp⟩:=List.mem_flatMap.mp hp
  obtain⟨r,_,rfl⟩:=aq8.mp hp
  obtain⟨i,hi,rfl⟩:=List.mem_mapIdx.mp hq
  have hm:=dW.mp (arL hi)
  rcases aq5.mp hm with h|h
  ·exact I.Fj _ (dW.mp h)
  ·exact I.Fj _ (dW.mp h)
 cases e4:jM (bK (Ck c x y)) (qQ c x y) with
 |cons p ps=>
  rw[e4]at h5 h6
  have h7:=Im M p.1.2 p.2.2 (by have:=h6 p aq1;omega)
  show _=_
  simp[gA,jB,hc,aQ,hg,dw,aG,h1,bV,h2,h3,nO,h5]
  simp[pairD,Ear.rD,Ear.dT,h7,Hg]
 |nil=>
  rw[e4]at h5
  obtain⟨M',h4,h7⟩:=h4
  refine⟨M',L.bs,?_,h7⟩
  simp[gA,jB,hc,aQ,hg,dw,aG,h1,bV,h2,h3,nO,h5,wJ,h4]
theorem ai9(e g x:Int):Sp M L (cW M [ob L.c,.int e,.int g,.int x]) (cQ c (.heir e g x)):=by
 have hc:=a.hc
 have hr:=a.hr
 obtain⟨n1,m1,hg⟩:=a.hg
 have hL:=I.hL
 have h1:=lM a e
 have h2:=uL a g
 have h3:=rE a (by omega) e g
 simp only[cQ,rO,xg,ni]
 by_cases e1:e∈c.own
 rotate_left
 ·rw[if_neg e1]at h1 ⊢
  show _=_
  simp[cW,dY,hc,aQ,aC,h1]
 rw[if_pos e1]at h1 ⊢
 by_cases e2:Vg c g
 rotate_left
 ·rw[if_neg e2]at h2 ⊢
  show _=_
  simp[cW,dY,hc,aQ,aC,h1,hg,dw,aG,h2]
 rw[if_pos e2]at h2 ⊢
 by_cases e3:1<=x/\x<=3
 rotate_left
 ·rw[if_neg e3]
  show _=_
  by_cases e4:1<=x
  ·have e5:¬x<=3:=fun z=>e3 ⟨e4,z⟩
   simp[cW,dY,hc,aQ,aC,h1,hg,dw,aG,h2,jh,lA,e4,e5]
  ·simp[cW,dY,hc,aQ,aC,h1,hg,dw,aG,h2,jh,lA,e4]
 rw[if_pos e3]
 obtain⟨e4,e5⟩:=e3
 by_cases e6:bU c e g=[]
 ·rw[if_pos e6]at h3 ⊢
  show _=_
  simp[cW,dY,hc,aQ,aC,h1,hg,dw,aG,h2,jh,lA,e4,e5,aN,h3]
 rw[if_neg e6]at h3 ⊢
 obtain⟨r,q4,q5⟩:=I.mk1 e6
 have h7:=Bm a (by omega) _ _ q4
 have f1:=I.few (R:=cO c 0 g) fun r hr=>lX hr
 have h8:=vK a I.gr (by omega) (by omega) g (by rw[jf a];omega)
 rw[if_pos e2,jf a]at h8
 have h9:=wN a I.gr g
 rw[if_pos e2]at h9
 have h10:=WW M (firstM c e g) x (bK (cO c 0 g)) (roomOf c g) q5 ⟨by omega,e5⟩ (wY I.Fj) (by rw[qG];omega)
 cases e7:(Oo (firstM c e g) x).find? (zX (bK (cO c 0 g)) (roomOf c g)) with
 |none=>
  rw[e7]at h10
  show _=_
  simp[cW,dY,hc,aQ,aC,h1,hg,dw,aG,h2,jh,lA,e4,e5,aN,h3,bY,h7,bO,h8,bQ,h9,h10]
 |some mk=>
  rw[e7]at h10
  obtain⟨M1,k1,a1⟩:=KJ a (fun o ho=>(I.own o ho).2) (by have:=I.ownL;omega)
  have k2:=Kg a1 (by show c.held.length<=50000;omega) (c.count+1) g mk
  rw[if_neg (fun z=>by
   have:=(I.own _ (I.hE _ z).1).2
   simp at this
   omega)]at k2
  obtain⟨M2,k2,a2⟩:=k2
  have hc1:=a1.hc
  have hr1:=a1.hr
  refine⟨M2,L.bs,?_,a2⟩
  simp[cW,dY,hc,aQ,aC,h1,hg,dw,aG,h2,jh,lA,e4,e5,aN,h3,bY,h7,bO,h8,bQ,h9,h10,iz,k1]
  simp[hc1,aQ,hr1,nZ,iK,k2]
end
section
variable{M:Mo}{L:Lay}{c:aK}(a:At M L c){n s:Nat}(I:Inv n s c)(hs:s<=76)(hn:n<=1000)
include a I hs hn
theorem akU(k o:Int):Sp M L (dO M [ob L.c,.int k,.int o]) (cQ c (.sell k o)):=by
 have hc:=a.hc
 obtain⟨n2,hh⟩:=a.hh
 have hL:=I.hL
 have h1:=Kv a (by omega) k
 have h2:=lM a o
 simp only[cQ,markB,wM,v8,rO,ni]
 cases hk:bk c k with
 |none=>
  rw[hk]at h1
  show _=_
  simp[dO,fP,hc,aQ,hh,dJ,bx,h1]
 |some b=>
  rw[hk]at h1
  obtain⟨k1,k2,h3,h4,n3,hb⟩:=rM a hk
  show Sp M L _ (if b.sd.al=true then _ else _)
  cases e1:b.sd.al with
  |false=>
   simp[e1]at h1
   show _=_
   simp[dO,fP,hc,aQ,hh,dJ,bx,h1]
  |true=>
   simp[e1]at h1
   simp only[if_true]
   cases e2:b.sd.due with
   |none=>
    simp[e2]at h1
    show _=_
    simp[dO,fP,hc,aQ,hh,dJ,bx,h1]
   |some e0=>
    simp[e2]at h1
    show Sp M L _ (if o∈c.own then _ else _)
    by_cases e3:o∈c.own
    rotate_left
    ·rw[if_neg e3]at h2 ⊢
     show _=_
     simp[dO,fP,hc,aQ,hh,dJ,bx,h1,aC,h2]
    rw[if_pos e3]at h2 ⊢
    by_cases e4:b.sd.o=o
    ·rw[if_pos e4]
     show _=_
     simp[dO,fP,hc,aQ,hh,dJ,bx,h1,aC,h2,hb,e4]
    rw[if_neg e4]
    have h5:=rE a (by omega) o b.sd.g
    by_cases e5:bU c o b.sd.g=[]
    ·rw[if_pos e5]at h5 ⊢
     show _=_
     simp[dO,fP,hc,aQ,hh,dJ,bx,h1,aC,h2,hb,e4,aN,h5]
    rw[if_neg e5]at h5 ⊢
    have mem:=aq3 h4
    obtain⟨q1,q2,q3⟩:=I.alive mem e1
    obtain⟨r,q4,q5⟩:=I.mk1 e5
    have h6:=dG (I.ear b mem)
    have h7:=Bm a (by omega) _ _ q4
    have h8:=Im M b.sd.ear (firstM c o b.sd.g) (by omega)
    have q6:=dG (wZ (I.ear b mem) q5)
    generalize iV b.sd.ear (firstM c o b.sd.g)=e at h8 q6 ⊢
    have f1:=I.few (R:=cO c k b.sd.g) fun r hr=>lX hr
    have h9:=Et a I.gr (by omega) (by omega) k b.sd.g (by rw[jf a];omega)
    rw[if_pos q2,jf a]at h9
    have h10:=wN a I.gr b.sd.g
    rw[if_pos q2]at h10
    have h11:=N7 M o e (bK (cO c k b.sd.g)) (roomOf c b.sd.g) q6 (wY I.Fj) (X6 (by omega))
    cases e6:wD o e (bK (cO c k b.sd.g)) (roomOf c b.sd.g) with
    |cons r rs=>
     rw[e6]at h11
     show _=_
     simp[dO,fP,hc,aQ,hh,dJ,bx,h1,aC,h2,hb,e4,aN,h5,bY,h7,h8,dh,h9,bQ,h10,h11,Hg]
    |nil=>
     rw[e6]at h11
     have h12:=tZ hb (.sold o e) (by omega) (by have:=I.en b mem;omega)
     have a1:=yS (n:=n3) (e:=.sold o e) a h3 h4
     have hk2:bk (fu c (k - 1).toNat (.sold o e)) k=some (mJ b (.sold o e)):=by
      unfold bk
      rw[if_pos ⟨k1,by simpa [fu] using k2⟩,wu,if_pos rfl,h4]
      rfl
     obtain⟨M',h13,a2⟩:=GX a1 (by simp[fu];omega) (I.bi.step _ _ q6) (by omega) k hk2
     have hc1:=a1.hc
     obtain⟨n4,hh1⟩:=a1.hh
     refine⟨M',L.bs,?_,a2⟩
     simp[En.dat]at h12
     simp only[mJ]at h13 hc1 hh1
     simp[dO,fP,hc,aQ,hh,dJ,bx,h1,aC,h2,hb,e4,aN,h5,bY,h7,h8,dh,h9,bQ,h10,h11,bM,h12]
     simp[hc1,aQ,hh1,dJ,iJ,h13]
theorem akO(k g:Int):Sp M L (dN M [ob L.c,.int k,.int g]) (cQ c (.move k g)):=by
 have hc:=a.hc
 obtain⟨n2,hh⟩:=a.hh
 obtain⟨n5,m5,hg⟩:=a.hg
 have hL:=I.hL
 have h1:=Kv a (by omega) k
 have h2:=uL a g
 simp only[cQ,markB,wM,v8,xg,ni]
 cases hk:bk c k with
 |none=>
  rw[hk]at h1
  show _=_
  simp[dN,fM,hc,aQ,hh,dJ,bx,h1]
 |some b=>
  rw[hk]at h1
  obtain⟨k1,k2,h3,h4,n3,hb⟩:=rM a hk
  show Sp M L _ (if b.sd.al=true then _ else _)
  cases e1:b.sd.al with
  |false=>
   simp[e1]at h1
   show _=_
   simp[dN,fM,hc,aQ,hh,dJ,bx,h1]
  |true=>
   simp[e1]at h1
   simp only[if_true]
   cases e2:b.sd.due with
   |none=>
    simp[e2]at h1
    show _=_
    simp[dN,fM,hc,aQ,hh,dJ,bx,h1]
   |some e=>
    simp[e2]at h1
    show Sp M L _ (if Vg c g then _ else _)
    by_cases e3:Vg c g
    rotate_left
    ·rw[if_neg e3]at h2 ⊢
     show _=_
     simp[dN,fM,hc,aQ,hh,dJ,bx,h1,hg,dw,aG,h2]
    rw[if_pos e3]at h2 ⊢
    by_cases e4:b.sd.g=g
    ·rw[if_pos e4]
     show _=_
     simp[dN,fM,hc,aQ,hh,dJ,bx,h1,hg,dw,aG,h2,hb,e4]
    rw[if_neg e4]
    have h5:=rE a (by omega) b.sd.o g
    by_cases e5:bU c b.sd.o g=[]
    ·rw[if_pos e5]at h5 ⊢
     show _=_
     simp[dN,fM,hc,aQ,hh,dJ,bx,h1,hg,dw,aG,h2,hb,e4,aN,h5]
    rw[if_neg e5]at h5 ⊢
    have mem:=aq3 h4
    have h6:=dG (I.ear b mem)
    have q6:=dG (I.due b mem e e2)
    have h11:=Z6 a I hs b.sd.o g e q6 e3
    cases e6:wD b.sd.o e (bK (cO c 0 g)) (roomOf c g) with
    |cons r rs=>
     rw[e6]at h11
     show _=_
     simp[dN,fM,hc,aQ,hh,dJ,bx,h1,hg,dw,aG,h2,hb,e4,aN,h5,e2,sH,bW,h11]
    |nil=>
     rw[e6]at h11
     have h12:=tZ hb (.moved g) (by omega) (by have:=I.en b mem;omega)
     have a1:=yS (n:=n3) (e:=.moved g) a h3 h4
     have hk2:bk (fu c (k - 1).toNat (.moved g)) k=some (mJ b (.moved g)):=by
      unfold bk
      rw[if_pos ⟨k1,by simpa [fu] using k2⟩,wu,if_pos rfl,h4]
      rfl
     obtain⟨M',h13,a2⟩:=GX a1 (by simp[fu];omega) (I.bi.step _ _ trivial) (by omega) k hk2
     have hc1:=a1.hc
     obtain⟨n4,hh1⟩:=a1.hh
     refine⟨M',L.bs,?_,a2⟩
     simp[En.dat]at h12
     simp only[mJ]at h13 hc1 hh1
     simp[dN,fM,hc,aQ,hh,dJ,bx,h1,hg,dw,aG,h2,hb,e4,aN,h5,e2,sH,bW,h11,bM,h12]
     simp[hc1,aQ,hh1,dJ,iJ,h13]
theorem ajJ(e h:Int):Sp M L (fU M [ob L.c,.int e,.int h]) (cQ c (.pass e h)):=by
 have hc:=a.hc
 have hr:=a.hr
 have hL:=I.hL
 have h1:=lM a e
 have h2:=lM a h
 simp only[cQ,rO]
 by_cases e1:e∈c.own
 rotate_left
 ·rw[if_neg e1]at h1 ⊢
  show _=_
  simp[fU,jN,hc,aQ,aC,h1]
 rw[if_pos e1]at h1 ⊢
 by_cases e2:h∈c.own
 rotate_left
 ·rw[if_neg e2]at h2 ⊢
  show _=_
  simp[fU,jN,hc,aQ,aC,h1,h2]
 rw[if_pos e2]at h2 ⊢
 by_cases e3:e=h
 ·rw[if_pos e3]
  show _=_
  simp[fU,jN,hc,aQ,aC,h1,h2,e3]
 rw[if_neg e3]
 obtain⟨M1,h3,a1⟩:=XQ a (by omega) e h
 have hc1:=a1.hc
 obtain⟨n1,hh1⟩:=a1.hh
 have h4:=ae4 a1 (by show c.bs.length<=50000;omega) e
 have ehd:cA L { c with held:=handed c e h }=cA L c:=rfl
 rw[ehd]at h4
 generalize hX:((cA L c).filter fun x=>(x.2.2.sd.o==e)&&x.2.2.sd.al)=X at h4
 have hXl:X.length<=1000:=by
  rw[←hX]
  exact ars (ark _ _) (by rw[a.len'];omega)
 have bi1:Kr (2 * n) { c with held:=handed c e h }:=⟨I.bi.ear,I.bi.en⟩
 obtain⟨ρ',M2,g1,g2,g3⟩:=O5 (tg:=bD [4,5]) (body:=sS) (fun ρ=>∃x y,ρ=[some (.dat (ob L.c)),some (.dat (.int e)),some (.dat (.int h)),some (.dat (.list (X.map nb))),x,y])
  (fun i c1=>Kr (2 * n+i) c1/\c1.bs.length=c.bs.length) (.passed h) L 1000 X M1 { c with held:=handed c e h } [some (.dat (ob L.c)),some (.dat (.int e)),some (.dat (.int h)),some (.dat (.list (X.map nb))),none,none] 0 (by omega) a1 ⟨bi1,rfl⟩ ⟨none,none,rfl⟩ (fun M1 c1 ρ x i hi a1 p1 q1 hx=>by
   obtain⟨bi1,l1⟩:=p1
   obtain⟨x0,y0,rfl⟩:=q1
   rw[←hX]at hx
   obtain⟨z1,z2⟩:=DW (arh.mp hx).1
   have hl:x.1 < c1.bs.length:=by rw[l1];exact(aqX.mp z2).1
   have z3:=aqY hl
   obtain⟨nx,hx1⟩:=a1.hb _ _ _ z1 z3
   have mem:=arL hl
   have hb:=tZ hx1 (.passed h) (by rw[bi1.ear _ mem];decide) (by have:=bi1.en _ mem;omega)
   refine⟨[some (.dat (ob L.c)),some (.dat (.int e)),some (.dat (.int h)),some (.dat (.list (X.map nb))),some (.dat (.int ((x.1:Int)+1))),some (.dat (ob x.2.1))],[some (.dat (ob L.c)),some (.dat (.int e)),some (.dat (.int h)),some (.dat (.list (X.map nb))),some (.dat (.int ((x.1:Int)+1))),some (.dat (ob x.2.1))],_,by simp[nb],?_,⟨_,_,rfl⟩,yS (n:=nx) a1 z1 z3,bi1.step _ _ trivial,by simp[fu,l1]⟩
   have hb:mU M1 [ob x.2.1,.tuple [.str "passed",.int h]]=_:=hb
   simp[sS,hx1,bM,hb,mJ])
 obtain⟨x0,y0,rfl⟩:=g2
 have g4:vC X (.passed h) { c with held:=handed c e h }=nY (fun x=>(x.sd.o==e)&&x.sd.al) (.passed h) { c with held:=handed c e h }:=by
  rw[←hX]
  exact VB a1 (fun x=>(x.sd.o==e)&&x.sd.al) (.passed h)
 rw[g4]at g3
 have hc2:=g3.hc
 have hl:∀i,(M2.set L.c i)[L.c]?=some i:=fun i=>by rw[bF hc2,if_pos rfl]
 have hk:=any_keys e c.own
 rw[decide_eq_true e1]at hk
 have hf:((c.own.map fun o=>(PyData.int o,PyData.bool true)).filter fun p=>!PyData.eqv p.1 (.int e))=(c.own.filter fun o=>!(o==e)).map fun o=>(PyData.int o,PyData.bool true):=by
  rw[List.filter_map]
  congr 1
 have a3:=g3.setC (n:=c.count) (own:=c.own.filter fun o=>!(o==e))
 refine⟨_,L.bs,?_,a3⟩
 have key:=fj (tg:=bD [4,5]) (te:=aq 4) (M:=M2.set L.c (aQ L { nY (fun x=>(x.sd.o==e)&&x.sd.al) (.passed h) { c with held:=handed c e h } with count:=c.count,own:=c.own.filter fun o=>!(o==e) })) (ρ:=[some (.dat (ob L.c)),some (.dat (.int e)),some (.dat (.int h)),some (.dat (.list (X.map nb))),none,none]) nb (fun x=>.int ((x.1:Int)+1)) X fun x _=>⟨[some (.dat (ob L.c)),some (.dat (.int e)),some (.dat (.int h)),some (.dat (.list (X.map nb))),some (.dat (.int ((x.1:Int)+1))),some (.dat (ob x.2.1))],by simp[nb],by simp⟩
 have eo:(SN c e).map PyData.int=X.map fun x=>.int ((x.1:Int)+1):=by
  unfold SN
  rw[←Mv a,List.filter_map,arw,arw,←hX]
  rfl
 have eo:lI (SN c e)=.list (X.map fun x=>.int ((x.1:Int)+1)):=congrArg PyData.list eo
 have hX2:X.length<=50000:=by omega
 have f2:c.own.length<=100000:=by have:=I.ownL;omega
 rw[eo]
 simp[fU,jN,hc,aQ,aC,h1,h2,e3,hr,nZ,rR,h3]
 simp[hc1,aQ,hh1,dJ,Bu,h4,g1]
 simp only[nY]at hc2 key ⊢
 have hk':(c.own.any ((fun p=>PyData.eqv p.1 (.int e)) ∘ fun o=>(PyData.int o,PyData.bool true)))=true:=by
  rw[←ar8]
  exact hk
 simp[hc2,aQ,f2]
 rw[hk',hf]
 simp only[aQ]at key
 simp[key,hX2]
end
theorem cY.same{c c':aK}(i:cY c)(h1:c'.al=c.al)(h2:c'.ci=c.ci):cY c':=by
 cases c
 cases c'
 simp at h1 h2
 subst h1 h2
 exact⟨i.len,i.few,i.al,i.mem,i.own,i.up,i.one⟩
theorem cY.lt{c:aK}(i:cY c){k:Nat}{l:List Int}(h:c.ci[k]?=some l):k < c.al.length:=by
 rw[←i.len]
 exact(aqX.mp h).1
theorem cY.add{c:aK}(i:cY c)(hf:c.al.length < 200){x:Int}(hx:0<=x/\x<=9):cY { c with al:=c.al++[x],ci:=c.ci++[[(c.al.length:Int)+1]] }:=by
 have key:∀(k:Nat) (l:List Int),(c.ci++[[(c.al.length:Int)+1]])[k]?=some l->(c.ci[k]?=some l/\k < c.al.length)∨(k=c.al.length/\l=[(c.al.length:Int)+1]):=fun k l h=>by
  by_cases hk:k < c.ci.length
  ·rw[aq6 hk]at h
   exact .inl ⟨h,i.lt h⟩
  ·rw[arj (by omega)]at h
   have hk2:k - c.ci.length=0:=by
    have:=(aqX.mp h).1
    simp at this
    omega
   rw[hk2]at h
   simp at h
   exact .inr ⟨by have:=i.len;omega,h.symm⟩
 refine⟨by simp[i.len],by simp;omega,fun y hy=>?_,fun k l h y hy=>?_,fun k l h=>?_,fun k l h=>?_,fun k j l h hj=>?_⟩
 ·rcases aq5.mp hy with hy|hy
  ·exact i.al y hy
  ·rw[aq2.mp hy]
   exact hx
 ·show 1<=y/\y<=((c.al++[x]).length:Int)
  rw[arP,List.length_singleton]
  rcases key k l h with⟨h,_⟩|⟨_,rfl⟩
  ·have:=i.mem k l h y hy
   omega
  ·rw[aq2.mp hy]
   omega
 ·rcases key k l h with⟨h,_⟩|⟨rfl,rfl⟩
  ·exact i.own k l h
  ·simp
 ·rcases key k l h with⟨h,_⟩|⟨rfl,rfl⟩
  ·exact i.up k l h
  ·simp
 ·show(c.ci++[[(c.al.length:Int)+1]])[j]?=some l
  rcases key k l h with⟨h,_⟩|⟨rfl,rfl⟩
  ·have h2:=i.one k j l h hj
   rw[aq6 (aqX.mp h2).1]
   exact h2
  ·have:j=c.al.length:=by
    rw[aq2]at hj
    omega
   rw[this,←i.len]
   simp
theorem ZR(l:List Int):∀(s:List Int) (ci:List (List Int)) (k:Nat),(∀y∈s,1<=y)->(s.foldl (fun s y=>s.set (y - 1).toNat l) ci)[k]?=if ((k:Int)+1∈s)/\k < ci.length then some l else ci[k]?
 |[],ci,k,_=>by simp
 |y::s,ci,k,h=>by
  rw[ar4,ZR l s _ k fun z hz=>h z (aq0 _ hz),arq]
  have hy:=h y aq1
  by_cases h1:(k:Int)+1∈s/\k < ci.length
  ·rw[if_pos h1,if_pos ⟨aq0 _ h1.1,h1.2⟩]
  ·rw[if_neg h1,arS]
   by_cases h2:(y - 1).toNat=k
   ·rw[if_pos h2]
    have e:(k:Int)+1=y:=by omega
    by_cases h3:k < ci.length
    ·rw[if_pos (by omega),if_pos ⟨by rw[e];exact aq1,h3⟩]
    ·rw[if_neg (by omega),if_neg (fun z=>h3 z.2),arA (by omega)]
   ·rw[if_neg h2,if_neg]
    rintro⟨z,h3⟩
    rcases ara.mp z with z|z
    ·omega
    ·exact h1 ⟨z,h3⟩
theorem yX(ci:List (List Int))(l:List Int)(k:Nat)(h:∀y∈l,1<=y):(encl ci l)[k]?=if ((k:Int)+1∈l)/\k < ci.length then some l else ci[k]?:=ZR l l ci k h
theorem cY.again{c:aK}(i:cY c){ci:List (List Int)}(hl:ci.length=c.ci.length)(P:List Int->Prop)
  (h1:∀(k:Nat) (l:List Int),ci[k]?=some l->(P l/\(k:Int)+1∈l)∨c.ci[k]?=some l)
  (h2:∀l,P l->l.Pairwise (· < ·)/\∀y∈l,Vg c y/\ci[(y - 1).toNat]?=some l)
  (h3:∀(k j:Nat) (l:List Int),ci[k]?=some l->c.ci[k]?=some l->c.ci[j]?=some l->(k:Int)+1∈l->¬P l->ci[j]?=some l):cY { c with ci:=ci }:=by
 refine⟨by show ci.length=_;rw[hl,i.len],i.few,i.al,fun k l h y hy=>?_,fun k l h=>?_,fun k l h=>?_,fun k j l h hj=>?_⟩
 ·rcases h1 k l h with⟨p,_⟩|h
  ·exact((h2 l p).2 y hy).1
  ·exact i.mem k l h y hy
 ·rcases h1 k l h with⟨_,p⟩|h
  ·exact p
  ·exact i.own k l h
 ·rcases h1 k l h with⟨p,_⟩|h
  ·exact(h2 l p).1
  ·exact i.up k l h
 ·show ci[j]?=some l
  have pj:P l->ci[j]?=some l:=fun p=>by
   have:=((h2 l p).2 _ hj).2
   rwa [show((j:Int)+1 - 1).toNat=j by omega]at this
  rcases h1 k l h with⟨p,_⟩|h'
  ·exact pj p
  ·by_cases p:P l
   ·exact pj p
   ·exact h3 k j l h h' (i.one k j l h' hj) (i.own k l h') p
theorem cY.at{c:aK}(i:cY c){x:Int}(h:Vg c x):c.ci[(x - 1).toNat]?=some (aH c x):=by
 obtain⟨k,hk,rfl⟩:=qY h
 have hk':k < c.ci.length:=by rw[i.len];exact hk
 simp[aH,hk']
theorem cY.self{c:aK}(i:cY c){x:Int}(h:Vg c x):x∈aH c x:=by
 have:=i.own _ _ (i.at h)
 rwa [show(((x - 1).toNat:Nat):Int)+1=x by omega]at this
theorem cY.eq{c:aK}(i:cY c){x y:Int}(h:Vg c x)(hy:y∈aH c x):aH c y=aH c x:=by
 have v:=i.mem _ _ (i.at h) y hy
 have:=i.one _ (y - 1).toNat _ (i.at h) (by rw[show(((y - 1).toNat:Nat):Int)+1=y by omega];exact hy)
 rw[i.at v]at this
 exact ari this
theorem Dz{l:List Int}{i:Int}:i∈sortI l↔i∈l:=by
 unfold sortI
 rw[List.mem_mergeSort]
theorem afe{l:List Int}(h:l.Nodup):(sortI l).Pairwise (· < ·):=by
 unfold sortI
 have srt:=arW (le:=fun a b:Int=>decide (a<=b)) (fun a b c k1 k2=>by rw[decide_eq_true_eq]at *;omega) (fun a b=>by rw[ar3,decide_eq_true_eq,decide_eq_true_eq];omega) l
 have nd:(l.mergeSort fun a b=>decide (a<=b)).Nodup:=(arZ _ _).nodup_iff.mpr h
 refine List.Pairwise.imp₂ (fun a b h1 h2=>?_) srt nd
 rw[decide_eq_true_eq]at h1
 have:a≠b:=h2
 omega
theorem cY.vP{c:aK}(i:cY c){x y:Int}(hx:Vg c x)(hy:Vg c y)(hn:y∉aH c x):cY { c with ci:=encl c.ci (sortI (aH c x++aH c y)) }:=by
 generalize hS:sortI (aH c x++aH c y)=S
 have mem:∀z,z∈S↔z∈aH c x∨z∈aH c y:=fun z=>by rw[←hS,Dz,aq5]
 have vg:∀z∈S,Vg c z:=fun z hz=>by
  rcases(mem z).mp hz with h|h
  ·exact i.mem _ _ (i.at hx) z h
  ·exact i.mem _ _ (i.at hy) z h
 have up:S.Pairwise (· < ·):=by
  rw[←hS]
  refine afe ?_
  rw[arR]
  have nd:∀{l:List Int},l.Pairwise (· < ·)->l.Nodup:=fun h=>h.imp fun {a b} z e=>by omega
  refine⟨nd (i.up _ _ (i.at hx)),nd (i.up _ _ (i.at hy)),fun a ha b hb e=>?_⟩
  subst e
  have e1:=i.eq hx ha
  have e2:=i.eq hy hb
  rw[e1]at e2
  exact hn (e2 ▸ i.self hy)
 have get:=fun k=>yX c.ci S k fun z hz=>(vg z hz).1
 refine i.again (P:=fun l=>l=S) (by unfold encl;rw[v9]) (fun k l h=>?_) (fun l hl=>?_) (fun k j l h h' hj hk np=>?_)
 ·rw[get]at h
  split at h
  ·next z=>
   cases h
   exact .inl ⟨rfl,z.1⟩
  ·exact .inr h
 ·subst hl
  refine⟨up,fun z hz=>⟨vg z hz,?_⟩⟩
  have v:=vg z hz
  have e:(((z - 1).toNat:Nat):Int)+1=z:=by omega
  rw[get,e,if_pos ⟨hz,by rw[i.len];omega⟩]
 ·rw[get]
  by_cases z:(j:Int)+1∈S/\j < c.ci.length
  ·exfalso
   have v:=vg _ z.1
   have ej:aH c ((j:Int)+1)=l:=by
    have:=i.at v
    rw[show((j:Int)+1 - 1).toNat=j by omega,hj]at this
    exact(ari this).symm
   have hk2:(k:Int)+1∈S:=by
    rw[mem]
    rcases(mem _).mp z.1 with q|q
    ·exact .inl (by rw[←i.eq hx q,ej];exact hk)
    ·exact .inr (by rw[←i.eq hy q,ej];exact hk)
   rw[get,if_pos ⟨hk2,(aqX.mp h').1⟩]at h
   exact np (ari h).symm
  ·rw[if_neg z]
   exact hj
theorem cY.part{c:aK}(i:cY c){x:Int}(hx:Vg c x):cY { c with ci:=encl (encl c.ci [x]) (lW c x) }:=by
 have mem:∀z,z∈lW c x↔z∈aH c x/\z≠x:=fun z=>by
  unfold lW
  rw[arh]
  simp
 have vg:∀z∈lW c x,Vg c z:=fun z hz=>i.mem _ _ (i.at hx) z ((mem z).mp hz).1
 have l1:(encl c.ci [x]).length=c.ci.length:=by unfold encl;rw[v9]
 have get:∀k:Nat,(encl (encl c.ci [x]) (lW c x))[k]?=if ((k:Int)+1∈lW c x)/\k < c.ci.length then some (lW c x) else if ((k:Int)+1=x)/\k < c.ci.length then some [x] else c.ci[k]?:=fun k=>by
  rw[yX _ _ _ fun z hz=>(vg z hz).1,l1,yX _ _ _ fun z hz=>by rw[aq2.mp hz];exact hx.1]
  simp only[aq2]
 refine i.again (P:=fun l=>l=lW c x/\l≠[]∨l=[x]) (by unfold encl;rw[v9,v9]) (fun k l h=>?_) (fun l hl=>?_) (fun k j l h h' hj hk np=>?_)
 ·rw[get]at h
  split at h
  ·next z=>
   cases h
   exact .inl ⟨.inl ⟨rfl,List.ne_nil_of_mem z.1⟩,z.1⟩
  ·split at h
   ·next z=>
    cases h
    exact .inl ⟨.inr rfl,by rw[z.1];simp⟩
   ·exact .inr h
 ·rcases hl with⟨rfl,_⟩|rfl
  ·refine⟨(i.up _ _ (i.at hx)).filter _,fun z hz=>⟨vg z hz,?_⟩⟩
   have v:=vg z hz
   have e:(((z - 1).toNat:Nat):Int)+1=z:=by omega
   rw[get,e,if_pos ⟨hz,by rw[i.len];omega⟩]
  ·refine⟨by simp,fun z hz=>?_⟩
   rw[aq2.mp hz]
   refine⟨hx,?_⟩
   have e:(((x - 1).toNat:Nat):Int)+1=x:=by omega
   rw[get,e,if_neg (fun z=>((mem x).mp z.1).2 rfl),if_pos ⟨rfl,by rw[i.len];omega⟩]
 ·have key:∀m:Nat,c.ci[m]?=some l->(m:Int)+1∈aH c x->l=aH c x:=fun m hm q=>by
   have v:=i.mem _ _ (i.at hx) _ q
   have:=i.at v
   rw[show((m:Int)+1 - 1).toNat=m by omega,hm,i.eq hx q]at this
   exact ari this
  have out:(k:Int)+1∉aH c x:=fun q=>by
   rw[get]at h
   by_cases e:(k:Int)+1=x
   ·rw[if_neg (fun z=>((mem _).mp z.1).2 e),if_pos ⟨e,(aqX.mp h').1⟩]at h
    exact np (.inr (ari h).symm)
   ·rw[if_pos ⟨(mem _).mpr ⟨q,e⟩,(aqX.mp h').1⟩]at h
    have e2:=(ari h).symm
    exact np (.inl ⟨e2,fun z=>by rw[z]at hk;cases hk⟩)
  have outj:(j:Int)+1∉aH c x:=fun q=>out (key j hj q ▸ hk)
  have o1:¬((j:Int)+1∈lW c x/\j < c.ci.length):=fun z=>outj ((mem _).mp z.1).1
  have o2:¬((j:Int)+1=x/\j < c.ci.length):=fun z=>outj (by rw[z.1];exact i.self hx)
  rw[get,if_neg o1,if_neg o2]
  exact hj
def Good(held:List Row3)(s:Sd):Prop:=cI s.ear=true/\(∀e,s.due=some e->cI e=true)/\(s.al=true->∃m,(s.o,s.g,m)∈held)
structure Q8(m:Nat)(c:aK):Prop where
 g:∀b∈c.bs,Good c.held b.sd
 en:∀b∈c.bs,b.en.length<=m
theorem Inv.V6{n s:Nat}{c:aK}(I:Inv n s c):Q8 (2 * n) c:=⟨fun b hb=>⟨I.ear b hb,I.due b hb,I.rt b hb⟩,I.en⟩
theorem PN{c:aK}{i:Nat}{e:En}{b:dD}(h:b∈(fu c i e).bs):b∈c.bs∨∃b0,c.bs[i]?=some b0/\b=mJ b0 e:=by
 obtain⟨j,hj⟩:=List.mem_iff_getElem?.mp h
 rw[wu]at hj
 split at hj
 ·next z=>
  subst z
  obtain⟨b0,h3,h4⟩:=arF.mp hj
  exact .inr ⟨b0,h3,h4.symm⟩
 ·exact .inl (aq3 hj)
theorem Q8.one{m:Nat}{c:aK}(B:Q8 m c){i:Nat}{e:En}(h:∀b,c.bs[i]?=some b->Good c.held (go b.sd e)):Q8 (m+1) (fu c i e):=by
 refine⟨fun b hb=>?_,fun b hb=>?_⟩
 ·rcases PN hb with h1|⟨b0,h1,rfl⟩
  ·exact B.g b h1
  ·exact h b0 h1
 ·rcases PN hb with h1|⟨b0,h1,rfl⟩
  ·have:=B.en b h1
   omega
  ·have:=B.en b0 (aq3 h1)
   simp[mJ]
   omega
theorem Q8.many{m:Nat}{c:aK}(B:Q8 m c){p:dD->Bool}{e:En}(h:∀b∈c.bs,p b=true->Good c.held (go b.sd e)):Q8 (m+1) (nY p e c):=by
 refine⟨fun b hb=>?_,fun b hb=>?_⟩
 ·obtain⟨b0,h1,rfl⟩:=aq8.mp hb
  cases hp:p b0 with
  |true=>
   rw[if_pos rfl]
   exact h b0 h1 hp
  |false=>
   rw[if_neg (by simp)]
   exact B.g b0 h1
 ·obtain⟨b0,h1,rfl⟩:=aq8.mp hb
  have:=B.en b0 h1
  cases hp:p b0 <;> simp[mJ] <;> omega
theorem Good.mono{held held':List Row3}{s:Sd}(g:Good held s)(h:∀r∈held,r∈held'):Good held' s:=⟨g.1,g.2.1,fun z=>by
 obtain⟨m,hm⟩:=g.2.2 z
 exact⟨m,h _ hm⟩⟩
theorem Inv.of{n s n' s':Nat}{c c':aK}(I:Inv n s c)(hn:n<=n')(gr:cY c')(hal:c'.al.length<=n')(ec:c'.count=c.count)(eo:c'.own=c.own)(hd:c'.held.Nodup)(hL:c'.held.length+c'.bs.length<=s')(hE:∀r∈c'.held,r.1∈c'.own/\Vg c' r.2.1/\cI r.2.2=true)(B:Q8 (2 * n') c'):Inv n' s' c':=
 ⟨gr,hal,by have:=I.cnt;rw[ec];omega,by rw[ec,eo];exact I.own,by rw[eo];exact I.Oq,by have:=I.ownL;rw[eo];omega,hd,hL,hE,fun b hb=>(B.g b hb).1,fun b hb=>(B.g b hb).2.1,B.en,fun b hb=>(B.g b hb).2.2⟩
theorem ab5{x:List Int}{p:Nat}(h:cI x=true)(h9:¬9<=x.getD p 0):cI (uE x p)=true:=by
 unfold cI at *
 simp only[aqW,decide_eq_true_eq,arl]at *
 refine⟨by rw[acv];exact h.1,fun d hd=>?_⟩
 unfold uE at hd
 obtain⟨i,hi,rfl⟩:=List.mem_mapIdx.mp hd
 have:=h.2 _ (arL hi)
 split
 ·next e=>
  subst e
  have:x.getD i 0=x[i]:=by simp[hi]
  omega
 ·exact this
theorem Je{r:Row3}:∀(l acc:List Row3),r∈l.foldl Fe acc↔r∈acc∨r∈l
 |[],acc=>by simp
 |x::l,acc=>by
  rw[ar4,Je l]
  unfold Fe
  split
  ·next h=>
   constructor
   ·rintro(z|z)
    ·exact .inl z
    ·exact .inr (aq0 _ z)
   ·rintro(z|z)
    ·exact .inl z
    ·rcases ara.mp z with rfl|z
     ·exact .inl h
     ·exact .inr z
  ·simp[or_assoc]
theorem SQ:∀(l acc:List Row3),acc.Nodup->(l.foldl Fe acc).Nodup
 |[],acc,h=>h
 |x::l,acc,h=>by
  rw[ar4]
  refine SQ l _ ?_
  unfold Fe
  split
  ·exact h
  ·next z=>
   rw[arR]
   exact⟨h,by simp,fun a ha b hb e=>z (by rw[aq2.mp hb]at e;exact e ▸ ha)⟩
theorem X7:∀(l acc:List Row3),(l.foldl Fe acc).length<=acc.length+l.length
 |[],acc=>by simp
 |x::l,acc=>by
  rw[ar4]
  refine ars (X7 l _) ?_
  unfold Fe
  split <;> simp <;> omega
def cost:bH->Nat
 |.enrol ..=>1
 |.bring ..=>1
 |.bear ..=>1
 |.heir ..=>1
 |_=>0
theorem oA{o room:Int}{e:List Int}{R:List Rw}{x:Res}{d:Dat}{c':aK}(h:v8 o e R room x=.ok d c'):x=.ok d c':=by
 unfold v8 at h
 split at h
 ·exact h
 ·cases h
theorem fO{c:aK}{o:Int}{x:Res}{d:Dat}{c':aK}(h:rO c o x=.ok d c'):o∈c.own/\x=.ok d c':=by
 unfold rO at h
 split at h
 ·next z=>exact⟨z,h⟩
 ·cases h
theorem fZ{c:aK}{g:Int}{x:Res}{d:Dat}{c':aK}(h:xg c g x=.ok d c'):Vg c g/\x=.ok d c':=by
 unfold xg at h
 split at h
 ·next z=>exact⟨z,h⟩
 ·cases h
theorem Cy{e:List Int}{x:Res}{d:Dat}{c':aK}(h:IW e x=.ok d c'):cI e=true/\x=.ok d c':=by
 unfold IW at h
 split at h
 ·next z=>exact⟨z,h⟩
 ·cases h
theorem gM{c:aK}{o g:Int}{x:Res}{d:Dat}{c':aK}(h:ni c o g x=.ok d c'):bU c o g≠[]/\x=.ok d c':=by
 unfold ni at h
 split at h
 ·cases h
 ·next z=>exact⟨z,h⟩
theorem rN{c:aK}{k:Int}{f:dD->Res}{d:Dat}{c':aK}(h:wM c k f=.ok d c'):∃b,bk c k=some b/\b.sd.al=true/\f b=.ok d c':=by
 unfold wM at h
 split at h
 ·cases h
 ·next b hb=>
  split at h
  ·next z=>exact⟨b,hb,z,h⟩
  ·cases h
theorem qW{c:aK}{k:Int}{f:dD->List Int->Res}{d:Dat}{c':aK}(h:markB c k f=.ok d c'):∃b e,bk c k=some b/\b.sd.al=true/\b.sd.due=some e/\f b e=.ok d c':=by
 obtain⟨b,h1,h2,h3⟩:=rN h
 split at h3
 ·cases h3
 ·next e he=>exact⟨b,e,h1,h2,he,h3⟩
theorem eX{p:Prop}[Decidable p]{x:eE}{y:Res}{d:Dat}{c':aK}(h:(if p then .no x else y)=Res.ok d c'):¬p/\y=.ok d c':=by
 split at h
 ·cases h
 ·next z=>exact⟨z,h⟩
theorem uZ{p:Prop}[Decidable p]{x:eE}{y:Res}{d:Dat}{c':aK}(h:(if p then y else .no x)=Res.ok d c'):p/\y=.ok d c':=by
 split at h
 ·next z=>exact⟨z,h⟩
 ·cases h
theorem jY{c:aK}{k:Int}{b:dD}(h:bk c k=some b):c.bs[(k - 1).toNat]?=some b/\1<=k/\k<=c.bs.length:=by
 unfold bk at h
 split at h
 ·next z=>exact⟨h,z⟩
 ·cases h
theorem Qw(c:aK)(k o g:Int):(xq c k o g).bs.length=c.bs.length:=by simp[xq,nY]
theorem Df(c:aK)(i:Nat)(e:En):(fu c i e).bs.length=c.bs.length:=by simp[fu]
theorem aeY{n s:Nat}{c c':aK}{d:bH}{r:Dat}(I:Inv n s c)(hn:n<=199)(h:cQ c d=.ok r c'):Inv (n+1) (s+cost d) c':=by
 have L0:=I.hL
 have A0:=I.al
 have C0:=I.cnt
 have O0:=I.ownL
 have up:Q8 (2 * (n+1)) c:=⟨I.V6.g,fun b hb=>by have:=I.en b hb;omega⟩
 cases d with
 |owner=>
  cases h
  refine⟨I.gr.same rfl rfl,by show c.al.length<=_;omega,⟨by show 0<=c.count+1;omega,by show c.count+1<=((n+1:Nat):Int);omega⟩,fun o ho=>?_,?_,by simp;omega,I.held,by simp[cost];omega,fun r hr=>?_,I.ear,I.due,up.en,I.rt⟩
  ·show 1<=o/\o<=c.count+1
   rcases aq5.mp ho with ho|ho
   ·have:=I.own o ho
    omega
   ·rw[aq2.mp ho]
    omega
  ·rw[arR]
   refine⟨I.Oq,by simp,fun a ha b hb e=>?_⟩
   rw[aq2.mp hb]at e
   have:=I.own a ha
   omega
  ·obtain⟨h1,h2,h3⟩:=I.hE r hr
   exact⟨arG _ h1,h2,h3⟩
 |ground x=>
  obtain⟨hx,h⟩:=uZ h
  cases h
  refine I.of (by omega) (I.gr.add (by omega) hx) (by simp;omega) rfl rfl I.held (by simp[cost];omega) (fun r hr=>?_) ⟨up.g,up.en⟩
  obtain⟨h1,h2,h3⟩:=I.hE r hr
  refine⟨h1,?_,h3⟩
  show 1<=_/\_<=((c.al++[x]).length:Int)
  rw[arP]
  have:=h2.2
  exact⟨h2.1,by omega⟩
 |enrol o g m=>
  obtain⟨h1,h⟩:=fO h
  obtain⟨h2,h⟩:=fZ h
  obtain⟨h3,h⟩:=Cy h
  obtain⟨h4,h⟩:=eX h
  obtain⟨h5,h⟩:=eX h
  have h:=oA h
  cases h
  refine I.of (by omega) (I.gr.same rfl rfl) (by show c.al.length<=_;omega) rfl rfl ?_ (by simp[cost];omega) (fun r hr=>?_) ⟨fun b hb=>(up.g b hb).mono fun r hr=>arG _ hr,up.en⟩
  ·rw[arR]
   refine⟨I.held,by simp,fun a ha b hb e=>?_⟩
   rw[aq2.mp hb]at e
   exact h5 (Ei.mpr (e ▸ ha))
  ·rcases aq5.mp hr with hr|hr
   ·exact I.hE r hr
   ·rw[aq2.mp hr]
    exact⟨h1,h2,h3⟩
 |leave o g=>
  obtain⟨h1,h⟩:=fO h
  obtain⟨h2,h⟩:=fZ h
  obtain⟨h3,h⟩:=gM h
  obtain⟨h4,h⟩:=eX h
  cases h
  have sub:∀r∈dropped c o g,r∈c.held:=fun r hr=>(arh.mp hr).1
  have ln:(dropped c o g).length<=c.held.length:=ark _ _
  refine I.of (by omega) (I.gr.same rfl rfl) (by show c.al.length<=_;omega) rfl rfl (I.held.filter _) (by simp[cost];omega) (fun r hr=>I.hE r (sub r hr)) ⟨fun b hb=>⟨(up.g b hb).1,(up.g b hb).2.1,fun hal=>?_⟩,up.en⟩
  obtain⟨m,hm⟩:=(up.g b hb).2.2 hal
  refine⟨m,arh.mpr ⟨hm,?_⟩⟩
  simp only[ard,Bool.and_eq_false_iff,beq_eq_false_iff_ne]
  by_cases e:b.sd.o=o/\b.sd.g=g
  ·exfalso
   refine h4 (List.any_eq_true.mpr ⟨b,hb,?_⟩)
   simp[Xy,hal,e.1,e.2]
  ·by_cases e1:b.sd.o=o
   ·exact .inr fun z=>e ⟨e1,z⟩
   ·exact .inl e1
 |bring o g e=>
  obtain⟨h1,h⟩:=fO h
  obtain⟨h2,h⟩:=fZ h
  obtain⟨h3,h⟩:=Cy h
  obtain⟨h4,h⟩:=gM h
  cases h
  refine I.of (by omega) (I.gr.same rfl rfl) (by show c.al.length<=_;omega) rfl rfl I.held (by simp[cost];omega) I.hE ⟨fun b hb=>?_,fun b hb=>?_⟩
  ·rcases aq5.mp hb with hb|hb
   ·exact up.g b hb
   ·rw[aq2.mp hb]
    exact⟨h3,fun e z=>(by cases z),fun _=>zj.mp h4⟩
  ·rcases aq5.mp hb with hb|hb
   ·exact up.en b hb
   ·rw[aq2.mp hb]
    simp[yV]
 |bear k=>
  obtain⟨b0,e0,h1,h2,h3,h⟩:=qW h
  cases h
  refine I.of (by omega) (I.gr.same rfl rfl) (by show c.al.length<=_;omega) rfl rfl I.held (by simp[cost];omega) I.hE ⟨fun b hb=>?_,fun b hb=>?_⟩
  ·rcases aq5.mp hb with hb|hb
   ·exact up.g b hb
   ·rw[aq2.mp hb]
    exact⟨(by decide:cI [0,0,0,0,0,0]=true),fun e z=>(by cases z),fun _=>(up.g b0 (aq3 (jY h1).1)).2.2 h2⟩
  ·rcases aq5.mp hb with hb|hb
   ·exact up.en b hb
   ·rw[aq2.mp hb]
    simp[yV]
 |cut k=>
  obtain⟨b0,h1,h2,h⟩:=rN h
  have h:=oA h
  cases h
  have hm:=aq3 (jY h1).1
  obtain⟨r,q4,q5⟩:=I.mk1 (I.alive hm h2).1
  have je:=wZ (I.ear b0 hm) q5
  generalize iV b0.sd.ear (firstM c b0.sd.o b0.sd.g)=e at je ⊢
  have B:=I.V6.one (i:=(k - 1).toNat) (e:=.cut e) fun b hb=>by
   rw[(jY h1).1]at hb
   cases hb
   exact⟨je,fun e z=>(by cases z;exact je),fun _=>I.rt b0 hm h2⟩
  exact I.of (by omega) (I.gr.same rfl rfl) (by show c.al.length<=_;omega) rfl rfl I.held (by rw[Df];simp[cost,fu];omega) I.hE ⟨B.g,fun b hb=>by have:=B.en b hb;omega⟩
 |tear k p=>
  obtain⟨b0,h1,h2,h⟩:=rN h
  obtain⟨h3,h⟩:=uZ h
  obtain⟨h4,h⟩:=eX h
  cases h
  have hm:=aq3 (jY h1).1
  have B:=I.V6.one (i:=(k - 1).toNat) (e:=.torn p.toNat) fun b hb=>by
   rw[(jY h1).1]at hb
   cases hb
   exact⟨ab5 (I.ear b0 hm) h4,I.due b0 hm,I.rt b0 hm⟩
  exact I.of (by omega) (I.gr.same rfl rfl) (by show c.al.length<=_;omega) rfl rfl I.held (by rw[Df];simp[cost,fu];omega) I.hE ⟨B.g,fun b hb=>by have:=B.en b hb;omega⟩
 |die k=>
  obtain⟨b0,h1,h2,h⟩:=rN h
  cases h
  have hm:=aq3 (jY h1).1
  have B:=I.V6.one (i:=(k - 1).toNat) (e:=.died) fun b hb=>by
   rw[(jY h1).1]at hb
   cases hb
   exact⟨I.ear b0 hm,I.due b0 hm,fun z=>by cases z⟩
  exact I.of (by omega) (I.gr.same rfl rfl) (by show c.al.length<=_;omega) rfl rfl I.held (by rw[Df];simp[cost,fu];omega) I.hE ⟨B.g,fun b hb=>by have:=B.en b hb;omega⟩
 |sell k o=>
  obtain⟨b0,e0,h1,h2,h3,h⟩:=qW h
  obtain⟨h4,h⟩:=fO h
  obtain⟨h5,h⟩:=eX h
  obtain⟨h6,h⟩:=gM h
  have h:=oA h
  cases h
  have hm:=aq3 (jY h1).1
  obtain⟨r,q4,q5⟩:=I.mk1 h6
  have je:=wZ (I.ear b0 hm) q5
  generalize iV b0.sd.ear (firstM c o b0.sd.g)=e at je ⊢
  have B:=I.V6.one (i:=(k - 1).toNat) (e:=.sold o e) fun b hb=>by
   rw[(jY h1).1]at hb
   cases hb
   exact⟨je,fun e z=>(by cases z;exact je),fun _=>zj.mp h6⟩
  have B2:=B.many (p:=fun x=>uK k x&&x.sd.al) (e:=.followed o b0.sd.g) fun b hb _=>⟨(B.g b hb).1,(B.g b hb).2.1,fun _=>zj.mp h6⟩
  exact I.of (by omega) (I.gr.same rfl rfl) (by show c.al.length<=_;omega) rfl rfl I.held (by rw[Qw,Df];simp[cost,fu,xq,nY];omega) I.hE ⟨B2.g,fun b hb=>by have:=B2.en b hb;omega⟩
 |move k g=>
  obtain⟨b0,e0,h1,h2,h3,h⟩:=qW h
  obtain⟨h4,h⟩:=fZ h
  obtain⟨h5,h⟩:=eX h
  obtain⟨h6,h⟩:=gM h
  have h:=oA h
  cases h
  have hm:=aq3 (jY h1).1
  have B:=I.V6.one (i:=(k - 1).toNat) (e:=.moved g) fun b hb=>by
   rw[(jY h1).1]at hb
   cases hb
   exact⟨I.ear b0 hm,I.due b0 hm,fun _=>zj.mp h6⟩
  have B2:=B.many (p:=fun x=>uK k x&&x.sd.al) (e:=.followed b0.sd.o g) fun b hb _=>⟨(B.g b hb).1,(B.g b hb).2.1,fun _=>zj.mp h6⟩
  exact I.of (by omega) (I.gr.same rfl rfl) (by show c.al.length<=_;omega) rfl rfl I.held (by rw[Qw,Df];simp[cost,fu,xq,nY];omega) I.hE ⟨B2.g,fun b hb=>by have:=B2.en b hb;omega⟩
 |vP x y=>
  obtain⟨h1,h⟩:=fZ h
  obtain⟨h2,h⟩:=fZ h
  obtain⟨h3,h⟩:=eX h
  split at h
  ·cases h
  ·cases h
   exact I.of (by omega) (I.gr.vP h2 h1 h3) (by show c.al.length<=_;omega) rfl rfl I.held (by show c.held.length+c.bs.length<=_;omega) I.hE ⟨up.g,up.en⟩
 |part x=>
  obtain⟨h1,h⟩:=fZ h
  obtain⟨h3,h⟩:=eX h
  cases h
  exact I.of (by omega) (I.gr.part h1) (by show c.al.length<=_;omega) rfl rfl I.held (by show c.held.length+c.bs.length<=_;omega) I.hE ⟨up.g,up.en⟩
 |pass e h'=>
  obtain⟨h1,h⟩:=fO h
  obtain⟨h2,h⟩:=fO h
  obtain⟨h3,h⟩:=eX h
  cases h
  have hin:∀r∈c.held,Ab e h' r∈handed c e h':=fun r hr=>(Je _ _).mpr (.inr (aq8.mpr ⟨r,hr,rfl⟩))
  have hout:∀r∈handed c e h',∃r0∈c.held,Ab e h' r0=r:=fun r hr=>by
   rcases(Je _ _).mp hr with z|z
   ·cases z
   ·obtain⟨r0,z1,z2⟩:=aq8.mp z
    exact⟨r0,z1,z2⟩
  have hl:(handed c e h').length<=c.held.length:=by
   have:=X7 (c.held.map (Ab e h')) []
   simpa [handed] using this
  have ow:∀o,o∈c.own.filter (fun o=>!(o==e))↔o∈c.own/\o≠e:=fun o=>by
   rw[arh]
   simp
  have g:∀b∈(nY (fun b=>(b.sd.o==e)&&b.sd.al) (.passed h') c).bs,Good (handed c e h') b.sd:=fun b hb=>by
   obtain⟨b0,hb0,rfl⟩:=aq8.mp hb
   have G:=up.g b0 hb0
   cases hp:((b0.sd.o==e)&&b0.sd.al) with
   |true=>
    simp only[hp,if_true]
    refine⟨G.1,G.2.1,fun hal=>?_⟩
    obtain⟨m,hm⟩:=G.2.2 hal
    have:=hin _ hm
    simp at hp
    rw[hp.1]at this
    exact⟨m,by simpa [Ab,mJ,go] using this⟩
   |false=>
    simp only[hp]
    refine⟨G.1,G.2.1,fun hal=>?_⟩
    obtain⟨m,hm⟩:=G.2.2 hal
    have:=hin _ hm
    have hal:b0.sd.al=true:=hal
    rw[hal]at hp
    simp at hp
    exact⟨m,by simpa [Ab,hp] using this⟩
  have en:∀b∈(nY (fun b=>(b.sd.o==e)&&b.sd.al) (.passed h') c).bs,b.en.length<=2 * (n+1):=fun b hb=>by
   obtain⟨b0,hb0,rfl⟩:=aq8.mp hb
   have:=I.en b0 hb0
   dsimp only
   split
   ·simp[mJ]
    omega
   ·omega
  refine⟨I.gr.same rfl rfl,by show c.al.length<=_;omega,⟨C0.1,by show c.count<=_;omega⟩,fun o ho=>I.own o ((ow o).mp ho).1,I.Oq.filter _,?_,SQ _ _ (by simp),?_,fun r hr=>?_,fun b hb=>(g b hb).1,fun b hb=>(g b hb).2.1,en,fun b hb=>(g b hb).2.2⟩
  ·show(c.own.filter _).length<=_
   have:=ark (fun o=>!(o==e)) c.own
   omega
  ·show(handed c e h').length+(nY _ _ c).bs.length<=_
   simp[nY]
   omega
  ·obtain⟨r0,z1,rfl⟩:=hout r hr
   obtain⟨q1,q2,q3⟩:=I.hE r0 z1
   refine⟨(ow _).mpr ?_,q2,q3⟩
   unfold Ab
   by_cases z:r0.1=e
   ·simp only[z,if_true]
    exact⟨h2,fun q=>h3 q.symm⟩
   ·simp only[z,if_false]
    exact⟨q1,z⟩
 |heir e g x=>
  obtain⟨h1,h⟩:=fO h
  obtain⟨h2,h⟩:=fZ h
  obtain⟨h3,h⟩:=uZ h
  obtain⟨h4,h⟩:=gM h
  split at h
  ·next mk hmk=>
   cases h
   obtain⟨r,q4,q5⟩:=I.mk1 h4
   have hme:cI mk=true:=Wh q5 ⟨by omega,h3.2⟩ (arh.mp (List.mem_of_find?_eq_some hmk)).1
   refine⟨I.gr.same rfl rfl,by show c.al.length<=_;omega,⟨by show 0<=c.count+1;omega,by show c.count+1<=((n+1:Nat):Int);omega⟩,fun o ho=>?_,?_,by simp;omega,?_,by simp[cost];omega,fun r hr=>?_,I.ear,I.due,up.en,fun b hb hal=>?_⟩
   ·show 1<=o/\o<=c.count+1
    rcases aq5.mp ho with ho|ho
    ·have:=I.own o ho
     omega
    ·rw[aq2.mp ho]
     omega
   ·rw[arR]
    refine⟨I.Oq,by simp,fun a ha b hb e=>?_⟩
    rw[aq2.mp hb]at e
    have:=I.own a ha
    omega
   ·rw[arR]
    refine⟨I.held,by simp,fun a ha b hb e=>?_⟩
    rw[aq2.mp hb]at e
    have:=I.own _ (I.hE a ha).1
    rw[e]at this
    simp at this
    omega
   ·rcases aq5.mp hr with hr|hr
    ·obtain⟨z1,z2,z3⟩:=I.hE r hr
     exact⟨arG _ z1,z2,z3⟩
    ·rw[aq2.mp hr]
     exact⟨arH _ (by simp),h2,hme⟩
   ·obtain⟨m,hm⟩:=I.rt b hb hal
    exact⟨m,arG _ hm⟩
  ·cases h
def nB(x:Int):Bool:=decide (0<=x)&&decide (x<=999999999)
def plB(x:Int):Bool:=decide (0<=x)&&decide (x<=5)
theorem mZ(M:Mo)(x:Int):iQ M [.str "number",.int x]=.ok (.bool (nB x)):=by
 by_cases h:0<=x <;> simp[iQ,vo,oW,jd,xJ,Br,h,nB]
theorem jg(M:Mo)(x:Int):iQ M [.str "place",.int x]=.ok (.bool (plB x)):=by
 by_cases h:0<=x <;> simp[iQ,vo,oW,jd,xJ,Br,h,plB]
theorem adz(M:Mo)(x:List Int)(h:x.length<=1000):iQ M [.str "ear",aJ x]=.ok (.bool (cI x)):=by
 have:=VD M x h
 simp[iQ,vo,xJ,Br,this]
def fV:bH->Bool
 |.owner=>true
 |.ground x=>nB x
 |.enrol o g m=>nB o&&nB g&&cI m
 |.leave o g=>nB o&&nB g
 |.bring o g m=>nB o&&nB g&&cI m
 |.bear k=>nB k
 |.cut k=>nB k
 |.tear k p=>nB k&&plB p
 |.sell k o=>nB k&&nB o
 |.move k g=>nB k&&nB g
 |.die k=>nB k
 |.vP x y=>nB x&&nB y
 |.part x=>nB x
 |.pass e h=>nB e&&nB h
 |.heir e g x=>nB e&&nB g&&nB x
def Nv:bH->Prop
 |.enrol _ _ m=>m.length<=1000
 |.bring _ _ m=>m.length<=1000
 |_=>True
theorem jc(M:Mo)(w:Str)(T:List (Str×Dat×Bool))(hk:(Aa zP).lookup w=some (.tuple (T.map fun t=>.str t.1)))(hl:T.length<=10)(hp:∀t∈T,iQ M [.str t.1,t.2.1]=.ok (.bool t.2.2)):GP M [.tuple (.str w::T.map fun t=>t.2.1)]=.ok (.bool (T.all fun t=>t.2.2)):=by
 have hs:Rf.cutD (PyData.str w::T.map fun t=>t.2.1) (some 1) none=T.map fun t=>t.2.1:=Zj _ 1
 have hz:yq (T.map fun t=>PyData.str t.1) (T.map fun t=>t.2.1)=T.map fun t=>.tuple [.str t.1,t.2.1]:=by
  unfold yq
  rw[List.zipWith_map_left,List.zipWith_map_right,List.zipWith_self]
 have key:=fj (tg:=bD [3,4]) (te:=aV iQ (ak (aq 3) (ak (aq 4) au))) (M:=M) (ρ:=[some (.dat (.tuple (.str w::T.map fun t=>t.2.1))),some (.dat (.tuple (T.map fun t=>.str t.1))),some (.dat (.tuple (T.map fun t=>t.2.1))),none,none]) (fun(t:Str×Dat×Bool)=>PyData.tuple [.str t.1,t.2.1]) (fun t=>.bool t.2.2) T fun t ht=>⟨[some (.dat (.tuple (.str w::T.map fun t=>t.2.1))),some (.dat (.tuple (T.map fun t=>.str t.1))),some (.dat (.tuple (T.map fun t=>t.2.1))),some (.dat (.str t.1)),some (.dat t.2.1)],by simp,by simp[hp t ht]⟩
 have ha:Ik (.list (T.map fun t=>PyData.bool t.2.2))=.ok (.bool (T.all fun t=>t.2.2)):=by
  have e:(T.map fun t=>PyData.bool t.2.2)=(T.map fun t=>t.2.2).map PyData.bool:=by rw[arw];rfl
  rw[e]
  show(match qP _ with
   |some bs=>Out.ok (PyData.bool (bs.all id))
   |none=>.bad)=_
  rw[Bb]
  simp[List.all_map,arn]
 have hl2:T.length<=50000:=by omega
 have hne:¬(T.length:Int)+1=0:=by omega
 simp[GP,Z8,hk,hs,hz,key,hl2,ha,hne]
theorem ah1(M:Mo)(d:bH)(hd:Nv d):GP M [d.dat]=.ok (.bool (fV d)):=by
 cases d with
 |owner=>simpa [fV,bH.dat,Bool.and_assoc] using jc M "owner" [] (by rfl) (by simp) (by simp[mZ,jg])
 |ground x=>simpa [fV,bH.dat,Bool.and_assoc] using jc M "ground" [("number",.int x,nB x)] (by rfl) (by simp) (by simp[mZ,jg])
 |enrol o g m=>simpa [fV,bH.dat,Bool.and_assoc] using jc M "enrol" [("number",.int o,nB o),("number",.int g,nB g),("ear",aJ m,cI m)] (by rfl) (by simp) (by simp[mZ,jg,adz M m hd])
 |leave o g=>simpa [fV,bH.dat,Bool.and_assoc] using jc M "leave" [("number",.int o,nB o),("number",.int g,nB g)] (by rfl) (by simp) (by simp[mZ,jg])
 |bring o g m=>simpa [fV,bH.dat,Bool.and_assoc] using jc M "bring" [("number",.int o,nB o),("number",.int g,nB g),("ear",aJ m,cI m)] (by rfl) (by simp) (by simp[mZ,jg,adz M m hd])
 |bear k=>simpa [fV,bH.dat,Bool.and_assoc] using jc M "bear" [("number",.int k,nB k)] (by rfl) (by simp) (by simp[mZ,jg])
 |cut k=>simpa [fV,bH.dat,Bool.and_assoc] using jc M "cut" [("number",.int k,nB k)] (by rfl) (by simp) (by simp[mZ,jg])
 |tear k p=>simpa [fV,bH.dat,Bool.and_assoc] using jc M "tear" [("number",.int k,nB k),("place",.int p,plB p)] (by rfl) (by simp) (by simp[mZ,jg])
 |sell k o=>simpa [fV,bH.dat,Bool.and_assoc] using jc M "sell" [("number",.int k,nB k),("number",.int o,nB o)] (by rfl) (by simp) (by simp[mZ,jg])
 |move k g=>simpa [fV,bH.dat,Bool.and_assoc] using jc M "move" [("number",.int k,nB k),("number",.int g,nB g)] (by rfl) (by simp) (by simp[mZ,jg])
 |die k=>simpa [fV,bH.dat,Bool.and_assoc] using jc M "die" [("number",.int k,nB k)] (by rfl) (by simp) (by simp[mZ,jg])
 |vP x y=>simpa [fV,bH.dat,Bool.and_assoc] using jc M "unite" [("number",.int x,nB x),("number",.int y,nB y)] (by rfl) (by simp) (by simp[mZ,jg])
 |part x=>simpa [fV,bH.dat,Bool.and_assoc] using jc M "part" [("number",.int x,nB x)] (by rfl) (by simp) (by simp[mZ,jg])
 |pass e h=>simpa [fV,bH.dat,Bool.and_assoc] using jc M "pass" [("number",.int e,nB e),("number",.int h,nB h)] (by rfl) (by simp) (by simp[mZ,jg])
 |heir e g x=>simpa [fV,bH.dat,Bool.and_assoc] using jc M "heir" [("number",.int e,nB e),("number",.int g,nB g),("number",.int x,nB x)] (by rfl) (by simp) (by simp[mZ,jg])
theorem j6{M:Mo}{L:Lay}{o o':aZ Dat}{r:Res}(h:Sp M L o r)(e:o'=o):Sp M L o' r:=e ▸ h
section
variable{M:Mo}{L:Lay}{c:aK}(a:At M L c){n s:Nat}(I:Inv n s c)(hs:s<=76)(hn:n<=199)
include a I hs hn
theorem alU(d:bH)(hd:Nv d)(hf:fV d=true):Sp M L (cU M [ob L.c,d.dat]) (cQ c d):=by
 have hc:=a.hc
 have h0:=ah1 M d hd
 rw[hf]at h0
 cases d with
 |owner=>
  simp only[bH.dat]at h0 ⊢
  refine j6 (ail a I hn) ?_
  simp[cU,cX,h0,hc,aQ,iz]
  cases iI M _ <;> rfl
 |ground x=>
  simp only[bH.dat]at h0 ⊢
  refine j6 (afn a I hn x) ?_
  simp[cU,cX,h0,hc,aQ,pX]
  cases ig M _ <;> rfl
 |enrol o g m=>
  simp only[bH.dat]at h0 ⊢
  refine j6 (agK a I hs o g m hd) ?_
  simp[cU,cX,h0,hc,aQ,wH]
  cases dX M _ <;> rfl
 |leave o g=>
  simp only[bH.dat]at h0 ⊢
  refine j6 (ah4 a I hs o g) ?_
  simp[cU,cX,h0,hc,aQ,wg]
  cases fX M _ <;> rfl
 |bring o g m=>
  simp only[bH.dat]at h0 ⊢
  refine j6 (aij a I hs o g m hd) ?_
  simp[cU,cX,h0,hc,aQ,wF]
  cases gq M _ <;> rfl
 |bear k=>
  simp only[bH.dat]at h0 ⊢
  refine j6 (ajv a I hs k) ?_
  simp[cU,cX,h0,hc,aQ,xO]
  cases jm M _ <;> rfl
 |cut k=>
  simp only[bH.dat]at h0 ⊢
  refine j6 (alp a I hs (by omega) k) ?_
  simp[cU,cX,h0,hc,aQ,zB]
  cases jQ M _ <;> rfl
 |tear k p=>
  simp only[bH.dat]at h0 ⊢
  refine j6 (ajj a I hs k p (by omega)) ?_
  simp[cU,cX,h0,hc,aQ,yK]
  cases fL M _ <;> rfl
 |sell k o=>
  simp only[bH.dat]at h0 ⊢
  refine j6 (akU a I hs (by omega) k o) ?_
  simp[cU,cX,h0,hc,aQ,yI]
  cases dO M _ <;> rfl
 |move k g=>
  simp only[bH.dat]at h0 ⊢
  refine j6 (akO a I hs (by omega) k g) ?_
  simp[cU,cX,h0,hc,aQ,yG]
  cases dN M _ <;> rfl
 |die k=>
  simp only[bH.dat]at h0 ⊢
  refine j6 (alR a I hs k (by omega)) ?_
  simp[cU,cX,h0,hc,aQ,zf]
  cases lN M _ <;> rfl
 |vP x y=>
  simp only[bH.dat]at h0 ⊢
  refine j6 (ahl a I hs (by omega) x y) ?_
  simp[cU,cX,h0,hc,aQ,wC]
  cases gA M _ <;> rfl
 |part x=>
  simp only[bH.dat]at h0 ⊢
  refine j6 (ak9 a I hs (by omega) x) ?_
  simp[cU,cX,h0,hc,aQ,yh]
  cases kh M _ <;> rfl
 |pass e h=>
  simp only[bH.dat]at h0 ⊢
  refine j6 (ajJ a I hs (by omega) e h) ?_
  simp[cU,cX,h0,hc,aQ,tX]
  cases fU M _ <;> rfl
 |heir e g x=>
  simp only[bH.dat]at h0 ⊢
  refine j6 (ai9 a I hs (by omega) e g x) ?_
  simp[cU,cX,h0,hc,aQ,sG]
  cases cW M _ <;> rfl
end
theorem aeV{c:aK}{d:bH}{x:eE}(h:cQ c d=.no x):uM.lookup x.cls=some true:=by
 cases d <;> simp only[cQ,rO,xg,IW,ni,v8,wM,markB,Hg]at h <;> (repeat' split at h) <;> cases h <;> simp[uM]
def acq:bH->Nat
 |.owner=>1
 |.heir ..=>1
 |_=>0
def dGr:bH->Nat
 |.ground _=>1
 |_=>0
def dBs:bH->Nat
 |.bring ..=>1
 |.bear _=>1
 |_=>0
theorem aaF{c c':aK}{d:bH}{r:Dat}(h:cQ c d=.ok r c'):c'.count=c.count+(acq d:Int)/\c'.al.length=c.al.length+dGr d/\c'.bs.length=c.bs.length+dBs d/\(pA .none r=true->acq d=0/\dGr d=0/\dBs d=0):=by
 cases d <;> simp only[cQ,rO,xg,IW,ni,v8,wM,markB]at h <;> (repeat' split at h) <;> cases h <;> simp[acq,dGr,dBs,pA,fu,xq,nY,lI]
def pK(c:aK)(d:bH):aK:=match cQ c d with
 |.ok _ c'=>c'
 |.no _=>c
def lY(c:aK):Dat:=.tuple [.int c.count,.int c.al.length,.int c.bs.length]
section
variable{M:Mo}{L:Lay}{c:aK}(a:At M L c){n s:Nat}(I:Inv n s c)(hs:s<=76)(hn:n<=199)
include I hn
omit hn in
theorem Yz(d:bH)(hn:n<=199):Inv (n+1) (s+cost d) (pK c d):=by
 unfold pK
 cases h:cQ c d with
 |ok r c'=>exact aeY I hn h
 |no x=>
  have h1:=I.hL
  have h2:=I.al
  exact I.of (by omega) I.gr (by show c.al.length<=_;omega) rfl rfl I.held (by show c.held.length+c.bs.length<=_;omega) I.hE ⟨I.V6.g,fun b hb=>by have:=I.en b hb;omega⟩
include a hs
theorem agW(d:bH)(hd:Nv d)(hf:fV d=true):∃M' bs,rJ M [ob L.c,d.dat,lY c]=.ok (lY (pK c d)) M'/\At M' { L with bs:=bs } (pK c d):=by
 have hc:=a.hc
 have h0:=alU a I hs hn d hd hf
 unfold pK
 cases e:cQ c d with
 |no x=>
  rw[e]at h0
  have h0:_=_:=h0
  have h1:=aeV e
  exact⟨M,L.bs,by simp[rJ,Lk,hc,aQ,rH,h0,h1,pA],a⟩
 |ok r c'=>
  rw[e]at h0
  obtain⟨M',bs,h0,h2⟩:=h0
  obtain⟨q1,q2,q3,q4⟩:=aaF e
  refine⟨M',bs,?_,h2⟩
  have e1:(c'.al.length:Int)=c.al.length+(dGr d:Int):=by omega
  have e2:(c'.bs.length:Int)=c.bs.length+(dBs d:Int):=by omega
  cases hr:pA .none r with
  |true=>
   obtain⟨z1,z2,z3⟩:=q4 hr
   simp[z1,z2,z3]at q1 e1 e2
   simp[rJ,Lk,hc,aQ,rH,h0,hr,lY,q1,e1,e2]
  |false=>
   clear q4 q2 q3 e hf hd
   cases d <;> simp[acq,dGr,dBs]at q1 e1 e2 <;> simp[rJ,Lk,hc,aQ,rH,h0,hr,lY,q1,e1,e2] <;> simp[bH.dat]
end
def MN(f:Int):Int:=if f=9 then -1 else if f=8 then 3 else if f=7 then 2 else if f=6 then 1 else if f=5 then 1 else 0
def M9(d f:Int):Int:=Qi 0 (if d+MN f < 9 then d+MN f else 9)
def Nh(x f:List Int):List Int:=(x.zip f).map fun p=>M9 p.1 p.2
theorem acX(M:Mo)(x0 x1:Option Cell)(acc:List Dat)(d f:Int)(x5:Option Cell)(hf:0<=f/\f < 10)(hl:acc.length < 1000):∃x5',Py M [x0,x1,some (.mut acc),some (.dat (.int d)),some (.dat (.int f)),x5]=.next [x0,x1,some (.mut (acc++[.int (M9 d f)])),some (.dat (.int d)),some (.dat (.int f)),x5'] M:=by
 have hl2:acc.length < 100000:=by omega
 have key:∀k:Nat,k < 10->([0,0,0,0,0,1,1,2,3,-1]:List Int)[k]?=some (MN k):=by decide
 obtain⟨k,rfl⟩:∃k:Nat,f=k:=⟨f.toNat,by omega⟩
 have hk:=key k (by omega)
 have h2:atI (([0,0,0,0,0,1,1,2,3,-1]:List Int).map PyData.int) (k:Int)=some (.int (MN k)):=atI_nat (by rw[aq9,hk];rfl)
 refine⟨some (.dat (.int (MN k))),?_⟩
 have h3:bf (aF 5) (gOf (aA aO (bL (ak (qC (.int 0)) (ak (qC (.int 0)) (ak (qC (.int 0)) (ak (qC (.int 0)) (ak (qC (.int 0)) (ak (qC (.int 1)) (ak (qC (.int 1)) (ak (qC (.int 2)) (ak (qC (.int 3)) (ak (dH Vd (qC (.int 1))) au))))))))))) (ao 4))) M [x0,x1,some (.mut acc),some (.dat (.int d)),some (.dat (.int k)),x5]=.next [x0,x1,some (.mut acc),some (.dat (.int d)),some (.dat (.int k)),some (.dat (.int (MN k)))] M:=by
  show(((match atI (([0,0,0,0,0,1,1,2,3,-1]:List Int).map PyData.int) (k:Int) with
   |some d=>Out.ok d
   |none=>.bad).at M).then _ fun d M'=>_)=_
  rw[h2]
  rfl
 show aD _ _ _ _=_
 rw[ajX,h3]
 simp[hl2,M9,Qi]
theorem Wu(M:Mo)(x0 x1:Option Cell):∀(ps:List (Int×Int)) (acc:List Dat) (x3 x4 x5:Option Cell),(∀p∈ps,0<=p.2/\p.2 < 10)->acc.length+ps.length<=500->∃x3' x4' x5',gY (bD [3,4]) Py (ps.map pD) M [x0,x1,some (.mut acc),x3,x4,x5]=.next [x0,x1,some (.mut (acc++ps.map fun p=>.int (M9 p.1 p.2))),x3',x4',x5'] M
 |[],acc,x3,x4,x5,_,_=>⟨x3,x4,x5,by simp[gY]⟩
 |p::ps,acc,x3,x4,x5,h,hl=>by
  rw[arb]at hl
  obtain⟨x5',e⟩:=acX M x0 x1 acc p.1 p.2 x5 (h p aq1) (by omega)
  obtain⟨y3,y4,y5,ih⟩:=Wu M x0 x1 ps (acc++[.int (M9 p.1 p.2)]) (some (.dat (.int p.1))) (some (.dat (.int p.2))) x5' (fun q hq=>h q (aq0 _ hq)) (by simp;omega)
  refine⟨y3,y4,y5,?_⟩
  rw[aqZ,gR (ρ1:=[x0,x1,some (.mut acc),some (.dat (.int p.1)),some (.dat (.int p.2)),x5]) (by simp[pD]) e,ih]
  simp
theorem abh(M:Mo)(x f:List Int)(hx:x.length<=100)(hf:∀d∈f,0<=d/\d < 10):Ax M [aJ x,lI f]=.ok (aJ (Nh x f)):=by
 obtain⟨y3,y4,y5,e⟩:=Wu M (some (.dat (aJ x))) (some (.dat (lI f))) (x.zip f) [] none none none (fun p hp=>hf _ (List.of_mem_zip hp).2) (by simp;omega)
 simp[Ax,XR,za,e,Nh]
def Gv(f:List Int)(m:Int)(x:List Int):List Int:=if m < 4 then Nh x f else uG f m
theorem aco(M:Mo)(x f:List Int)(m:Int)(hx:x.length<=100)(hl:f.length<=1000)(hf:∀d∈f,0<=d/\d < 10):wU M [lI f,.int m,aJ x]=.ok (aJ (Gv f m x)):=by
 have h1:=abh M x f hx hf
 have h2:=Mq M f m hl
 unfold Gv
 by_cases h:m < 4 <;> simp[wU,KH,h,h1,h2]
theorem Mw{x:List Int}(h:x.length=6)(h2:∀d∈x,0<=d/\d < 10):cI x=true:=by
 unfold cI
 simp only[aqW,decide_eq_true_eq,arl]
 refine⟨h,fun d hd=>?_⟩
 have:=h2 d hd
 omega
theorem Ws{x f:List Int}(hx:x.length=6)(hf:f.length=6):cI (Nh x f)=true:=by
 refine Mw (by simp[Nh];omega) fun d hd=>?_
 obtain⟨p,hp,rfl⟩:=aq8.mp hd
 unfold M9 Qi
 split <;> split <;> omega
theorem acE{f x:List Int}{m:Int}(hx:x.length=6)(hl:f.length=6)(hf:∀d∈f,0<=d/\d < 10):cI (Gv f m x)=true:=by
 unfold Gv
 split
 ·exact Ws hx hl
 ·refine Mw ?_ (Ym hf)
  unfold uG
  split
  ·simpa using hl
  ·split
   ·simpa using hl
   ·exact hl
def kZ(f many:Int)(sure:Bool):Int:=if sure then 1+f % (if many > 1 then many else 1) else f % (many+2)
theorem ZQ(M:Mo)(f many:Int)(sure:Bool)(hm:0<=many):jU M [.int f,.int many,.bool sure]=.ok (.int (kZ f many sure)):=by
 have h2:0 < many+2:=by omega
 have h3:0 < (if 1 < many then many else 1):=by split <;> omega
 cases sure
 ·simp[jU,Xp,kZ,h2]
 ·simp[jU,Xp,kZ,h3]
theorem Cm{f many:Int}{sure:Bool}(hf:0<=f/\f<=1000)(hm:0<=many):nB (kZ f many sure)=true:=by
 unfold kZ nB
 have key:∀m:Int,0 < m->0<=f % m/\f % m<=f:=fun m h=>⟨Int.emod_nonneg _ (by omega),by
  have h1:=Int.mul_ediv_add_emod f m
  have h2:=Int.mul_nonneg (by omega:0<=m) (Int.ediv_nonneg hf.1 (by omega:0<=m))
  omega⟩
 simp only[aqW,decide_eq_true_eq]
 cases sure
 ·have:=key (many+2) (by omega)
  simp
  omega
 ·have:=key (if many > 1 then many else 1) (by split <;> omega)
  simp only[if_true]
  omega
abbrev dd(M:Mo)(w:Str)(one two:Int)(p base:List Int)(n0 n1 n2:Int):Out Dat:=gU M [.str w,.int one,.int two,lI p,.tuple [.int n0,.int n1,.int n2],aJ base]
def eO(p:List Int):Bool:=!(p.getD 6 0==9)
def Jb(p base:List Int):List Int:=Gv (p.drop 8) (p.getD 7 0) base
def grT(f:Int):Int:=if f=9 then 8 else if f=8 then 7 else if f=7 then 6 else if f=6 then 5 else if f=5 then 1 else if f=4 then 0 else f
def Gi(p base:List Int):List Int:=if p.getD 7 0 < 6 then[0,0,0,0,0,0] else Jb p base
structure Pts(p base:List Int):Prop where
 len:p.length=14
 dig:∀d∈p,0<=d/\d < 10
 base:base.length=6
theorem alh{p:List Int}(h:p.length=14):∃a b c d e f g i j k l m n o:Int,p=[a,b,c,d,e,f,g,i,j,k,l,m,n,o]:=by
 match p,h with
 |[a,b,c,d,e,f,g,i,j,k,l,m,n,o],_=>exact⟨a,b,c,d,e,f,g,i,j,k,l,m,n,o,rfl⟩
theorem Pts.mark{p base:List Int}(P:Pts p base):cI (Jb p base)=true:=acE P.base (by rw[ar9,P.len]) fun d hd=>P.dig d (List.mem_of_mem_drop hd)
theorem Pts.bring{p base:List Int}(P:Pts p base):cI (Gi p base)=true:=by
 unfold Gi
 split
 ·decide
 ·exact P.mark
section
variable(M:Mo){p base:List Int}(P:Pts p base)(one two n0 n1 n2:Int)(h0:0<=n0)(h1:0<=n1)(h2:0<=n2)
include P h0 h1 h2
theorem aeX :
  dd M "owner" one two p base n0 n1 n2=.ok (bH.dat (.owner))/\
  dd M "ground" one two p base n0 n1 n2=.ok (bH.dat (.ground (grT (p.getD 7 0)+4 * (if eO p then 0 else 1))))/\
  dd M "enrol" one two p base n0 n1 n2=.ok (bH.dat (.enrol (kZ one n0 (eO p)) (kZ two n1 (eO p)) (Jb p base)))/\
  dd M "bring" one two p base n0 n1 n2=.ok (bH.dat (.bring (kZ one n0 (eO p)) (kZ two n1 (eO p)) (Gi p base)))/\
  dd M "leave" one two p base n0 n1 n2=.ok (bH.dat (.leave (kZ one n0 (eO p)) (kZ two n1 (eO p))))/\
  dd M "heir" one two p base n0 n1 n2=.ok (bH.dat (.heir (kZ one n0 (eO p)) (kZ two n1 (eO p)) (p.getD 7 0 % 4)))/\
  dd M "pass" one two p base n0 n1 n2=.ok (bH.dat (.pass (kZ one n0 (eO p)) (kZ two n0 (eO p))))/\
  dd M "unite" one two p base n0 n1 n2=.ok (bH.dat (.vP (kZ one n1 (eO p)) (kZ two n1 (eO p))))/\
  dd M "part" one two p base n0 n1 n2=.ok (bH.dat (.part (kZ one n1 (eO p))))/\
  dd M "tear" one two p base n0 n1 n2=.ok (bH.dat (.tear (kZ one n2 (eO p)) (p.getD 7 0 % 6)))/\
  dd M "sell" one two p base n0 n1 n2=.ok (bH.dat (.sell (kZ one n2 (eO p)) (kZ two n0 (eO p))))/\
  dd M "move" one two p base n0 n1 n2=.ok (bH.dat (.move (kZ one n2 (eO p)) (kZ two n1 (eO p))))/\
  dd M "bear" one two p base n0 n1 n2=.ok (bH.dat (.bear (kZ one n2 (eO p))))/\
  dd M "cut" one two p base n0 n1 n2=.ok (bH.dat (.cut (kZ one n2 (eO p))))/\
  dd M "die" one two p base n0 n1 n2=.ok (bH.dat (.die (kZ one n2 (eO p)))):=by
 have hm:=aco M base (p.drop 8) (p.getD 7 0) (by rw[P.base];decide) (by rw[ar9,P.len];decide) fun d hd=>P.dig d (List.mem_of_mem_drop hd)
 have hr0:=fun f=>ZQ M f n0 (eO p) h0
 have hr1:=fun f=>ZQ M f n1 (eO p) h1
 have hr2:=fun f=>ZQ M f n2 (eO p) h2
 have hd:=P.dig
 have hbr:Gi p base=if p.getD 7 0 < 6 then[0,0,0,0,0,0] else Jb p base:=rfl
 have hmp:Jb p base=Gv (p.drop 8) (p.getD 7 0) base:=rfl
 have hsb:eO p=!(p.getD 6 0==9):=rfl
 obtain⟨x0,x1,x2,x3,x4,x5,x6,x7,x8,x9,x10,x11,x12,x13,rfl⟩:=alh P.len
 generalize hp:[x0,x1,x2,x3,x4,x5,x6,x7,x8,x9,x10,x11,x12,x13]=p at *
 have h6:p.getD 6 0=x6:=by rw[←hp];rfl
 have h7:p.getD 7 0=x7:=by rw[←hp];rfl
 have h8:p.drop 8=[x8,x9,x10,x11,x12,x13]:=by rw[←hp];rfl
 have hx7:=hd x7 (by rw[←hp];simp)
 rw[h7,h8]at hm hmp
 rw[h7]at hbr
 rw[h6]at hsb
 simp only[h7]
 generalize eO p=su at *
 generalize Jb p base=mk at *
 generalize Gi p base=br at *
 have c1:Rf.cutD (p.map PyData.int) (some 8) (some 14)=[PyData.int x8,.int x9,.int x10,.int x11,.int x12,.int x13]:=by rw[←hp];rfl
 have c2:atI (p.map PyData.int) 7=some (.int x7):=by rw[←hp];rfl
 have c3:atI (p.map PyData.int) 6=some (.int x6):=by rw[←hp];rfl
 have hm:wU M [.list [PyData.int x8,.int x9,.int x10,.int x11,.int x12,.int x13],.int x7,aJ base]=.ok (aJ mk):=by rw[hmp];exact hm
 have key:∀k:Nat,k < 10->([0,1,2,3,0,1,5,6,7,8]:List Int)[k]?=some (grT k):=by decide
 have hk:atI (([0,1,2,3,0,1,5,6,7,8]:List Int).map PyData.int) x7=some (.int (grT x7)):=by
  obtain⟨k,rfl⟩:∃k:Nat,x7=k:=⟨x7.toNat,by omega⟩
  exact atI_nat (by rw[aq9,key k (by omega)];rfl)
 simp at hk
 have hm4:∀z,decide (CMul 4 z)=true:=fun z=>agm (by decide)
 clear hp hd P
 refine⟨?_,?_,?_,?_,?_,?_,?_,?_,?_,?_,?_,?_,?_,?_,?_⟩
 ·simp[dd,gU,jW,c1,c2,c3,hm,←hsb,hr0,hr1,hr2,bH.dat]
 ·cases su <;> simp[dd,gU,jW,c1,c2,c3,hm,←hsb,hk,hm4,Rf.intD,bH.dat]
 ·simp[dd,gU,jW,c1,c2,c3,hm,←hsb,hr0,hr1,hr2,bH.dat]
 ·by_cases h76:x7 < 6
  ·rw[if_pos h76]at hbr
   simp[dd,gU,jW,c1,c2,c3,hm,←hsb,hr0,hr1,hr2,bH.dat,h76,hbr]
  ·rw[if_neg h76]at hbr
   simp[dd,gU,jW,c1,c2,c3,hm,←hsb,hr0,hr1,hr2,bH.dat,h76,hbr]
 ·simp[dd,gU,jW,c1,c2,c3,hm,←hsb,hr0,hr1,hr2,bH.dat]
 ·simp[dd,gU,jW,c1,c2,c3,hm,←hsb,hr0,hr1,hr2,bH.dat]
 ·simp[dd,gU,jW,c1,c2,c3,hm,←hsb,hr0,hr1,hr2,bH.dat]
 ·simp[dd,gU,jW,c1,c2,c3,hm,←hsb,hr0,hr1,hr2,bH.dat]
 ·simp[dd,gU,jW,c1,c2,c3,hm,←hsb,hr0,hr1,hr2,bH.dat]
 ·simp[dd,gU,jW,c1,c2,c3,hm,←hsb,hr0,hr1,hr2,bH.dat]
 ·simp[dd,gU,jW,c1,c2,c3,hm,←hsb,hr0,hr1,hr2,bH.dat]
 ·simp[dd,gU,jW,c1,c2,c3,hm,←hsb,hr0,hr1,hr2,bH.dat]
 ·simp[dd,gU,jW,c1,c2,c3,hm,←hsb,hr0,hr1,hr2,bH.dat]
 ·simp[dd,gU,jW,c1,c2,c3,hm,←hsb,hr0,hr1,hr2,bH.dat]
 ·simp[dd,gU,jW,c1,c2,c3,hm,←hsb,hr0,hr1,hr2,bH.dat]
theorem Yq{w:Str}(hw:w∈(["owner","ground","enrol","bring","leave","heir","pass","unite","part","tear","sell","move","bear","cut","die"]:List Str))(ho:0<=one/\one<=1000)(ht:0<=two/\two<=1000):∃d:bH,gU M [.str w,.int one,.int two,lI p,.tuple [.int n0,.int n1,.int n2],aJ base]=.ok d.dat/\fV d=true/\Nv d:=by
 have r10:=Cm (f:=one) (sure:=eO p) ho h0
 have r11:=Cm (f:=one) (sure:=eO p) ho h1
 have r12:=Cm (f:=one) (sure:=eO p) ho h2
 have r20:=Cm (f:=two) (sure:=eO p) ht h0
 have r21:=Cm (f:=two) (sure:=eO p) ht h1
 have r22:=Cm (f:=two) (sure:=eO p) ht h2
 have m1:=P.mark
 have m2:=P.bring
 have l1:(Jb p base).length<=1000:=by rw[dG m1];decide
 have l2:(Gi p base).length<=1000:=by rw[dG m2];decide
 have h7:0<=p.getD 7 0/\p.getD 7 0 < 10:=P.dig _ (by
  have:=P.len
  rw[List.getD_eq_getElem?_getD,aqY (by omega)]
  exact arL _)
 have q4:nB (p.getD 7 0 % 4)=true:=by unfold nB;simp only[aqW,decide_eq_true_eq];omega
 have q6:plB (p.getD 7 0 % 6)=true:=by unfold plB;simp only[aqW,decide_eq_true_eq];omega
 have qg:nB (grT (p.getD 7 0)+4 * (if eO p then 0 else 1))=true:=by
  unfold nB grT
  simp only[aqW,decide_eq_true_eq]
  split <;> (repeat' split) <;> omega
 simp only[ara,arB,or_false]at hw
 obtain⟨d0,d1,d2,d3,d4,d5,d6,d7,d8,d9,d10,d11,d12,d13,d14⟩:=aeX M P one two n0 n1 n2 h0 h1 h2
 rcases hw with rfl|rfl|rfl|rfl|rfl|rfl|rfl|rfl|rfl|rfl|rfl|rfl|rfl|rfl|rfl
 ·exact⟨_,d0,by simp[fV,r10,r11,r12,r20,r21,r22,m1,m2,q4,q6,-List.getD_eq_getElem?_getD],by first | trivial | assumption⟩
 ·exact⟨_,d1,qg,by first | trivial | assumption⟩
 ·exact⟨_,d2,by simp[fV,r10,r11,r12,r20,r21,r22,m1,m2,q4,q6,-List.getD_eq_getElem?_getD],by first | trivial | assumption⟩
 ·exact⟨_,d3,by simp[fV,r10,r11,r12,r20,r21,r22,m1,m2,q4,q6,-List.getD_eq_getElem?_getD],by first | trivial | assumption⟩
 ·exact⟨_,d4,by simp[fV,r10,r11,r12,r20,r21,r22,m1,m2,q4,q6,-List.getD_eq_getElem?_getD],by first | trivial | assumption⟩
 ·exact⟨_,d5,by simp[fV,r10,r11,r12,r20,r21,r22,m1,m2,q4,q6,-List.getD_eq_getElem?_getD],by first | trivial | assumption⟩
 ·exact⟨_,d6,by simp[fV,r10,r11,r12,r20,r21,r22,m1,m2,q4,q6,-List.getD_eq_getElem?_getD],by first | trivial | assumption⟩
 ·exact⟨_,d7,by simp[fV,r10,r11,r12,r20,r21,r22,m1,m2,q4,q6,-List.getD_eq_getElem?_getD],by first | trivial | assumption⟩
 ·exact⟨_,d8,by simp[fV,r10,r11,r12,r20,r21,r22,m1,m2,q4,q6,-List.getD_eq_getElem?_getD],by first | trivial | assumption⟩
 ·exact⟨_,d9,by simp[fV,r10,r11,r12,r20,r21,r22,m1,m2,q4,q6,-List.getD_eq_getElem?_getD],by first | trivial | assumption⟩
 ·exact⟨_,d10,by simp[fV,r10,r11,r12,r20,r21,r22,m1,m2,q4,q6,-List.getD_eq_getElem?_getD],by first | trivial | assumption⟩
 ·exact⟨_,d11,by simp[fV,r10,r11,r12,r20,r21,r22,m1,m2,q4,q6,-List.getD_eq_getElem?_getD],by first | trivial | assumption⟩
 ·exact⟨_,d12,by simp[fV,r10,r11,r12,r20,r21,r22,m1,m2,q4,q6,-List.getD_eq_getElem?_getD],by first | trivial | assumption⟩
 ·exact⟨_,d13,by simp[fV,r10,r11,r12,r20,r21,r22,m1,m2,q4,q6,-List.getD_eq_getElem?_getD],by first | trivial | assumption⟩
 ·exact⟨_,d14,by simp[fV,r10,r11,r12,r20,r21,r22,m1,m2,q4,q6,-List.getD_eq_getElem?_getD],by first | trivial | assumption⟩
end
abbrev words:List Str:=["owner","ground","enrol","bring","leave","heir","pass","unite","part","tear","sell","move","bear","cut","die"]
def Vq:List Str:=["tear","cut","bring","sell","move","enrol","bear","tear","cut","sell","move","unite","part","heir","pass","die","leave","ground","owner","enrol","tear","sell","bring","bear","cut"]
theorem ahI(M:Mo)(f:Int):∃w∈words,Am M [.int f]=.ok (.str w):=by
 have h1:0<=f % 25/\f % 25 < 25:=by omega
 obtain⟨k,hk⟩:∃k:Nat,f % 25=k:=⟨(f % 25).toNat,by omega⟩
 have hl:k < Vq.length:=by show k < 25;omega
 have h2:atI (Vq.map PyData.str) (k:Int)=some (.str Vq[k]):=atI_nat (by rw[aq9,aqY hl];rfl)
 have h3:∀w∈Vq,w∈words:=by simp[Vq]
 refine⟨Vq[k],h3 _ (arL hl),?_⟩
 generalize Vq[k]=z at h2
 simp[Vq]at h2
 simp[Am,Lg,hk,h2]
def xR(h:Int):List (Str×Int×Int):=if h % 8=7 then[] else[("ground",0,0),("owner",0,0),("owner",0,0),("enrol",0,0),("enrol",1,0),("bring",0,0),("cut",0,0),("bring",1,0),("cut",1,0),("ground",0,0),("enrol",0,1)]
def Ie(r:Str×Int×Int):Dat:=.tuple [.str r.1,.int r.2.1,.int r.2.2]
theorem ac0(M:Mo)(h:Int):vB M [.int h]=.ok (.list ((xR h).map Ie)):=by
 unfold xR
 by_cases e:h % 8=7 <;> simp[vB,Fo,e,Ie]
theorem ahh{h:Int}:∀r∈xR h,r.1∈words/\(0<=r.2.1/\r.2.1<=1000)/\0<=r.2.2/\r.2.2<=1000:=by
 unfold xR
 split
 ·simp
 ·simp
inductive FW:Nat->aK->Prop where
 |nil:FW 0 ⟨0,[],[],[],[],[]⟩
 |step {n:Nat} {c:aK} (d:bH):FW n c->fV d=true->FW (n+1) (pK c d)
 |le {n m:Nat} {c:aK}:FW n c->n<=m->FW m c
theorem Inv.mono{n s n' s':Nat}{c:aK}(I:Inv n s c)(h1:n<=n')(h2:s<=s'):Inv n' s' c:=
 I.of h1 I.gr (ars I.al h1) rfl rfl I.held (ars I.hL h2) I.hE ⟨I.V6.g,fun b hb=>by have:=I.en b hb;omega⟩
theorem aaN(d:bH):cost d<=1:=by cases d <;> simp[cost]
theorem ajL:Inv 0 0 ⟨0,[],[],[],[],[]⟩:=⟨⟨rfl,by simp,by simp,by simp,by simp,by simp,by simp⟩,by simp,by simp,by simp,by simp,by simp,by simp,by simp,by simp,by simp,by simp,by simp,by simp⟩
structure Now(M:Mo)(L:Lay)(n s:Nat)(c:aK):Prop where
 at_:At M L c
 inv:Inv n s c
 rch:FW n c
theorem Now.done{M:Mo}{L:Lay}{n s:Nat}{c:aK}(N:Now M L n s c)(hs:s<=76)(hn:n<=199)(d:bH)(hd:Nv d)(hf:fV d=true):∃M' bs,rJ M [ob L.c,d.dat,lY c]=.ok (lY (pK c d)) M'/\Now M' { L with bs:=bs } (n+1) (s+cost d) (pK c d):=by
 obtain⟨M',bs,h1,h2⟩:=agW N.at_ N.inv hs hn d hd hf
 exact⟨M',bs,h1,h2,Yz N.inv d hn,.step d N.rch hf⟩
theorem ahi(x:Int){base:List Int}(h:base.length=6):Pts (rowOf x 14 10) base:=⟨aaS ..,Tj (by decide) _ _,h⟩
theorem GZ(x:Int)(k:Nat)(h:k < 14):atI ((rowOf x 14 10).map PyData.int) (k:Int)=some (.int ((rowOf x 14 10).getD k 0))/\0<=(rowOf x 14 10).getD k 0/\(rowOf x 14 10).getD k 0<=9:=by
 have hl:k < (rowOf x 14 10).length:=by rw[aaS];exact h
 refine⟨Ji _ k hl,?_⟩
 rw[List.getD_eq_getElem?_getD,aqY hl]
 have:=Tj (by decide) x 14 _ (arL hl)
 simp
 omega
theorem aed{M:Mo}{L:Lay}{n s:Nat}{c:aK}(N:Now M L n s c)(hs:s<=76)(hn:n<=199)(x1:Option Cell)(head:Int)(base:List Int)(hb:base.length=6)(i:Nat)(x:Int)(x8 x9 x10 x11 x12:Option Cell) :
  ∃d M' bs y8 y9 y10 y11,fV d=true/\CZ M [some (.dat (ob L.c)),x1,some (.dat (.int head)),some (.dat (lY c)),some (.dat (aJ base)),some (.dat (.list ((xR head).map Ie))),some (.dat (.int i)),some (.dat (.int x)),x8,x9,x10,x11,x12]=.next [some (.dat (ob L.c)),x1,some (.dat (.int head)),some (.dat (lY (pK c d))),some (.dat (aJ base)),some (.dat (.list ((xR head).map Ie))),some (.dat (.int i)),some (.dat (.int x)),y8,y9,y10,y11,x12] M'/\Now M' { L with bs:=bs } (n+1) (s+cost d) (pK c d):=by
 have h1:qR M [.int x,.int 14,.int 10]=.ok (lI (rowOf x 14 10)):=R5 M x 14 10 (by decide) (by decide) (by decide)
 have P:=ahi x hb
 obtain⟨r0,q0,q0'⟩:=GZ x 0 (by decide)
 obtain⟨r1,q1,q1'⟩:=GZ x 1 (by decide)
 obtain⟨r2,q2,q2'⟩:=GZ x 2 (by decide)
 obtain⟨r3,q3,q3'⟩:=GZ x 3 (by decide)
 obtain⟨r4,q4,q4'⟩:=GZ x 4 (by decide)
 obtain⟨r5,q5,q5'⟩:=GZ x 5 (by decide)
 generalize rowOf x 14 10=p at *
 generalize p.getD 0 0=d0 at *
 generalize p.getD 1 0=d1 at *
 generalize p.getD 2 0=d2 at *
 generalize p.getD 3 0=d3 at *
 generalize p.getD 4 0=d4 at *
 generalize p.getD 5 0=d5 at *
 obtain⟨w,hw,h2⟩:=ahI M (d0 * 10+d1)
 have hm:∀z,decide (CMul z 10)=true:=fun z=>mul_r (by decide)
 have c0:=N.inv.cnt.1
 simp only[Int.natCast_zero,Int.natCast_one,show((2:Nat):Int)=2 from rfl,show((3:Nat):Int)=3 from rfl,show((4:Nat):Int)=4 from rfl,show((5:Nat):Int)=5 from rfl]at r0 r1 r2 r3 r4 r5
 by_cases hi:i < (xR head).length
 ·have hi':(i:Int) < (xR head).length:=by omega
  have g:=aqY hi
  obtain⟨b1,b2,b3⟩:=ahh _ (arL hi)
  generalize (xR head)[i]=b at *
  obtain⟨d,e1,e2,e3⟩:=Yq M P b.2.1 b.2.2 c.count c.al.length c.bs.length c0 (by omega) (by omega) b1 b2 b3
  obtain⟨M',bs,e4,e5⟩:=N.done hs hn d e3 e2
  refine⟨d,M',bs,some (.dat (lI p)),some (.dat (.str b.1)),some (.dat (.int b.2.1)),some (.dat (.int b.2.2)),e2,?_,e5⟩
  have e1:gU M [.str b.1,.int b.2.1,.int b.2.2,lI p,lY c,aJ base]=.ok d.dat:=e1
  simp[CZ,h1,r0,r1,r2,r3,r4,r5,hm,h2,hi',g]
  simp[Ie,e1,e4]
 ·have hi':¬(i:Int) < (xR head).length:=by omega
  obtain⟨d,e1,e2,e3⟩:=Yq M P (d2 * 10+d3) (d4 * 10+d5) c.count c.al.length c.bs.length c0 (by omega) (by omega) hw (by omega) (by omega)
  obtain⟨M',bs,e4,e5⟩:=N.done hs hn d e3 e2
  refine⟨d,M',bs,some (.dat (lI p)),some (.dat (.str w)),some (.dat (.int (d2 * 10+d3))),some (.dat (.int (d4 * 10+d5))),e2,?_,e5⟩
  have e1:gU M [.str w,.int (d2 * 10+d3),.int (d4 * 10+d5),lI p,lY c,aJ base]=.ok d.dat:=e1
  simp[CZ,h1,r0,r1,r2,r3,r4,r5,hm,h2,hi']
  simp[e1,e4]
theorem Wm(x1:Option Cell)(head:Int)(base:List Int)(hb:base.length=6)(x12:Option Cell):∀(xs:List (Nat×Int)) (M:Mo) (L:Lay) (n:Nat) (c:aK) (x6 x7 x8 x9 x10 x11:Option Cell),Now M L n n c->n+xs.length<=76->
  ∃c' M' bs y6 y7 y8 y9 y10 y11,gY (bD [6,7]) CZ (xs.map fun q=>PyData.tuple [.int q.1,.int q.2]) M [some (.dat (ob L.c)),x1,some (.dat (.int head)),some (.dat (lY c)),some (.dat (aJ base)),some (.dat (.list ((xR head).map Ie))),x6,x7,x8,x9,x10,x11,x12]=.next [some (.dat (ob L.c)),x1,some (.dat (.int head)),some (.dat (lY c')),some (.dat (aJ base)),some (.dat (.list ((xR head).map Ie))),y6,y7,y8,y9,y10,y11,x12] M'/\Now M' { L with bs:=bs } (n+xs.length) (n+xs.length) c'
 |[],M,L,n,c,x6,x7,x8,x9,x10,x11,N,_=>⟨c,M,L.bs,x6,x7,x8,x9,x10,x11,rfl,N⟩
 |q::xs,M,L,n,c,x6,x7,x8,x9,x10,x11,N,hl=>by
  rw[arb]at hl
  obtain⟨d,M1,bs,y8,y9,y10,y11,h0,h1,N1⟩:=aed N (by omega) (by omega) x1 head base hb q.1 q.2 x8 x9 x10 x11 x12
  have N1:Now M1 { L with bs:=bs } (n+1) (n+1) (pK c d):=⟨N1.at_,N1.inv.mono (aro _) (by have:=aaN d;omega),N1.rch⟩
  obtain⟨c',M',bs',z6,z7,z8,z9,z10,z11,h2,N2⟩:=Wm x1 head base hb x12 xs M1 { L with bs:=bs } (n+1) (pK c d) (some (.dat (.int q.1))) (some (.dat (.int q.2))) y8 y9 y10 y11 N1 (by omega)
  refine⟨c',M',bs',z6,z7,z8,z9,z10,z11,?_,?_⟩
  ·rw[aqZ,gR (ρ1:=[some (.dat (ob L.c)),x1,some (.dat (.int head)),some (.dat (lY c)),some (.dat (aJ base)),some (.dat (.list ((xR head).map Ie))),some (.dat (.int q.1)),some (.dat (.int q.2)),x8,x9,x10,x11,x12]) (by simp) h1]
   exact h2
  ·rw[arb,show n+(xs.length+1)=n+1+xs.length by omega]
   exact N2
theorem acn{M:Mo}{L:Lay}{n s:Nat}{c:aK}(N:Now M L n s c)(hs:s<=75)(hn:n<=198)(x1 x2 x4 x5 x6 x7 x8 x9 x10 x11 x12:Option Cell) :
  ∃c' M' bs,Iw M [some (.dat (ob L.c)),x1,x2,some (.dat (lY c)),x4,x5,x6,x7,x8,x9,x10,x11,x12]=.next [some (.dat (ob L.c)),x1,x2,some (.dat (lY c')),x4,x5,x6,x7,x8,x9,x10,x11,x12] M'/\Now M' { L with bs:=bs } (n+2) (s+1) c':=by
 obtain⟨M1,bs1,h1,N1⟩:=N.done (by omega) (by omega) (.bring 1 1 [0,0,0,0,0,0]) (by simp[Nv]) (by decide)
 have hl:=N1.inv.hL
 have hc:cost (.bring 1 1 [0,0,0,0,0,0])=1:=rfl
 generalize pK c (.bring 1 1 [0,0,0,0,0,0])=c1 at *
 obtain⟨M2,bs2,h2,N2⟩:=N1.done (by omega) (by omega) (.cut c1.bs.length) trivial (by simp only[fV,nB,aqW,decide_eq_true_eq];omega)
 refine⟨_,M2,bs2,?_,N2.at_,N2.inv,N2.rch⟩
 have h1:rJ M [ob L.c,.tuple [.str "bring",.int 1,.int 1,.tuple [.int 0,.int 0,.int 0,.int 0,.int 0,.int 0]],lY c]=.ok (lY c1) M1:=h1
 have h2:rJ M1 [ob L.c,.tuple [.str "cut",.int c1.bs.length],lY c1]=_:=h2
 simp[Iw,h1]
 have e:atI [PyData.int c1.count,.int c1.al.length,.int c1.bs.length] 2=some (.int c1.bs.length):=rfl
 simp[lY]at h2 ⊢
 simp[h2]
theorem QJ(x1 x2 x4 x5 x6 x7 x8 x9 x10 x11:Option Cell):∀(xs:List Dat) (M:Mo) (L:Lay) (n s:Nat) (c:aK) (x12:Option Cell),Now M L n s c->n+2 * xs.length<=198->s+xs.length<=75->
  ∃c' M' bs y12,gY (aF 12) Iw xs M [some (.dat (ob L.c)),x1,x2,some (.dat (lY c)),x4,x5,x6,x7,x8,x9,x10,x11,x12]=.next [some (.dat (ob L.c)),x1,x2,some (.dat (lY c')),x4,x5,x6,x7,x8,x9,x10,x11,y12] M'/\Now M' { L with bs:=bs } (n+2 * xs.length) (s+xs.length) c'
 |[],M,L,n,s,c,x12,N,_,_=>⟨c,M,L.bs,x12,rfl,N⟩
 |q::xs,M,L,n,s,c,x12,N,h1,h2=>by
  rw[arb]at h1 h2
  obtain⟨c1,M1,bs1,e1,N1⟩:=acn N (by omega) (by omega) x1 x2 x4 x5 x6 x7 x8 x9 x10 x11 (some (.dat q))
  obtain⟨c',M',bs',y12,e2,N2⟩:=QJ x1 x2 x4 x5 x6 x7 x8 x9 x10 x11 xs M1 { L with bs:=bs1 } (n+2) (s+1) c1 (some (.dat q)) N1 (by omega) (by omega)
  refine⟨c',M',bs',y12,?_,?_⟩
  ·rw[gR (ρ1:=[some (.dat (ob L.c)),x1,x2,some (.dat (lY c)),x4,x5,x6,x7,x8,x9,x10,x11,some (.dat q)]) (by simp) e1]
   exact e2
  ·rw[arb,show n+2 * (xs.length+1)=n+2+2 * xs.length by omega,show s+(xs.length+1)=s+1+xs.length by omega]
   exact N2
def Vh:aK:=⟨0,[],[],[],[],[]⟩
theorem ahr{M:Mo}{L:Lay}(a:At M L Vh)(cells:List Int)(hl:cells.length<=43)(head:Int):∃c M' L',L'.c=L.c/\Gf M [ob L.c,lI cells,.int head]=.ok (lY c) M'/\Now M' L' 99 71 c:=by
 have hb:=Wt (head / 512)
 have h1:=ac5 M (head / 512)
 have h2:=ac0 M head
 have N0:Now M L 0 0 Vh:=⟨a,ajL,.nil⟩
 have hen:tH 0 (cells.map PyData.int)=(cells.mapIdx fun i x=>(i,x)).map fun(q:Nat×Int)=>PyData.tuple [.int q.1,.int q.2]:=by
  unfold tH
  apply arz
  intro i
  simp
  cases cells[i]? <;> simp
 obtain⟨c1,M1,bs1,y6,y7,y8,y9,y10,y11,e1,N1⟩:=Wm (some (.dat (lI cells))) head (Jl (head / 512)) hb none (cells.mapIdx fun i x=>(i,x)) M L 0 Vh none none none none none none N0 (by simp;omega)
 simp only[List.length_mapIdx,Nat.zero_add]at N1
 have hd:∀z,decide (CDiv z 512)=true:=fun z=>decide_eq_true ⟨by decide,by decide⟩
 have hd8:∀z,decide (CDiv z 8)=true:=fun z=>decide_eq_true ⟨by decide,by decide⟩
 have hd64:∀z,decide (CDiv z 64)=true:=fun z=>decide_eq_true ⟨by decide,by decide⟩
 have hm:∀z,decide (CMul z 4)=true:=fun z=>mul_r (by decide)
 have z0:lY Vh=.tuple [.int 0,.int 0,.int 0]:=rfl
 rw[z0]at e1
 by_cases hh:head / 8 % 8=1
 ·obtain⟨k,hk,hk2⟩:∃k:Nat,head / 64 % 8 * 4=k/\k<=28:=⟨(head / 64 % 8 * 4).toNat,by omega,by omega⟩
  obtain⟨c2,M2,bs2,y12,e2,N2⟩:=QJ (some (.dat (lI cells))) (some (.dat (.int head))) (some (.dat (aJ (Jl (head / 512))))) (some (.dat (.list ((xR head).map Ie)))) y6 y7 y8 y9 y10 y11 (fH 0 k) M1 { L with bs:=bs1 } cells.length cells.length c1 none N1 (by simp[fH];omega) (by simp[fH];omega)
  refine⟨c2,M2,{ L with bs:=bs2 },rfl,?_,N2.at_,N2.inv.mono (by simp[fH];omega) (by simp[fH];omega),N2.rch.le (by simp[fH];omega)⟩
  have k1:(k:Int)<=100000:=by omega
  have k2 : -100000<=(k:Int):=by omega
  simp[Gf,RP,hd,h1,h2,hen,e1,hd8,hh,hd64,hm,hk,k1,k2,e2]
 ·refine⟨c1,M1,{ L with bs:=bs1 },rfl,?_,N1.at_,N1.inv.mono (by omega) (by omega),N1.rch.le (by omega)⟩
  simp[Gf,RP,hd,h1,h2,hen,e1,hd8,hh]
def L0:Lay:=⟨0,2,5,7,[],[]⟩
theorem amU:∃M L,L.c=0/\qb [⟨"Commons",[]⟩] [ob 0]=.ok .none M/\At M L Vh:=by
 refine⟨_,L0,rfl,by simp[qb,zL,kE,uJ,zM,vY,Bq,zV,Fl];rfl,?_⟩
 exact⟨rfl,⟨_,_,rfl⟩,rfl,⟨_,rfl⟩,rfl,fun i h b z _=>(by cases z),by decide,fun p hp=>(by cases hp)⟩
theorem Now.look{M:Mo}{L:Lay}{n s:Nat}{c:aK}(N:Now M L n s c)(hs:s<=1000):pW M [ob L.c]=.ok (qJ c):=by
 have:=N.inv.hL
 exact ag5 N.at_ N.inv.gr (by omega) (by omega)
theorem ag3(l:List Int)(lo hi:Option Int):Rf.cutD (l.map PyData.int) lo hi=(Rf.cutD l lo hi).map PyData.int:=by
 unfold Rf.cutD
 rw[aq7,List.map_take,List.map_drop]
theorem agU{α:Type}(l:List α)(a b:Nat)(h:a<=b):(Rf.cutD l (some (a:Int)) (some (b:Int))).length<=b - a:=by
 unfold Rf.cutD
 rw[HT.sIx_nat,HT.sIx_nat,List.length_take]
 omega
def pF(c:aK)(lo g:Int)(r:Rw):Prop:=(r.1,g,r.2)∈c.held∨∃(i:Nat) (b:dD),c.bs[i]?=some b/\b.sd.al=true/\b.sd.due=some r.2/\b.sd.o=r.1/\b.sd.g=g/\(i:Int)+1≠lo
theorem pF.all{c:aK}{lo g:Int}{r:Rw}(h:pF c lo g r):pF c 0 g r:=h.imp id fun⟨i,b,h1,h2,h3,h4,h5,_⟩=>⟨i,b,h1,h2,h3,h4,h5,by omega⟩
theorem afD{c:aK}{lo:Int}{near:List Int}{r:Rw}:r∈inR c near++Yo c lo near↔∃g∈near,pF c lo g r:=by
 constructor
 ·intro h
  rcases aq5.mp h with h|h
  ·obtain⟨g,h1,h2⟩:=Uw h
   exact⟨g,h2,.inl h1⟩
  ·obtain⟨i,b,h1,h2,h3,h4,h5,h6⟩:=Ql h
   exact⟨b.sd.g,h5,.inr ⟨i,b,h1,h4,h3,h2,rfl,h6⟩⟩
 ·rintro⟨g,hg,h|⟨i,b,h1,h2,h3,h4,h5,h6⟩⟩
  ·exact arG _ (aq8.mpr ⟨_,arh.mpr ⟨h,by simpa using hg⟩,rfl⟩)
  ·refine arH _ (aq8.mpr ⟨(i,b),arh.mpr ⟨?_,?_⟩,?_⟩)
   ·obtain⟨hi,e⟩:=aqX.mp h1
    exact List.mem_mapIdx.mpr ⟨i,hi,by rw[e]⟩
   ·have h6':((i:Int)+1==lo)=false:=by simpa using h6
    subst h5
    simp[h3,h2,hg,h6']
   ·simp[h3,h4]
theorem wW{c:aK}{lo x:Int}{r:Rw}:r∈cO c lo x↔∃g∈aH c x,pF c lo g r:=afD
def NM(c:aK):Prop:=∀x,Vg c x->∀g∈aH c x,∀h∈aH c x,∀r s,pF c 0 g r->pF c 0 h s->r.1≠s.1->roomOf c x < fW r.2 s.2
theorem NM.map{c c':aK}(N:NM c)(h1:c'.al=c.al)(h2:c'.ci=c.ci)(f:Int->Int)(h:∀g r,pF c' 0 g r->∃o,pF c 0 g (o,r.2)/\r.1=f o):NM c':=fun x hx g hg k hk r s hr hs ne=>by
 have e1:aH c' x=aH c x:=by simp[aH,h2]
 have e0:j9 c'=j9 c:=by funext y;simp[j9,h1]
 have e2:roomOf c' x=roomOf c x:=by unfold roomOf;rw[e1,e0]
 have hx:Vg c x:=by unfold Vg at *;rw[←h1];exact hx
 rw[e1]at hg hk
 obtain⟨o,a1,a2⟩:=h g r hr
 obtain⟨p,b1,b2⟩:=h k s hs
 rw[e2]
 exact N x hx g hg k hk (o,r.2) (p,s.2) a1 b1 fun z=>ne (by rw[a2,b2];exact congrArg f z)
theorem NM.sub{c c':aK}(N:NM c)(h1:c'.al=c.al)(h2:c'.ci=c.ci)(h:∀g r,pF c' 0 g r->pF c 0 g r):NM c':=N.map h1 h2 id fun g r hr=>⟨r.1,h g r hr,rfl⟩
theorem NM.add{c c':aK}(N:NM c)(i:cY c)(h1:c'.al=c.al)(h2:c'.ci=c.ci){lo g0 o:Int}{m:List Int}(hg0:Vg c g0)(h:∀g r,pF c' 0 g r->pF c lo g r∨(g=g0/\r=(o,m)))(hb:∀r∈cO c lo g0,r.1≠o->roomOf c g0 < fW m r.2):NM c':=fun x hx g hg k hk r s hr hs ne=>by
 have e1:aH c' x=aH c x:=by simp[aH,h2]
 have e0:j9 c'=j9 c:=by funext y;simp[j9,h1]
 have e2:roomOf c' x=roomOf c x:=by unfold roomOf;rw[e1,e0]
 have hx:Vg c x:=by unfold Vg at *;rw[←h1];exact hx
 rw[e1]at hg hk
 rw[e2]
 have one:∀k,k∈aH c x->g0∈aH c x->∀s:Rw,pF c lo k s->s.1≠o->roomOf c x < fW m s.2:=fun k hk hg0 s hs ne=>by
  have e:=i.eq hx hg0
  have e3:roomOf c x=roomOf c g0:=by unfold roomOf;rw[e]
  rw[e3]
  exact hb s (wW.mpr ⟨k,by rw[e];exact hk,hs⟩) ne
 rcases h g r hr with a|⟨rfl,rfl⟩
 ·rcases h k s hs with b|⟨rfl,rfl⟩
  ·exact N x hx g hg k hk r s a.all b.all ne
  ·rw[Rv]
   exact one g hg hk r a ne
 ·rcases h k s hs with b|⟨_,rfl⟩
  ·exact one k hk hg s b fun z=>ne z.symm
  ·exact absurd rfl ne
theorem JB{o:Int}{e:List Int}{R:List Rw}{room:Int}(h:wD o e (bK R) room=[]):∀r∈R,r.1≠o->room < fW e r.2:=fun r hr ne=>by
 unfold wD at h
 have:=List.filter_eq_nil_iff.mp h r (dW.mpr (dW.mpr hr))
 simp[ne]at this
 exact this
theorem HS{o room:Int}{e:List Int}{R:List Rw}{x:Res}{d:Dat}{c':aK}(h:v8 o e R room x=.ok d c'):wD o e (bK R) room=[]:=by
 unfold v8 at h
 split at h
 ·assumption
 ·cases h
theorem ahK{l:List Int}{m:Int}(hne:l≠[])(h:∀a∈l,a<=m):aci l<=m:=by
 cases l with
 |nil=>exact absurd rfl hne
 |cons n ns=>exact h _ (Ew ns n).1
theorem ahm{l:List Int}{a:Int}(h:a∈l):a<=aci l:=by
 cases l with
 |nil=>cases h
 |cons n ns=>exact(Ew ns n).2 a h
theorem aaP{c:aK}{x m:Int}(hx:x∈aH c x)(h:∀y∈aH c x,j9 c y<=m):roomOf c x<=m:=ahK (fun z=>by rw[List.map_eq_nil_iff.mp z]at hx;cases hx) fun a ha=>by
 obtain⟨y,hy,rfl⟩:=aq8.mp ha
 exact h y hy
theorem acC{c:aK}{x y:Int}(hy:y∈aH c x):j9 c y<=roomOf c x:=ahm (aq8.mpr ⟨y,hy,rfl⟩)
theorem NM.finer{c c':aK}(N:NM c)(h1:c'.al=c.al)(hh:c'.held=c.held)(hbs:c'.bs=c.bs)(hs:∀x,Vg c x->x∈aH c' x/\∀y∈aH c' x,y∈aH c x):NM c':=fun x hx g hg k hk r s hr hs' ne=>by
 have hx:Vg c x:=by unfold Vg at *;rw[←h1];exact hx
 obtain⟨a,b⟩:=hs x hx
 have e:∀g r,pF c' 0 g r->pF c 0 g r:=fun g r h=>by unfold pF at *;rw[←hh,←hbs];exact h
 have:=N x hx g (b g hg) k (b k hk) r s (e g r hr) (e k s hs') ne
 have:roomOf c' x<=roomOf c x:=aaP a fun y hy=>by
  have e2:j9 c' y=j9 c y:=by simp[j9,h1]
  rw[e2]
  exact acC (b y hy)
 omega
theorem VJ{T:List Rw}{room:Int}(h:jM T room=[]):∀(i j:Nat) (r s:Rw),i < j->T[i]?=some r->T[j]?=some s->r.1≠s.1->room < fW r.2 s.2:=fun i j r s lt hr hs ne=>by
 unfold jM at h
 rw[List.flatMap_eq_nil_iff]at h
 obtain⟨hi,e⟩:=aqX.mp hr
 have h1:=h (i,r) (List.mem_mapIdx.mpr ⟨i,hi,by rw[e]⟩)
 have h2:=List.filter_eq_nil_iff.mp (List.map_eq_nil_iff.mp h1) s (aq3 (i:=j - (i+1)) (by rw[List.getElem?_drop,show i+1+(j - (i+1))=j by omega];exact hs))
 have ne':(r.1==s.1)=false:=by simpa using ne
 simp[ne']at h2
 exact h2
theorem adV{T:List Rw}{room:Int}(h:jM T room=[]){r s:Rw}(hr:r∈T)(hs:s∈T)(ne:r.1≠s.1):room < fW r.2 s.2:=by
 obtain⟨i,hi⟩:=List.mem_iff_getElem?.mp hr
 obtain⟨j,hj⟩:=List.mem_iff_getElem?.mp hs
 rcases Nat.lt_trichotomy i j with lt|rfl|lt
 ·exact VJ h i j r s lt hi hj ne
 ·rw[hi]at hj
  cases hj
  exact absurd rfl ne
 ·rw[Rv]
  exact VJ h j i s r lt hj hi fun z=>ne z.symm
theorem Gy{c:aK}{i:Nat}{e:En}{b0:dD}(hb:c.bs[i]?=some b0){g:Int}{r:Rw}(h:pF (fu c i e) 0 g r):pF c ((i:Int)+1) g r∨((go b0.sd e).al=true/\(go b0.sd e).due=some r.2/\(go b0.sd e).o=r.1/\(go b0.sd e).g=g):=by
 rcases h with h|⟨j,b,h1,h2,h3,h4,h5,_⟩
 ·exact .inl (.inl h)
 ·rw[wu]at h1
  split at h1
  ·next z=>
   subst z
   rw[hb]at h1
   cases h1
   exact .inr ⟨h2,h3,h4,h5⟩
  ·next z=>exact .inl (.inr ⟨j,b,h1,h2,h3,h4,h5,by omega⟩)
theorem QS{c:aK}{k o g':Int}{lo g:Int}{r:Rw}(h:pF (xq c k o g') lo g r):pF c lo g r:=by
 rcases h with h|⟨j,b,h1,h2,h3,h4,h5,h6⟩
 ·exact .inl h
 ·have h1:(c.bs.map fun x=>if uK k x&&x.sd.al then mJ x (.followed o g') else x)[j]?=some b:=h1
  rw[aq9]at h1
  obtain⟨x,hx,rfl⟩:=arF.mp h1
  cases q:(uK k x&&x.sd.al) with
  |true=>
   rw[q]at h3
   have h3:x.sd.due=some r.2:=h3
   simp[uK,h3]at q
  |false=>
   rw[q]at h2 h3 h4 h5
   exact .inr ⟨j,x,hx,h2,h3,h4,h5,h6⟩
theorem ag9{n s:Nat}{c c':aK}{d:bH}{r:Dat}(I:Inv n s c)(hn:n<=199)(N:NM c)(h:cQ c d=.ok r c'):NM c':=by
 have A0:=I.al
 have gv:∀{g:Int} {r:Rw} {lo:Int},pF c lo g r->Vg c g:=fun h=>by
  rcases h with h|⟨j,b,h1,h2,_,_,h5,_⟩
  ·exact(I.hE _ h).2.1
  ·rw[←h5]
   exact(I.alive (aq3 h1) h2).2.1
 have nobs:∀{f:Fi},(beg f).due=none->∀g (r:Rw),pF { c with bs:=c.bs++[yV f] } 0 g r->pF c 0 g r:=fun hf g r h=>by
  rcases h with h|⟨j,b,h1,h2,h3,h4,h5,h6⟩
  ·exact .inl h
  ·by_cases hj:j < c.bs.length
   ·rw[aq6 hj]at h1
    exact .inr ⟨j,b,h1,h2,h3,h4,h5,h6⟩
   ·rw[arj (by omega)]at h1
    cases hz:j - c.bs.length with
    |zero=>
     rw[hz]at h1
     cases h1
     have h3:(beg _).due=some r.2:=h3
     rw[hf]at h3
     cases h3
    |succ q=>
     rw[hz]at h1
     simp at h1
 cases d with
 |owner=>
  cases h
  exact N.sub rfl rfl fun _ _ h=>h
 |ground x=>
  obtain⟨hx,h⟩:=uZ h
  cases h
  have hl:=I.gr.len
  have e1:∀y,Vg c y->aH { c with al:=c.al++[x],ci:=c.ci++[[(c.al.length:Int)+1]] } y=aH c y:=fun y hy=>by
   obtain⟨k,hk,rfl⟩:=qY hy
   simp[aH,aq6 (show k < c.ci.length by omega)]
  have e2:∀y,Vg c y->j9 { c with al:=c.al++[x],ci:=c.ci++[[(c.al.length:Int)+1]] } y=j9 c y:=fun y hy=>by
   obtain⟨k,hk,rfl⟩:=qY hy
   simp[j9,aq6 hk]
  intro y hy g hg k hk r s hr hs ne
  have hy:1<=y/\y<=((c.al++[x]).length:Int):=hy
  simp at hy
  by_cases hv:Vg c y
  ·rw[e1 y hv]at hg hk
   have:roomOf { c with al:=c.al++[x],ci:=c.ci++[[(c.al.length:Int)+1]] } y=roomOf c y:=by
    unfold roomOf
    rw[e1 y hv]
    congr 1
    exact List.map_congr_left fun z hz=>e2 z (I.gr.mem _ _ (I.gr.at hv) z hz)
   rw[this]
   exact N y hv g hg k hk r s hr hs ne
  ·have ey:y=(c.al.length:Int)+1:=by unfold Vg at hv;omega
   subst ey
   have:aH { c with al:=c.al++[x],ci:=c.ci++[[(c.al.length:Int)+1]] } ((c.al.length:Int)+1)=[(c.al.length:Int)+1]:=by
    simp[aH,←hl]
   rw[this]at hg
   rw[aq2.mp hg]at hr
   have hr:pF c 0 ((c.al.length:Int)+1) r:=hr
   exact absurd (gv hr) hv
 |enrol o g m=>
  obtain⟨h1,h⟩:=fO h
  obtain⟨h2,h⟩:=fZ h
  obtain⟨h3,h⟩:=Cy h
  obtain⟨h4,h⟩:=eX h
  obtain⟨h5,h⟩:=eX h
  have hb:=JB (HS h)
  have h:=oA h
  cases h
  refine N.add I.gr rfl rfl h2 (fun k r hr=>?_) hb
  rcases hr with hr|hr
  ·rcases aq5.mp hr with hr|hr
   ·exact .inl (.inl hr)
   ·have:=aq2.mp hr
    obtain⟨r1,r2⟩:=r
    cases this
    exact .inr ⟨rfl,rfl⟩
  ·exact .inl (.inr hr)
 |leave o g=>
  obtain⟨h1,h⟩:=fO h
  obtain⟨h2,h⟩:=fZ h
  obtain⟨h3,h⟩:=gM h
  obtain⟨h4,h⟩:=eX h
  cases h
  exact N.sub rfl rfl fun k r hr=>hr.imp (fun z=>(arh.mp z).1) id
 |bring o g e=>
  obtain⟨h1,h⟩:=fO h
  obtain⟨h2,h⟩:=fZ h
  obtain⟨h3,h⟩:=Cy h
  obtain⟨h4,h⟩:=gM h
  cases h
  exact N.sub rfl rfl (nobs rfl)
 |bear k=>
  obtain⟨b0,e0,h1,h2,h3,h⟩:=qW h
  cases h
  exact N.sub rfl rfl (nobs rfl)
 |cut k=>
  obtain⟨b0,h1,h2,h⟩:=rN h
  have hb:=JB (HS h)
  have h:=oA h
  cases h
  obtain⟨q1,q2,q3⟩:=jY h1
  refine N.add I.gr rfl rfl (I.alive (aq3 q1) h2).2.1 (fun g r hr=>?_) hb
  rcases Gy q1 hr with z|⟨_,z2,z3,z4⟩
  ·exact .inl z.all
  ·obtain⟨r1,r2⟩:=r
   exact .inr ⟨z4.symm,Prod.ext z3.symm (ari z2).symm⟩
 |tear k p=>
  obtain⟨b0,h1,h2,h⟩:=rN h
  obtain⟨h3,h⟩:=uZ h
  obtain⟨h4,h⟩:=eX h
  cases h
  obtain⟨q1,q2,q3⟩:=jY h1
  refine N.sub rfl rfl fun g r hr=>?_
  rcases Gy q1 hr with z|⟨z1,z2,z3,z4⟩
  ·exact z.all
  ·exact .inr ⟨_,b0,q1,z1,z2,z3,z4,by omega⟩
 |sell k o=>
  obtain⟨b0,e0,h1,h2,h3,h⟩:=qW h
  obtain⟨h4,h⟩:=fO h
  obtain⟨h5,h⟩:=eX h
  obtain⟨h6,h⟩:=gM h
  have hb:=JB (HS h)
  have h:=oA h
  cases h
  obtain⟨q1,q2,q3⟩:=jY h1
  refine N.add I.gr rfl rfl (I.alive (aq3 q1) h2).2.1 (fun g r hr=>?_) hb
  rcases Gy q1 (QS hr) with z|⟨_,z2,z3,z4⟩
  ·rw[show(((k - 1).toNat:Nat):Int)+1=k by omega]at z
   exact .inl z
  ·obtain⟨r1,r2⟩:=r
   exact .inr ⟨z4.symm,Prod.ext z3.symm (ari z2).symm⟩
 |move k g=>
  obtain⟨b0,e0,h1,h2,h3,h⟩:=qW h
  obtain⟨h4,h⟩:=fZ h
  obtain⟨h5,h⟩:=eX h
  obtain⟨h6,h⟩:=gM h
  have hb:=JB (HS h)
  have h:=oA h
  cases h
  obtain⟨q1,q2,q3⟩:=jY h1
  refine N.add I.gr rfl rfl h4 (fun g' r hr=>?_) hb
  rcases Gy q1 (QS hr) with z|⟨_,z2,z3,z4⟩
  ·exact .inl z.all
  ·obtain⟨r1,r2⟩:=r
   have z2:b0.sd.due=some r2:=z2
   rw[h3]at z2
   exact .inr ⟨z4.symm,Prod.ext z3.symm (ari z2).symm⟩
 |die k=>
  obtain⟨b0,h1,h2,h⟩:=rN h
  cases h
  obtain⟨q1,q2,q3⟩:=jY h1
  refine N.sub rfl rfl fun g r hr=>?_
  rcases Gy q1 hr with z|⟨z1,_⟩
  ·exact z.all
  ·cases z1
 |vP x y=>
  obtain⟨hy,h⟩:=fZ h
  obtain⟨hx,h⟩:=fZ h
  obtain⟨hn',h⟩:=eX h
  split at h
  ·cases h
  next hcl=>
  cases h
  have hm:∀z∈sortI (aH c x++aH c y),Vg c z:=fun z hz=>by
   rcases aq5.mp (Dz.mp hz) with hz|hz
   ·exact I.gr.mem _ _ (I.gr.at hx) z hz
   ·exact I.gr.mem _ _ (I.gr.at hy) z hz
  intro z hz g hg k hk r s hr hs ne
  have hz:Vg c z:=hz
  have ez:aH { c with ci:=encl c.ci (sortI (aH c x++aH c y)) } z=if z∈sortI (aH c x++aH c y) then sortI (aH c x++aH c y) else aH c z:=by
   obtain⟨j,hj,rfl⟩:=qY hz
   have h1:=yX c.ci (sortI (aH c x++aH c y)) j (fun y hy=>(hm y hy).1)
   have hj':j < c.ci.length:=by rw[I.gr.len];exact hj
   have e:aH { c with ci:=encl c.ci (sortI (aH c x++aH c y)) } ((j:Int)+1)=((encl c.ci (sortI (aH c x++aH c y)))[j]?).getD []:=by simp[aH]
   rw[e,h1]
   by_cases q:(j:Int)+1∈sortI (aH c x++aH c y)
   ·rw[if_pos ⟨q,hj'⟩,if_pos q]
    rfl
   ·rw[if_neg (fun z=>q z.1),if_neg q]
    simp[aH]
  have hr:pF c 0 g r:=hr
  have hs:pF c 0 k s:=hs
  by_cases q:z∈sortI (aH c x++aH c y)
  ·rw[if_pos q]at ez
   have hle:roomOf { c with ci:=encl c.ci (sortI (aH c x++aH c y)) } z<=qQ c x y:=aaP (by rw[ez];exact q) fun w hw=>by
    have e2:j9 { c with ci:=encl c.ci (sortI (aH c x++aH c y)) } w=j9 c w:=rfl
    rw[ez]at hw
    rw[e2]
    unfold qQ
    rcases aq5.mp (Dz.mp hw) with hw|hw <;> (have:=acC hw;split <;> omega)
   rw[ez]at hg hk
   have mem:∀{g:Int} {r:Rw},g∈sortI (aH c x++aH c y)->pF c 0 g r->r∈bK (Ck c x y):=fun hg hr=>by
    rw[dW]
    unfold Ck
    rcases aq5.mp (Dz.mp hg) with hg|hg
    ·exact arG _ (dW.mpr (wW.mpr ⟨_,hg,hr⟩))
    ·exact arH _ (dW.mpr (wW.mpr ⟨_,hg,hr⟩))
   have:=adV hcl (mem hg hr) (mem hk hs) ne
   omega
  ·rw[if_neg q]at ez
   have:roomOf { c with ci:=encl c.ci (sortI (aH c x++aH c y)) } z=roomOf c z:=by
    unfold roomOf
    rw[ez]
    rfl
   rw[this]
   rw[ez]at hg hk
   exact N z hz g hg k hk r s hr hs ne
 |part x=>
  obtain⟨hx,h⟩:=fZ h
  obtain⟨h1,h⟩:=eX h
  cases h
  have hl:∀y∈lW c x,y∈aH c x:=fun y hy=>(arh.mp hy).1
  have hv:∀y∈lW c x,1<=y:=fun y hy=>(I.gr.mem _ _ (I.gr.at hx) y (hl y hy)).1
  refine N.finer rfl rfl rfl fun z hz=>?_
  have hself:=I.gr.self hz
  obtain⟨j,hj,rfl⟩:=qY hz
  have hj':j < c.ci.length:=by rw[I.gr.len];exact hj
  have e:aH { c with ci:=encl (encl c.ci [x]) (lW c x) } ((j:Int)+1)=((encl (encl c.ci [x]) (lW c x))[j]?).getD []:=by simp[aH]
  have e1:(encl c.ci [x]).length=c.ci.length:=v9 [x] [x] c.ci
  rw[e,yX _ _ j hv,yX c.ci [x] j (fun y hy=>by rw[aq2.mp hy];exact hx.1),e1]
  by_cases q:(j:Int)+1∈lW c x
  ·rw[if_pos ⟨q,hj'⟩]
   refine⟨q,fun y hy=>?_⟩
   rw[I.gr.eq hx (hl _ q)]
   exact hl y hy
  ·rw[if_neg fun z=>q z.1]
   by_cases q2:(j:Int)+1=x
   ·rw[if_pos ⟨by simp[q2],hj'⟩]
    refine⟨by simp[q2],fun y hy=>?_⟩
    have hy:y=x:=by simpa using hy
    rw[hy,←q2]
    exact hself
   ·rw[if_neg fun z=>q2 (by simpa using z.1)]
    have:(c.ci[j]?).getD []=aH c ((j:Int)+1):=by simp[aH]
    rw[this]
    exact⟨hself,fun y hy=>hy⟩
 |pass e h'=>
  obtain⟨h1,h⟩:=fO h
  obtain⟨h2,h⟩:=fO h
  obtain⟨h3,h⟩:=eX h
  cases h
  refine N.map rfl rfl (fun o=>if o=e then h' else o) fun g r hr=>?_
  rcases hr with hr|⟨j,b,k1,k2,k3,k4,k5,_⟩
  ·have hr:(r.1,g,r.2)∈handed c e h':=hr
   unfold handed at hr
   rcases(Je _ _).mp hr with z|z
   ·cases z
   ·obtain⟨w,hw,hw2⟩:=aq8.mp z
    obtain⟨w1,w2,w3⟩:=w
    unfold Ab at hw2
    simp only[Prod.mk.injEq]at hw2
    obtain⟨z1,z2,z3⟩:=hw2
    subst z2 z3
    exact⟨w1,.inl hw,z1.symm⟩
  ·have k1:(c.bs.map fun b=>if (b.sd.o==e)&&b.sd.al then mJ b (.passed h') else b)[j]?=some b:=k1
   rw[aq9]at k1
   obtain⟨x,hx,rfl⟩:=arF.mp k1
   cases q:((x.sd.o==e)&&x.sd.al) with
   |true=>
    rw[q]at k2 k3 k4 k5
    have q':x.sd.o=e:=by
     rw[aqW]at q
     exact eq_of_beq q.1
    have k4:h'=r.1:=k4
    exact⟨x.sd.o,.inr ⟨j,x,hx,k2,k3,rfl,k5,by omega⟩,by rw[if_pos q',k4]⟩
   |false=>
    rw[q]at k2 k3 k4 k5
    have k2:x.sd.al=true:=k2
    have q':¬x.sd.o=e:=fun z=>by simp[z,k2]at q
    have k4:x.sd.o=r.1:=k4
    exact⟨x.sd.o,.inr ⟨j,x,hx,k2,k3,rfl,k5,by omega⟩,by rw[if_neg q',k4]⟩
 |heir e g x=>
  obtain⟨h1,h⟩:=fO h
  obtain⟨h2,h⟩:=fZ h
  obtain⟨h3,h⟩:=uZ h
  obtain⟨h4,h⟩:=gM h
  split at h
  ·next mk hf=>
   cases h
   have hfr:=List.find?_some hf
   refine N.add I.gr rfl rfl (lo:=0) (o:=c.count+1) (m:=mk) h2 (fun k r hr=>?_) fun r hr _=>?_
   ·rcases hr with hr|hr
    ·rcases aq5.mp hr with hr|hr
     ·exact .inl (.inl hr)
     ·have:=aq2.mp hr
      obtain⟨r1,r2⟩:=r
      cases this
      exact .inr ⟨rfl,rfl⟩
    ·exact .inl (.inr hr)
   ·unfold zX at hfr
    rw[ard,List.any_eq_false]at hfr
    have:=hfr r (dW.mpr hr)
    simpa using this
  ·cases h
theorem nmZ:NM Vh:=fun x hx=>by
 have h:1<=x/\x<=((0:Nat):Int):=hx
 omega
theorem FW.ok{n:Nat}{c:aK}(h:FW n c):n<=200->Inv n n c/\NM c:=by
 induction h with
 |nil=>exact fun _=>⟨ajL,nmZ⟩
 | @step n c d r hf ih=>
  intro hn
  obtain⟨I,N⟩:=ih (by omega)
  refine⟨(Yz I d (by omega)).mono (aro _) (by have:=aaN d;omega),?_⟩
  unfold pK
  cases e:cQ c d with
  |ok _ c'=>exact ag9 I (by omega) N e
  |no _=>exact N
 |le _ h ih=>
  intro hn
  obtain⟨I,N⟩:=ih (by omega)
  exact⟨I.mono h h,N⟩
@[simp]theorem ao0 (c:aK):aO (qJ c) (.int 0)=.ok (lI c.own):=rfl
@[simp]theorem ao3 (c:aK):aO (qJ c) (.int 1)=.ok (.list ((List.range c.al.length).map (grD c))):=rfl
@[simp]theorem aeu (c:aK):aO (qJ c) (.int 2)=.ok (.list (c.held.map eZ)):=rfl
@[simp]theorem apR (c:aK):aO (qJ c) (.int 3)=.ok (.list (c.bs.map iZ)):=rfl
theorem eq_nil(xs:List Dat)(h:jT 11 xs=true):cG (.list xs) (.list [])=.ok (.bool xs.isEmpty)/\yO (.list xs) (.list [])=.ok (.bool (!xs.isEmpty)):=by
 have e:eqB (.list xs) (.list [])=.ok xs.isEmpty:=by
  show Out.when (okd 12 (.list xs)&&okd 12 (.list [])) (.ok (PyData.eqv (.list xs) (.list [])))=_
  rw[okd,okd,h,akj]
  cases xs with
  |nil=>rfl
  |cons a r=>rw[ahk];rfl
 exact⟨by unfold cG;rw[e];rfl,by unfold yO;rw[e];rfl⟩
theorem ahy(n:Nat)(x:Option (List Int)):okd (n+1) (sH x)=true:=by
 cases x with
 |none=>rfl
 |some e=>exact zA n e
theorem ai2(n:Nat)(f:Fi):okd (n+2) f.dat=true:=by
 cases f <;> simp[Fi.dat,okd,jT]
theorem aj3(n:Nat)(e:En):okd (n+2) e.dat=true:=by
 cases e <;> simp[En.dat,okd,jT]
theorem afa(n:Nat)(b:dD):okd (n+4) (iZ b)=true:=by
 have h1:jT (n+2) (b.en.map En.dat)=true:=wI.mpr fun d hd=>by
  obtain⟨e,_,rfl⟩:=aq8.mp hd
  exact aj3 n e
 have h2:=ai2 n b.fi
 have h3:=ahy (n+2) b.sd.due
 simp[iZ,okd,jT,h1,h2,h3]
@[simp]theorem apU (b:dD):aO (iZ b) (.int 0)=.ok (.int b.sd.o):=rfl
@[simp]theorem ao9 (b:dD):aO (iZ b) (.int 1)=.ok (.int b.sd.g):=rfl
@[simp]theorem aqf (b:dD):aO (iZ b) (.int 2)=.ok (sH b.sd.due):=rfl
@[simp]theorem apF (b:dD):aO (iZ b) (.int 3)=.ok (aJ b.sd.ear):=rfl
@[simp]theorem apZ (b:dD):aO (iZ b) (.int 4)=.ok (.bool b.sd.al):=rfl
@[simp]theorem apP (b:dD):aO (iZ b) (.int 5)=.ok (.int b.mo):=rfl
@[simp]theorem apw (b:dD):aO (iZ b) (.int 6)=.ok (.tuple (b.fi.dat::b.en.map En.dat)):=rfl
theorem aga{c:aK}{x:Int}(h:Vg c x):atI ((List.range c.al.length).map (grD c)) (x - 1)=some (.tuple [.int (j9 c x),aJ (aH c x)]):=by
 obtain⟨k,hk,rfl⟩:=qY h
 rw[show(k:Int)+1 - 1=(k:Int) by omega,af0]
 simp[hk,grD]
theorem acr(M:Mo)(c:aK)(i:cY c)(x:Int)(h:Vg c x):Az M [qJ c,.int x]=.ok (.int (roomOf c x)):=by
 have h1:=aga h
 have hc:=i.at h
 have hl:(aH c x).length<=50000:=by have:=i.clen hc;omega
 have hne:(aH c x).map (j9 c)≠[]:=fun z=>by
  have:=i.self h
  rw[List.map_eq_nil_iff.mp z]at this
  cases this
 have key:=fj (tg:=aF 2) (te:=aA aO (aA aO (aA aO (ao 0) (qC (.int 1))) (aA pB (ao 2) (qC (.int 1)))) (qC (.int 0))) (M:=M) (ρ:=[some (.dat (qJ c)),some (.dat (.int x)),none]) PyData.int (fun y=>.int (j9 c y)) (aH c x) fun y hy=>⟨[some (.dat (qJ c)),some (.dat (.int x)),some (.dat (.int y))],by simp,by
  have:=aga (i.mem _ _ hc y hy)
  simp[this]⟩
 have hm:=maxD_ints hne
 rw[arw]at hm
 simp[arn]at hm
 simp[Az,Mu,h1,key,hl,hm,roomOf]
theorem adK(M:Mo)(x y:List Int)(h:x.length<=1000):HJ M [aJ x,aJ y]=.ok (aJ (iV x y)):=by
 have key:=fj (tg:=bD [2,3]) (te:=aA tL (ao 2) (ao 3)) (M:=M) (ρ:=[some (.dat (aJ x)),some (.dat (aJ y)),none,none]) pD (fun p=>.int (if p.2 > p.1 then p.2 else p.1)) (x.zip y) fun p _=>⟨[some (.dat (aJ x)),some (.dat (aJ y)),some (.dat (.int p.1)),some (.dat (.int p.2))],by simp[pD],by simp⟩
 have hz2:min x.length y.length<=50000:=by omega
 simp[HJ,acp,za,key,hz2,iV]
def EvG(n:Int):En->Prop
 |.moved g=>1<=g/\g<=n
 |.followed _ g=>1<=g/\g<=n
 |_=>True
def FiG(n:Int):Fi->Prop
 |.brought _ g _=>1<=g/\g<=n
 |.born _ _ g=>1<=g/\g<=n
structure Ksd(P:Int->dD->Prop):Prop where
 mono:∀{n m:Int} {b:dD},P n b->n<=m->P m b
 new:∀{n:Int} {f:Fi},FiG n f->P n (yV f)
 mJ:∀{n:Int} {b:dD} {e:En},P n b->EvG n e->P n (mJ b e)
section
variable{P:Int->dD->Prop}(K:Ksd P)
include K
theorem Ksd.one{n:Int}{c:aK}{i:Nat}{e:En}(h:∀b∈c.bs,P n b)(he:EvG n e):∀b∈(fu c i e).bs,P n b:=fun b hb=>by
 rcases PN hb with z|⟨b0,z,rfl⟩
 ·exact h b z
 ·exact K.mJ (h b0 (aq3 z)) he
theorem Ksd.many{n:Int}{c:aK}{p:dD->Bool}{e:En}(h:∀b∈c.bs,P n b)(he:EvG n e):∀b∈(nY p e c).bs,P n b:=fun b hb=>by
 obtain⟨b0,h1,rfl⟩:=aq8.mp hb
 split
 ·exact K.mJ (h b0 h1) he
 ·exact h b0 h1
theorem Ksd.more{n:Int}{c:aK}{f:Fi}(h:∀b∈c.bs,P n b)(hf:FiG n f):∀b∈c.bs++[yV f],P n b:=fun b hb=>by
 rcases aq5.mp hb with z|z
 ·exact h b z
 ·rw[aq2.mp z]
  exact K.new hf
theorem Ksd.step{n s:Nat}{c c':aK}{d:bH}{r:Dat}(I:Inv n s c)(h:∀b∈c.bs,P c.al.length b)(e:cQ c d=.ok r c'):∀b∈c'.bs,P c'.al.length b:=by
 cases d with
 |owner=>
  cases e
  exact h
 |ground x=>
  obtain⟨_,e⟩:=uZ e
  cases e
  exact fun b hb=>K.mono (h b hb) (by simp;omega)
 |enrol o g m=>
  obtain⟨_,e⟩:=fO e
  obtain⟨_,e⟩:=fZ e
  obtain⟨_,e⟩:=Cy e
  obtain⟨_,e⟩:=eX e
  obtain⟨_,e⟩:=eX e
  have e:=oA e
  cases e
  exact h
 |leave o g=>
  obtain⟨_,e⟩:=fO e
  obtain⟨_,e⟩:=fZ e
  obtain⟨_,e⟩:=gM e
  obtain⟨_,e⟩:=eX e
  cases e
  exact h
 |bring o g m=>
  obtain⟨_,e⟩:=fO e
  obtain⟨hg,e⟩:=fZ e
  obtain⟨_,e⟩:=Cy e
  obtain⟨_,e⟩:=gM e
  cases e
  exact K.more h hg
 |bear k=>
  obtain⟨b0,e0,h1,h2,h3,e⟩:=qW e
  cases e
  exact K.more h (I.alive (aq3 (jY h1).1) h2).2.1
 |cut k=>
  obtain⟨b0,h1,h2,e⟩:=rN e
  have e:=oA e
  cases e
  exact K.one h trivial
 |tear k p=>
  obtain⟨b0,h1,h2,e⟩:=rN e
  obtain⟨_,e⟩:=uZ e
  obtain⟨_,e⟩:=eX e
  cases e
  exact K.one h trivial
 |sell k o=>
  obtain⟨b0,e0,h1,h2,h3,e⟩:=qW e
  obtain⟨_,e⟩:=fO e
  obtain⟨_,e⟩:=eX e
  obtain⟨_,e⟩:=gM e
  have e:=oA e
  cases e
  exact K.many (c:=fu c _ _) (K.one h trivial) (I.alive (aq3 (jY h1).1) h2).2.1
 |move k g=>
  obtain⟨b0,e0,h1,h2,h3,e⟩:=qW e
  obtain⟨hg,e⟩:=fZ e
  obtain⟨_,e⟩:=eX e
  obtain⟨_,e⟩:=gM e
  have e:=oA e
  cases e
  exact K.many (c:=fu c _ _) (K.one h hg) hg
 |die k=>
  obtain⟨b0,h1,h2,e⟩:=rN e
  cases e
  exact K.one h trivial
 |vP x y=>
  obtain⟨_,e⟩:=fZ e
  obtain⟨_,e⟩:=fZ e
  obtain⟨_,e⟩:=eX e
  split at e
  ·cases e
  ·cases e
   exact h
 |part x=>
  obtain⟨_,e⟩:=fZ e
  obtain⟨_,e⟩:=eX e
  cases e
  exact h
 |pass x y=>
  obtain⟨_,e⟩:=fO e
  obtain⟨_,e⟩:=fO e
  obtain⟨_,e⟩:=eX e
  cases e
  exact K.many h trivial
 |heir x g m=>
  obtain⟨_,e⟩:=fO e
  obtain⟨_,e⟩:=fZ e
  obtain⟨_,e⟩:=uZ e
  obtain⟨_,e⟩:=gM e
  split at e
  ·cases e
   exact h
  ·cases e
theorem FW.all{n:Nat}{c:aK}(h:FW n c):n<=200->∀b∈c.bs,P c.al.length b:=by
 induction h with
 |nil=>exact fun _ b hb=>nomatch hb
 | @step n c d r hf ih=>
  intro hn
  have I:=(r.ok (by omega)).1
  have ih:=ih (by omega)
  unfold pK
  cases e:cQ c d with
  |ok _ c'=>exact K.step I ih e
  |no _=>exact ih
 |le _ h ih=>exact fun hn=>ih (by omega)
end
def gJ(x y:List Int):Bool:=(x.zip y).all fun p=>decide (p.1<=p.2)
theorem Le(x:List Int):gJ x x=true:=by
 unfold gJ
 rw[arl]
 intro p hp
 obtain⟨i,hi,e⟩:=List.mem_iff_getElem.mp hp
 rw[List.getElem_zip]at e
 rw[←e]
 simp
theorem Dd{x y:List Int}:gJ x y=true↔∀(i:Nat) (a b:Int),x[i]?=some a->y[i]?=some b->a<=b:=by
 unfold gJ
 rw[arl]
 constructor
 ·intro h i a b ha hb
  have:=h (a,b) (aq3 (i:=i) (by rw[arI];exact⟨ha,hb⟩))
  simpa using this
 ·intro h p hp
  obtain⟨i,hi⟩:=List.mem_iff_getElem?.mp hp
  rw[arI]at hi
  simpa using h i _ _ hi.1 hi.2
theorem adS{x y:List Int}(h:gJ x y=true)(p:Nat):gJ x (uE y p)=true:=Dd.mpr fun i a b ha hb=>by
 unfold uE at hb
 rw[arQ]at hb
 obtain⟨z,hz,rfl⟩:=arF.mp hb
 have:=Dd.mp h i a z ha hz
 split <;> omega
def Bg(n:Int)(b:dD):Prop:=(1<=b.sd.g/\b.sd.g<=n)/\∀d,b.sd.due=some d->gJ d b.sd.ear=true
theorem aja:Ksd Bg where
 mono:=fun h hn=>⟨⟨h.1.1,by have:=h.1.2;omega⟩,h.2⟩
 new:=fun {n f} h=>by
  cases f with
  |brought o g e=>exact⟨h,fun d hd=>nomatch hd⟩
  |born m o g=>exact⟨h,fun d hd=>nomatch hd⟩
 mJ:=fun {n b e} h he=>by
  cases e with
  |torn p=>exact⟨h.1,fun d hd=>adS (h.2 d hd) p⟩
  |cut j=>
   refine⟨h.1,fun d hd=>?_⟩
   cases hd
   exact Le j
  |sold o j=>
   refine⟨h.1,fun d hd=>?_⟩
   cases hd
   exact Le j
  |moved g=>exact⟨he,h.2⟩
  |followed o g=>exact⟨he,h.2⟩
  |passed o=>exact h
  |died=>exact h
def lG(e:List Int)(R:List Rw)(room:Int):List Int:=Ad ((R.filter fun r=>gJ r.2 e&&decide (dI r.2 e<=room)).map (·.1))
theorem adY(M:Mo)(x y:List Int)(h:x.length<=1000):yW M [aJ x,aJ y]=.ok (.bool (gJ x y)):=by
 have key:=fj (tg:=bD [2,3]) (te:=aA rG (ao 2) (ao 3)) (M:=M) (ρ:=[some (.dat (aJ x)),some (.dat (aJ y)),none,none]) pD (fun p=>.bool (decide (p.1<=p.2))) (x.zip y) fun p _=>⟨[some (.dat (aJ x)),some (.dat (aJ y)),some (.dat (.int p.1)),some (.dat (.int p.2))],by simp[pD],by simp⟩
 have hz2:min x.length y.length<=50000:=by omega
 have hb:Ik (.list ((x.zip y).map fun p=>PyData.bool (decide (p.1<=p.2))))=.ok (.bool (gJ x y)):=by
  have:=Bb ((x.zip y).map fun p=>decide (p.1<=p.2))
  rw[arw]at this
  show(match qP ((x.zip y).map fun p=>PyData.bool (decide (p.1<=p.2))) with
   |some bs=>Out.ok (PyData.bool (bs.all id))
   |none=>.bad)=_
  have this:qP ((x.zip y).map fun p=>PyData.bool (decide (p.1<=p.2)))=_:=this
  rw[this]
  simp[gJ,List.all_map,arn]
 simp[yW,Qg,za,key,hz2,hb]
theorem Zw(M:Mo)(e:List Int)(R:List Rw)(room:Int)(he:e.length<=1000)(hR:tG R)(hl:R.length<=1000):vA M [aJ e,.list (R.map Ear.rD),.int room]=.ok (aJ (lG e R room)):=by
 have key:=fQ (tg:=bD [3,4]) (tt:=jV (gG (aV yW (ak (aq 4) (ak (aq 0) au)))) (bA (aA rG (aV oE (ak (aq 4) (ak (aq 0) au))) (ao 2)))) (te:=aq 3) (M:=M) (ρ:=[some (.dat (aJ e)),some (.dat (.list (R.map Ear.rD))),some (.dat (.int room)),none,none]) Ear.rD (fun r=>gJ r.2 e&&decide (dI r.2 e<=room)) (fun r=>.int r.1) R fun r hr=>by
  have h1:=adY M r.2 e (by rw[hR r hr];decide)
  have h2:=Ir M r.2 e (by rw[hR r hr];decide)
  have hd:(bD [3,4]) (Ear.rD r) [some (.dat (aJ e)),some (.dat (.list (R.map Ear.rD))),some (.dat (.int room)),none,none]=some [some (.dat (aJ e)),some (.dat (.list (R.map Ear.rD))),some (.dat (.int room)),some (.dat (.int r.1)),some (.dat (aJ r.2))]:=rfl
  refine⟨_,hd,?_,fun _=>by simp⟩
  cases hq:gJ r.2 e with
  |true=>
   rw[hq]at h1
   simp[h1,h2]
  |false=>
   rw[hq]at h1
   simp[h1]
 have hi:intsOf ((R.filter fun r=>gJ r.2 e&&decide (dI r.2 e<=room)).map fun r=>PyData.int r.1)=some ((R.filter fun r=>gJ r.2 e&&decide (dI r.2 e<=room)).map (·.1)):=by
  have:=lQ ((R.filter fun r=>gJ r.2 e&&decide (dI r.2 e<=room)).map (·.1))
  rw[arw]at this
  exact this
 have hl2:(R.filter fun r=>gJ r.2 e&&decide (dI r.2 e<=room)).length<=4000:=ars (ark _ _) (by omega)
 have hl3:R.length<=50000:=by omega
 simp[vA,Fg,key,hi,hl2,hl3,lG]
theorem OJ:∀(r s e:List Int),r.length=s.length->s.length=e.length->gJ s e=true->dI r s<=dI r e
 |[],[],[],_,_,_=>by simp[dI]
 |a::r,b::s,c::e,h1,h2,h3=>by
  have hb:b<=c/\gJ s e=true:=by
   unfold gJ at h3 ⊢
   rw[arv,arJ,aqW]at h3
   exact⟨by simpa using h3.1,h3.2⟩
  have ih:=OJ r s e (by simpa using h1) (by simpa using h2) hb.2
  unfold dI at ih ⊢
  rw[arv,arv,arx,arx]
  by_cases q1:a < b
  ·have q2:a < c:=by omega
   simp only[q1,q2,decide_true,if_true,aqZ,List.sum_cons]
   omega
  ·by_cases q2:a < c
   ·simp only[q1,q2,decide_true,decide_false,if_true,aqZ,List.sum_cons,arp,if_false]
    omega
   ·simp only[q1,q2,decide_false,arp,if_false]
    exact ih
theorem afb{r s e:List Int}{room:Int}(hr:r.length=6)(hs:s.length=6)(he:e.length=6)(d1:gJ r e=true)(d2:gJ s e=true)(l1:dI r e<=room)(l2:dI s e<=room):fW r s<=room:=by
 have a:=OJ r s e (by omega) (by omega) d2
 have b:=OJ s r e (by omega) (by omega) d1
 unfold fW
 split <;> omega
theorem HW{e:List Int}{R:List Rw}{room o:Int}:o∈lG e R room↔∃m,(o,m)∈R/\gJ m e=true/\dI m e<=room:=by
 unfold lG
 rw[Vo,aq8]
 constructor
 ·rintro⟨r,h,rfl⟩
  obtain⟨h1,h2⟩:=arh.mp h
  simp only[aqW,decide_eq_true_eq]at h2
  exact⟨r.2,h1,h2⟩
 ·rintro⟨m,h1,h2,h3⟩
  exact⟨(o,m),arh.mpr ⟨h1,by simp[h2,h3]⟩,rfl⟩
theorem ace{n s:Nat}{c:aK}(I:Inv n s c)(N:NM c){x:Int}(hx:Vg c x){e:List Int}(he:e.length=6):∀o∈lG e (bK (cO c 0 x)) (roomOf c x),∀p∈lG e (bK (cO c 0 x)) (roomOf c x),o=p:=fun o ho p hp=>by
 obtain⟨m,m1,m2,m3⟩:=HW.mp ho
 obtain⟨k,k1,k2,k3⟩:=HW.mp hp
 have m1:=dW.mp m1
 have k1:=dW.mp k1
 by_cases q:o=p
 ·exact q
 ·exfalso
  obtain⟨g,hg,a⟩:=wW.mp m1
  obtain⟨h,hh,b⟩:=wW.mp k1
  have h1:=N x hx g hg h hh (o,m) (p,k) a b q
  have h2:=afb (I.Fj _ m1) (I.Fj _ k1) he m2 k2 m3 k3
  simp only at h1 h2
  omega
theorem Ra:∀{l:List Int},l.Pairwise (· < ·)->(∀a∈l,∀b∈l,a=b)->l=[]∨∃a,l=[a]
 |[],_,_=>.inl rfl
 |[a],_,_=>.inr ⟨a,rfl⟩
 |a::b::l,h,e=>by
  have h1:=(List.pairwise_cons.mp h).1 b aq1
  have h2:=e a aq1 b (aq0 _ aq1)
  omega
theorem Sy{n s:Nat}{c:aK}(I:Inv n s c)(N:NM c){x:Int}(hx:Vg c x){e:List Int}(he:e.length=6):lG e (bK (cO c 0 x)) (roomOf c x)=[]∨∃o,lG e (bK (cO c 0 x)) (roomOf c x)=[o]:=Ra (YT _) (ace I N hx he)
theorem acN{n s:Nat}{c:aK}(I:Inv n s c)(N:NM c){x:Int}(hx:Vg c x){e:List Int}(he:e.length=6){o:Int}(ho:o∈lG e (bK (cO c 0 x)) (roomOf c x)):lG e (bK (cO c 0 x)) (roomOf c x)=[o]:=by
 rcases Sy I N hx he with z|⟨p,z⟩
 ·rw[z]at ho
  cases ho
 ·rw[z]at ho ⊢
  rw[aq2.mp ho]
theorem ahq{c c':aK}{d:bH}{r:Dat}(e:cQ c d=.ok r c')(h:∀a∈c.al,0<=a):∀a∈c'.al,0<=a:=by
 cases d <;> simp only[cQ,rO,xg,IW,ni,v8,wM,markB]at e <;> (repeat' split at e) <;> cases e <;> first | exact h | skip
 rename_i hx
 intro a ha
 rcases aq5.mp ha with z|z
 ·exact h a z
 ·rw[aq2.mp z]
  exact hx.1
theorem FW.al{n:Nat}{c:aK}(h:FW n c):∀a∈c.al,0<=a:=by
 induction h with
 |nil=>exact fun _ b=>nomatch b
 | @step n c d r hf ih=>
  unfold pK
  cases e:cQ c d with
  |ok _ c'=>exact ahq e ih
  |no _=>exact ih
 |le _ h ih=>exact ih
theorem aeQ{n:Nat}{c:aK}(h:FW n c)(i:cY c){x:Int}(v:Vg c x):0<=roomOf c x:=by
 have h1:=acC (i.self v)
 have h2:0<=j9 c x:=by
  unfold j9
  cases q:c.al[(x - 1).toNat]? with
  |none=>simp
  |some a=>exact h.al a (aq3 q)
 omega
theorem Y7{M:Mo}{L:Lay}{n s:Nat}{c:aK}(a:At M L c)(I:Inv n s c)(hs:s<=76)(x:Int)(hx:Vg c x)(e:List Int)(he:cI e=true):sU M [ob L.c,.int x,aJ e]=.ok (aJ (lG e (bK (cO c 0 x)) (roomOf c x))):=by
 have f0:=I.hL
 have hc:=a.hc
 obtain⟨n1,m1,hg⟩:=a.hg
 have hel:=dG he
 have h1:=uL a x
 rw[if_pos hx]at h1
 have h2:=Fv M e (by omega)
 rw[if_pos he]at h2
 have h3:=vK a I.gr (by omega) (by omega) x (by rw[jf a];exact ars (I.few fun r hr=>lX hr) hs)
 rw[if_pos hx,jf a]at h3
 have h4:=wN a I.gr x
 rw[if_pos hx]at h4
 have hlT:(bK (cO c 0 x)).length<=1000:=by
  rw[qG]
  exact ars (I.few fun r hr=>lX hr) (by omega)
 have h5:=Zw M e (bK (cO c 0 x)) (roomOf c x) (by omega) (wY I.Fj) hlT
 simp[sU,yL,hc,aQ,hg,dw,aG,h1,h2,bO,h3,bQ,h4,h5]
theorem aeL{M:Mo}{L:Lay}{n s:Nat}{c:aK}(hL:L.c=0)(a:At M L c)(I:Inv n s c)(N:NM c)(hs:s<=76)(x:Int)(hx:Vg c x)(e:List Int)(he:cI e=true):Eb M [ob 0,.int x,aJ e]=.ok (.bool true):=by
 have hc:=a.hc
 have h1:=Y7 a I hs x hx e he
 rw[hL]at h1 hc
 have h2:(lG e (bK (cO c 0 x)) (roomOf c x)).length<=1:=by
  rcases Sy I N hx (dG he) with z|⟨o,z⟩ <;> simp[z]
 generalize lG e (bK (cO c 0 x)) (roomOf c x)=l at h1 h2
 have h3:(l.length:Int)<=1:=by omega
 have h4:xJ .tuple (aJ l)=.ok (.bool true):=rfl
 simp[Eb,ab8,hc,aQ,j8,h1,h4,h3]
theorem aai(M:Mo)(x:List Int)(hx:x.length=6)(z:Int):∃e,cI e=true/\rK M [aJ x,.int z]=.ok (aJ e):=by
 have h1:qR M [.int z,.int 7,.int 10]=.ok (.list ((rowOf z 7 10).map .int)):=R5 M z 7 10 (by decide) (by decide) (by decide)
 have h2:Rf.cutD ((rowOf z 7 10).map PyData.int) none (some 6)=((rowOf z 7 10).take 6).map PyData.int:=by
  rw[show(6:Int)=((6:Nat):Int) from rfl,Z5,List.map_take]
 have h3:atI ((rowOf z 7 10).map PyData.int) 6=some (.int ((rowOf z 7 10).getD 6 0)):=Ji _ 6 (by simp)
 have hf:∀d∈(rowOf z 7 10).take 6,0<=d/\d < 10:=fun d hd=>Tj (by decide) z 7 d (arU hd)
 have hl:((rowOf z 7 10).take 6).length=6:=by simp
 have h4:=abh M x ((rowOf z 7 10).take 6) (by omega) hf
 have h5:=Mq M ((rowOf z 7 10).take 6) ((rowOf z 7 10).getD 6 0) (by omega)
 have e4:=Ws (x:=x) (f:=(rowOf z 7 10).take 6) hx hl
 have e5:cI (uG ((rowOf z 7 10).take 6) ((rowOf z 7 10).getD 6 0))=true:=Mw (by unfold uG;(repeat' split) <;> simp) (Ym hf)
 generalize (rowOf z 7 10).getD 6 0=m at h3 h5 e5
 generalize (rowOf z 7 10).take 6=t at *
 by_cases q:m < 6
 ·refine⟨_,e4,?_⟩
  generalize Nh x t=w at *
  have h4:Ax M [aJ x,.list (t.map .int)]=_:=h4
  simp[rK,Ac,h1,h2,h3,q,h4]
 ·refine⟨_,e5,?_⟩
  generalize uG t m=w at *
  have h5:mY M [.list (t.map .int),.int m]=_:=h5
  simp[rK,Ac,h1,h2,h3,q,h5]
theorem abJ(x:List Int):dI x x=0:=by
 induction x with
 |nil=>rfl
 |cons a x ih=>
  unfold dI at ih ⊢
  rw[arv,arx]
  simp[ih]
theorem V9:∀(x y:List Int) (i:Nat) (v:Int),y[i]?=some v->dI x (y.set i (v+1))<=dI x y+1
 |[],_,_,_,_=>by simp[dI]
 |_::_,[],_,_,h=>by simp at h
 |a::x,b::y,0,v,h=>by
  cases h
  unfold dI
  rw[List.set_cons_zero,arv,arv,arx,arx]
  by_cases q1:a < b
  ·have q2:a < b+1:=by omega
   simp only[q1,q2,decide_true,if_true,aqZ,List.sum_cons]
   omega
  ·by_cases q2:a < b+1
   ·simp only[q1,q2,decide_true,decide_false,if_true,aqZ,List.sum_cons,arp,if_false]
    omega
   ·simp only[q1,q2,decide_false,arp,if_false]
    omega
 |a::x,b::y,i+1,v,h=>by
  have ih:=V9 x y i v (by simpa using h)
  unfold dI at ih ⊢
  rw[List.set_cons_succ,arv,arv,arx,arx]
  by_cases q1:a < b
  ·simp only[q1,decide_true,if_true,aqZ,List.sum_cons]
   omega
  ·simp only[q1,decide_false,arp,if_false]
   exact ih
theorem af3{x y:List Int}(h:gJ x y=true)(i:Nat)(v:Int)(hv:y[i]?=some v):gJ x (y.set i (v+1))=true:=Dd.mpr fun j a b ha hb=>by
 rw[arS]at hb
 split at hb
 ·next q=>
  subst q
  split at hb
  ·cases hb
   have:=Dd.mp h i a v ha hv
   omega
  ·cases hb
 ·exact Dd.mp h j a b ha hb
theorem Ea(M:Mo)(base:List Int)(x0 x1:Option Cell)(cap:Int):∀(fs:List Int) (e:List Int) (m:Int) (x4:Option Cell),(∀f∈fs,0<=f/\f < 10)->cI e=true->gJ base e=true->0<=m->dI base e+m<=cap->∃e' y2 y4,gY (aF 4) mK (fs.map PyData.int) M [x0,x1,some (.dat (.int m)),some (.mut (e.map PyData.int)),x4]=.next [x0,x1,y2,some (.mut (e'.map PyData.int)),y4] M/\cI e'=true/\gJ base e'=true/\dI base e'<=cap
 |[],e,m,x4,_,h1,h2,h3,h4=>⟨e,_,x4,rfl,h1,h2,by omega⟩
 |f::fs,e,m,x4,hf,h1,h2,h3,h4=>by
  have hl:=dG h1
  have hf0:=hf f aq1
  obtain⟨i,hi,hi6⟩:∃i:Nat,f % 6=i/\i < 6:=⟨(f % 6).toNat,by omega,by omega⟩
  have hv:e[i]?=some (e.getD i 0):=by
   rw[List.getD_eq_getElem?_getD,aqY (by omega)]
   rfl
  have hat:atI (e.map PyData.int) (i:Int)=some (.int (e.getD i 0)):=Ji e i (by omega)
  generalize hvv:e.getD i 0=v at *
  by_cases q1:m > 0
  ·by_cases q2:v < 9
   ·have hd:∀d∈e,0<=d/\d<=9:=by
     unfold cI at h1
     simp only[aqW,decide_eq_true_eq,arl]at h1
     intro d hd
     have:=h1.2 d hd
     omega
    have h1':cI (e.set i (v+1))=true:=Mw (by simp[hl]) fun d hd'=>by
     rcases List.mem_or_eq_of_mem_set hd' with z|z
     ·have:=hd d z;omega
     ·have:=hd v (aq3 hv);omega
    obtain⟨e',y2,y4,k1,k2,k3,k4⟩:=Ea M base x0 x1 cap fs (e.set i (v+1)) (m - 1) (some (.dat (.int f))) (fun g hg=>hf g (aq0 _ hg)) h1' (af3 h2 i v hv) (by omega) (by have:=V9 base e i v hv;omega)
    refine⟨e',y2,y4,?_,k2,k3,k4⟩
    have hix:ixN e.length (i:Int)=some i:=by
     unfold ixN
     simp
     omega
    have hm:e.map PyData.int=e.map PyData.int:=rfl
    have hb:mK M [x0,x1,some (.dat (.int m)),some (.mut (e.map PyData.int)),some (.dat (.int f))]=.next [x0,x1,some (.dat (.int (m - 1))),some (.mut ((e.set i (v+1)).map PyData.int)),some (.dat (.int f))] M:=by
     have hs:(e.set i (v+1)).map PyData.int=(e.map PyData.int).set i (.int (v+1)):=by rw[List.map_set]
     rw[hs]
     have hlm:(e.map PyData.int).length=e.length:=by simp
     generalize e.map PyData.int=E at *
     simp[mK,q1,hi,hat,q2,hlm,hix]
    rw[aqZ,gR (ρ1:=[x0,x1,some (.dat (.int m)),some (.mut (e.map PyData.int)),some (.dat (.int f))]) (by simp) hb]
    exact k1
   ·obtain⟨e',y2,y4,k1,k2,k3,k4⟩:=Ea M base x0 x1 cap fs e m (some (.dat (.int f))) (fun g hg=>hf g (aq0 _ hg)) h1 h2 h3 h4
    refine⟨e',y2,y4,?_,k2,k3,k4⟩
    have hb:mK M [x0,x1,some (.dat (.int m)),some (.mut (e.map PyData.int)),some (.dat (.int f))]=.next [x0,x1,some (.dat (.int m)),some (.mut (e.map PyData.int)),some (.dat (.int f))] M:=by
     generalize e.map PyData.int=E at *
     simp[mK,q1,hi,hat,q2]
    rw[aqZ,gR (ρ1:=[x0,x1,some (.dat (.int m)),some (.mut (e.map PyData.int)),some (.dat (.int f))]) (by simp) hb]
    exact k1
  ·obtain⟨e',y2,y4,k1,k2,k3,k4⟩:=Ea M base x0 x1 cap fs e m (some (.dat (.int f))) (fun g hg=>hf g (aq0 _ hg)) h1 h2 h3 h4
   refine⟨e',y2,y4,?_,k2,k3,k4⟩
   have hb:mK M [x0,x1,some (.dat (.int m)),some (.mut (e.map PyData.int)),some (.dat (.int f))]=.next [x0,x1,some (.dat (.int m)),some (.mut (e.map PyData.int)),some (.dat (.int f))] M:=by
    generalize e.map PyData.int=E at *
    simp[mK,q1]
   rw[aqZ,gR (ρ1:=[x0,x1,some (.dat (.int m)),some (.mut (e.map PyData.int)),some (.dat (.int f))]) (by simp) hb]
   exact k1
theorem abK(M:Mo)(base fs:List Int)(m:Int)(h1:cI base=true)(hf:∀f∈fs,0<=f/\f < 10)(hm:0<=m):∃e,Ak M [aJ base,lI fs,.int m]=.ok (aJ e)/\cI e=true/\gJ base e=true/\dI base e<=m:=by
 obtain⟨e,y2,y4,k1,k2,k3,k4⟩:=Ea M base (some (.dat (aJ base))) (some (.dat (lI fs))) m fs base m none hf h1 (Le base) hm (by rw[abJ];omega)
 have hl:=dG h1
 exact⟨e,by simp[Ak,Lq,k1,Nk],k2,k3,k4⟩
theorem Rp{α:Type}(f:α->Dat)(l:List α)(h:l≠[])(z:Int):0 < (l.length:Int)/\∃a∈l,atI (l.map f) (z % (l.length:Int))=some (f a):=by
 have h0:0 < (l.length:Int):=by
  have:=List.length_pos_iff.mpr h
  omega
 refine⟨h0,?_⟩
 have h1:=Int.emod_nonneg z (b:=(l.length:Int)) (by omega)
 have h2:=Int.emod_lt_of_pos z h0
 obtain⟨j,hj⟩:∃j:Nat,z % (l.length:Int)=j:=⟨(z % (l.length:Int)).toNat,by omega⟩
 have hj2:j < l.length:=by omega
 exact⟨l[j],arL hj2,by rw[hj];exact atI_nat (by rw[aq9,aqY hj2];rfl)⟩
theorem abD{M:Mo}{L:Lay}{n s:Nat}{c:aK}(hL:L.c=0)(a:At M L c)(I:Inv n s c)(N:NM c)(hs:s<=76)(hd z:Int)(x0 x4 x6 x7 x8 x9 x10:Option Cell):∀(ks:List Nat) (x5:Option Cell),(∀k∈ks,k < c.al.length)->∃y5,gY (aF 5) Nq (ks.map fun(k:Nat)=>PyData.int (k:Int)) M [x0,some (.dat (ob 0)),some (.dat (.int hd)),some (.dat (.int z)),x4,x5,x6,x7,x8,x9,x10]=.next [x0,some (.dat (ob 0)),some (.dat (.int hd)),some (.dat (.int z)),x4,y5,x6,x7,x8,x9,x10] M
 |[],x5,_=>⟨x5,rfl⟩
 |k::ks,x5,h=>by
  have hk:=h k aq1
  have e1:=ac5 M (hd / 512)
  obtain⟨e,he,e2⟩:=aai M (Jl (hd / 512)) (Wt _) z
  have e3:=aeL hL a I N hs ((k:Int)+1) ⟨by omega,by omega⟩ e he
  have hdv:∀z,decide (CDiv z 512)=true:=fun z=>decide_eq_true ⟨by decide,by decide⟩
  have hb:Nq M [x0,some (.dat (ob 0)),some (.dat (.int hd)),some (.dat (.int z)),x4,some (.dat (.int (k:Int))),x6,x7,x8,x9,x10]=.next [x0,some (.dat (ob 0)),some (.dat (.int hd)),some (.dat (.int z)),x4,some (.dat (.int (k:Int))),x6,x7,x8,x9,x10] M:=by simp[Nq,hdv,e1,e2,e3]
  obtain⟨y5,h2⟩:=abD hL a I N hs hd z x0 x4 x6 x7 x8 x9 x10 ks (some (.dat (.int (k:Int)))) fun j hj=>h j (aq0 _ hj)
  exact⟨y5,by rw[aqZ,gR (ρ1:=[x0,some (.dat (ob 0)),some (.dat (.int hd)),some (.dat (.int z)),x4,some (.dat (.int (k:Int))),x6,x7,x8,x9,x10]) (by simp) hb];exact h2⟩
theorem afx(ns:List Int)(h:ns.length<=63):∃M,S7 [] [.list (ns.map PyData.int)]=.ok (.bool true) M:=by
 obtain⟨M0,L,hL,h0,a0⟩:=amU
 have cell0:vJ M0 [lI ns,.int 0]=_:=Tp M0 ns 0
 have cell1:vJ M0 [lI ns,.int 1]=_:=Tp M0 ns 1
 have hl:=agU ns 3 44 (by decide)
 generalize hcl:Rf.cutD ns (some ((3:Nat):Int)) (some ((44:Nat):Int))=cells at hl
 have hcl2:Rf.cutD (ns.map PyData.int) (some 3) (some 44)=cells.map PyData.int:=by rw[ag3];exact congrArg _ hcl
 obtain⟨c,M1,L1,hL1,h1,N1⟩:=ahr a0 cells (by omega) (if ns.getD 0 0 < 0 then -(ns.getD 0 0) else ns.getD 0 0)
 have cell2:vJ M1 [lI ns,.int 2]=_:=Tp M1 ns 2
 have I:=N1.inv
 have f0:=I.hL
 have hc1:=N1.at_.hc
 have l1:=N1.look (by decide)
 have NM1:=(N1.rch.ok (by decide)).2
 have B:=N1.rch.all aja (by decide)
 have al:c.al.length<=50000:=by have:=I.al;omega
 have few:=fun x hx e he=>aeL (hL1.trans hL) N1.at_ I NM1 (by decide) x hx e he
 have hr:fH 0 c.al.length=(List.range c.al.length).map fun(k:Nat)=>PyData.int (k:Int):=by simp[fH]
 generalize hhd:(if ns.getD 0 0 < 0 then -(ns.getD 0 0) else ns.getD 0 0)=hd at *
 have hhd2:(if ns.getD 0 0 < 0 then PyData.int (-(ns.getD 0 0)) else PyData.int (ns.getD 0 0))=.int hd:=by rw[←hhd];split <;> rfl
 generalize hz:(if ns.getD 1 0 < 0 then -(ns.getD 1 0) else ns.getD 1 0)=z at *
 let mk:dD->Bool:=fun b=>b.sd.al&&b.sd.due.isSome
 have key:=fun x5 x6 x7=>fQ (tg:=aF 10) (tt:=jV (gG (aA aO (ao 10) (qC (.int 4)))) (bA (yw true .none (aA aO (ao 10) (qC (.int 2)))))) (te:=aq 10) (M:=M1) (ρ:=[some (.dat (lI ns)),some (.dat (ob 0)),some (.dat (.int hd)),some (.dat (.int z)),some (.dat (qJ c)),x5,x6,x7,none,none,none]) iZ mk iZ c.bs fun b _=>⟨[some (.dat (lI ns)),some (.dat (ob 0)),some (.dat (.int hd)),some (.dat (.int z)),some (.dat (qJ c)),x5,x6,x7,none,none,some (.dat (iZ b))],by simp,by
  cases q1:b.sd.al <;> cases q2:b.sd.due <;> simp[mk,q1,q2,sH,pA],fun _=>by simp⟩
 rw[hL1,hL]at l1 hc1
 rw[hL]at h1
 have q:∀z:Int,decide (CDiv z 7)=true:=fun z=>decide_eq_true ⟨by decide,by decide⟩
 -- the grounds
 have gl:=abD (hL1.trans hL) N1.at_ I NM1 (by decide) hd z (some (.dat (lI ns))) (some (.dat (qJ c))) none none none none none (List.range c.al.length) none fun k hk=>List.mem_range.mp hk
 obtain⟨y5,gl⟩:=gl
 rw[←hr]at gl
 -- the rights
 have n1:=(eq_nil (c.held.map eZ) (wI.mpr fun d hd=>by
  obtain⟨r,_,rfl⟩:=aq8.mp hd
  have:=zA 9 r.2.2
  simp[eZ,okd,jT,this])).2
 have n2:=(eq_nil ((c.bs.filter mk).map iZ) (wI.mpr fun d hd=>by
  obtain⟨r,_,rfl⟩:=aq8.mp hd
  exact afa 7 r)).1
 have hel:∃x6 x7,∀(y5:Option Cell),bT (bA (aA yO (aA aO (ao 4) (qC (.int 2))) (yE au))) (aD (bf (aF 6) (gOf (aA aO (aA aO (ao 4) (qC (.int 2))) (aA jx (ao 3) (dH jR (aA aO (ao 4) (qC (.int 2))))))))
 (aD (bf (aF 7) (gOf (aA aO (aA aO (ao 4) (qC (.int 2))) (aA jx (aA zK (ao 3) (qC (.int 7))) (dH jR (aA aO (ao 4) (qC (.int 2))))))))
 (bT (jy (gG (aV Eb (ak (aq 1) (ak (aA aO (ao 6) (qC (.int 1))) (ak (aV HJ (ak (aA aO (ao 6) (qC (.int 2))) (ak (aA aO (ao 7) (qC (.int 2))) au))) au)))))) (aU (qC (.bool false))) aW))) aW M1 [some (.dat (lI ns)),some (.dat (ob 0)),some (.dat (.int hd)),some (.dat (.int z)),some (.dat (qJ c)),y5,none,none,none,none,none]=.next [some (.dat (lI ns)),some (.dat (ob 0)),some (.dat (.int hd)),some (.dat (.int z)),some (.dat (qJ c)),y5,x6,x7,none,none,none] M1:=by
  by_cases e:c.held=[]
  ·rw[e]at n1
   exact⟨none,none,fun y5=>by simp at n1;simp[e,n1]⟩
  ·obtain⟨p,r1,m1,t1⟩:=Rp eZ c.held e z
   obtain⟨_,r2,m2,t2⟩:=Rp eZ c.held e (z / 7)
   have e0:(c.held.map eZ).isEmpty=false:=by simp[e]
   rw[e0]at n1
   obtain⟨_,v,j1⟩:=I.hE _ m1
   obtain⟨_,_,j2⟩:=I.hE _ m2
   have h6:=few _ v _ (wZ j1 j2)
   have h7:=adK M1 r1.2.2 r2.2.2 (by rw[dG j1];decide)
   have i1:∀r,aO (eZ r) (.int 1)=.ok (.int r.2.1):=fun _=>rfl
   have i2:∀r,aO (eZ r) (.int 2)=.ok (aJ r.2.2):=fun _=>rfl
   refine⟨some (.dat (eZ r1)),some (.dat (eZ r2)),fun y5=>?_⟩
   have hlm:(c.held.map eZ).length=c.held.length:=by simp
   have hll:=aeu c
   have p2:0 < c.held.length:=by omega
   generalize c.held.map eZ=H at *
   simp[-aeu,hll,n1,hlm,p2,t1,t2,q,i1,i2,h7,h6]
 obtain⟨x6,x7,hel⟩:=hel
 have hel:=hel y5
 by_cases e:c.bs.filter mk=[]
 ·have key:=key y5 x6 x7
  rw[e]at key n2
  simp at key n2
  refine⟨M1,?_⟩
  have b1:c.bs.length<=50000:=by omega
  have al2:(c.al.length:Int)<=100000:=by omega
  have al3 : -100000<=(c.al.length:Int):=by omega
  have al4:(fH 0 c.al.length).length<=50000:=by simp[fH];omega
  generalize ns.getD 0 0=z0 at *
  generalize ns.getD 1 0=z1 at *
  generalize ns.getD 2 0=z2 at *
  simp only[S7,Xq]
  simp[-Rf.ev_if,h0,cell0,cell1,hcl2,hhd,hz,h1,hc1,aQ,tD,l1,al2,al3,al4,gl,hel]
  simp[b1,key,n2]
 ·have key:=key y5 x6 x7
  obtain⟨p,r1,m1,t1⟩:=Rp iZ (c.bs.filter mk) e z
  obtain⟨_,r2,m2,t2⟩:=Rp iZ (c.bs.filter mk) e (z / 7)
  have e0:((c.bs.filter mk).map iZ).isEmpty=false:=by simp[e]
  rw[e0]at n2
  obtain⟨m1,k1⟩:=arh.mp m1
  obtain⟨m2,k2⟩:=arh.mp m2
  simp only[mk,aqW]at k1 k2
  obtain⟨d1,D1⟩:=Option.isSome_iff_exists.mp k1.2
  obtain⟨d2,D2⟩:=Option.isSome_iff_exists.mp k2.2
  have j1:=I.due _ m1 d1 D1
  have j2:=I.due _ m2 d2 D2
  obtain⟨v,dp⟩:=B _ m1
  have v:Vg c r1.sd.g:=v
  have h6:=few _ v _ (wZ j1 j2)
  have h7:=adK M1 d1 d2 (by rw[dG j1];decide)
  have h8:qR M1 [.int (ns.getD 2 0),.int 14,.int 10]=.ok (lI (rowOf (ns.getD 2 0) 14 10)):=R5 M1 _ 14 10 (by decide) (by decide) (by decide)
  have h9:=acr M1 c I.gr r1.sd.g v
  obtain⟨t,h10,h11,h12,h13⟩:=abK M1 d1 (rowOf (ns.getD 2 0) 14 10) (roomOf c r1.sd.g) j1 (Tj (by decide) _ _) (aeQ N1.rch I.gr v)
  have h14:=Y7 N1.at_ I (by decide) r1.sd.g v t h11
  have ho:r1.sd.o∈lG t (bK (cO c 0 r1.sd.g)) (roomOf c r1.sd.g):=by
   obtain⟨i,hi⟩:=List.getElem?_of_mem m1
   exact HW.mpr ⟨d1,dW.mpr (wW.mpr ⟨r1.sd.g,I.gr.self v,.inr ⟨i,r1,hi,k1.1,D1,rfl,rfl,by omega⟩⟩),h12,h13⟩
  rw[acN I NM1 v (dG h11) ho,hL1,hL]at h14
  have k3:pQ 10 M1 [aJ [r1.sd.o],.tuple [.int r1.sd.o]]=.ok (.bool true):=ahd M1 9 _ (by simp[lk,Ww])
  refine⟨M1,?_⟩
  have b1:c.bs.length<=50000:=by omega
  have al2:(c.al.length:Int)<=100000:=by omega
  have al3 : -100000<=(c.al.length:Int):=by omega
  have al4:(fH 0 c.al.length).length<=50000:=by simp[fH];omega
  have p2:0 < (c.bs.filter mk).length:=by omega
  have hlm:((c.bs.filter mk).map iZ).length=(c.bs.filter mk).length:=by simp
  generalize ns.getD 0 0=z0 at *
  generalize ns.getD 1 0=z1 at *
  generalize ns.getD 2 0=z2 at *
  generalize rowOf z2 14 10=fs at *
  generalize (c.bs.filter mk).map iZ=T at *
  generalize iV d1 d2=je at *
  generalize [r1.sd.o]=oo at *
  simp only[S7,Xq]
  simp[-Rf.ev_if,h0,cell0,cell1,hcl2,hhd,hz,h1,hc1,aQ,tD,l1,al2,al3,al4,gl,hel]
  simp[b1,key,n2,hlm,p2,t1,t2,q,D1,D2,sH,h7,h6,cell2,h8,h9,h10,hc1,aQ,j8,h14,k3]
end Pr
open PySem PySem.W PySem.Calls PyProof.Rows
set_option maxHeartbeats 0 in
theorem PySem.Challenge.cw_earmarks_k53_whole_any_ear_one_owner_holds : PySem.Challenge.rw_earmarks_k53_whole_any_ear_one_owner.Holds := by
 w_on;o_law
 refine HandSHeadRun.head_any (r:=OpenLaw.row PySem.Challenge.rw_earmarks_k53_whole_any_ear_one_owner) (q:=view (OpenLaw.row PySem.Challenge.rw_earmarks_k53_whole_any_ear_one_owner).prog [87]) (H:=Pr.hkE) (ob:=Pr.obE) (M:=40000) (loose:=Pr.nm) (d:=HandSHeadRun.topDef (OpenLaw.row PySem.Challenge.rw_earmarks_k53_whole_any_ear_one_owner).prog 87) (kwd:=[]) Pr.akf (by kernel_rfl) (fun s=>by kernel_rfl) Pr.run (by kernel_rfl) (by kernel_rfl) (by kernel_rfl) (by rfl) (by first | assumption | decide +kernel) (by decide +kernel) ⟨rfl,rfl,rfl,rfl,rfl,by decide +kernel⟩ ?hw ?hc
 case hw=>w_witness2
 case hc=>
  refine L2.walk_ofE (l:=PySem.Challenge.rw_earmarks_k53_whole_any_ear_one_owner) (n:=63) (k:=13) (x:="_law_script") (CX:=L2.CX0) rfl (by decide) (by kernel_rfl) ⟨rfl,by decide,by decide⟩ ?F (fun _ _ _ _ z=>z)
  intro w mg fa h Y G hmg0
  obtain⟨K,KX,c⟩:=Y
  have hmg:mg ("law" : PySem.Str)=some (.ref fa):=by
   have e:(HandSHeadRun.topDef (OpenLaw.row PySem.Challenge.rw_earmarks_k53_whole_any_ear_one_owner).prog 87).name=("law" : PySem.Str):=by kernel_rfl
   rw[←e]
   exact hmg0
  have T:Pr.Top w K mg:=⟨⟨h,KX,G⟩,c⟩
  have e:=hmg.symm.trans (T.glo 102)
  cases e
  obtain⟨fd,F⟩:=T.c.VN 102
  have b:=L2.FunD.bindsA (ps:=["_law_script"]) F fun _ _ _ _ _ _ us hl=>match us,hl with|[_],_=>rfl
  exact⟨K,fd,fun vs H Q _=>Rf.JN K (Pr.aj w K) 1 Pr.S7 vs H Q fun _ _ _=>False,KX,fun s v=>b s [v] rfl,fun H a ns hl _ hS=>(Pr.afx ns hl).elim fun _ z=>Rf.ame rfl hS z,fun base _ _=>Rf.abW (Pr.ami T F)⟩

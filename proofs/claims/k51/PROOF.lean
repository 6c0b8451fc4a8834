import PyProof.Rows.All
import Wide.All
import OpenK.AllK
import Wide.FinOn
import HandS.ForMost
import HandS.Evl
import HandS.Walk
import HandS.Zip
import HandS.IsInst
import HandS.Style
import HandS.FStr
import HandS.Strs
import HandS.TupAny
import HandS.Deep
import HandS.Exc
import HandS.TryOnly
import HandS.ExcOwn
import HandS.WordsExc
import KE.GoesMore
import KE.GoesEnum
import KE.DataMinMax
import KE.SortData
import HandS.SortKw
import HandS.TupSets
import HandS.SetBool
import KE.KeyNested
import PyProof.Transfer
import HandS.DictComp
import HandS.Conv
import KE.KDictKeyed
import HandS.ExcField
import HandS.ExcInit
import HandS.TryMany
import HandS.HeadHook4
import HandS.HeadHook3
import HandS.HeadHook2
import HandS.HeadHook1
import HandS.HeadEnd
import HandS.Head2
import HandS.Head1
import HandS.Head0
import KE.KStateDown
import HandS.Flow
import KE.KUnpackStar
import KE.GoesEnumKw
import KE.KTupSum
import PySem.Challenge.RW_earmarks_k51_whole_no_two_meet
set_option Elab.async false
set_option linter.all false
set_option maxRecDepth 100000
set_option maxHeartbeats 2000000
abbrev aqe:=@Option.bind_eq_some_iff
abbrev aqf:=@PySem.W.Frag
abbrev aqg:=@Bool.and_eq_true
abbrev aqh:=@List.getElem?_eq_some_iff
abbrev aqi:=@List.getElem?_eq_getElem
abbrev aqj:=@List.map_cons
abbrev aqk:=@List.mem_cons_of_mem
abbrev aql:=@List.mem_cons_self
abbrev aqm:=@List.mem_singleton
abbrev aqn:=@List.mem_of_getElem?
abbrev aqo:=@List.getElem?_set_ne
abbrev aqp:=@List.mem_append
abbrev aqq:=@List.getElem?_append_left
abbrev aqr:=@List.length_map
abbrev aqs:=@List.getElem?_map
abbrev aqt:=@List.mem_map
abbrev aqu:=@List.length_cons
abbrev aqv:=@List.mem_cons
abbrev aqw:=@List.length_filter_le
abbrev aqx:=@List.getElem?_set_self
abbrev aqy:=@List.getElem?_append_right
abbrev aqz:=@Bool.not_eq_true'
abbrev aqA:=@Option.some.inj
abbrev aqB:=@Function.comp_def
abbrev aqC:=@List.mem_filter
abbrev aqD:=@List.all_eq_true
abbrev aqE:=@List.ext_getElem?
abbrev aqF:=@Nat.le_refl
abbrev aqG:=@List.length_set
abbrev aqH:=@Nat.le_trans
abbrev aqI:=@List.lookup_cons
abbrev aqJ:=@List.getElem?_eq_none
abbrev aqK:=@List.map_map
abbrev aqL:=@List.mem_append_left
abbrev aqM:=@Bool.false_eq_true
abbrev aqN:=@Nat.ne_of_lt
abbrev aqO:=@List.not_mem_nil
abbrev aqP:=@Array.length_toList
abbrev aqQ:=@List.getElem_mem
abbrev aqR:=@Option.map_eq_some_iff
abbrev aqS:=@List.length_append
abbrev aqT:=@List.getElem?_mapIdx
abbrev aqU:=@List.filter_cons
abbrev aqV:=@List.all_cons
abbrev aqW:=@Nat.zero_le
abbrev aqX:=@Array.getElem?_toList
abbrev aqY:=@List.mem_append_right
abbrev aqZ:=@List.nodup_append
abbrev aq0:=@List.append_nil
abbrev aq1:=@List.drop_eq_getElem_cons
abbrev aq2:=@List.getElem?_zip_eq_some
abbrev aq3:=@List.map_nil
abbrev aq4:=@List.getElem?_set
abbrev aq5:=@List.drop_length
abbrev aq6:=@List.zip_cons_cons
abbrev aq7:=@Bool.eq_iff_iff
abbrev aq8:=@List.foldl_cons
abbrev aq9:=@List.any_cons
abbrev ara:=@Nat.lt_succ_of_lt
abbrev arb:=@List.mem_of_mem_take
abbrev ard:=@List.pairwise_mergeSort
abbrev arf:=@List.filter_filter
abbrev arh:=@List.any_map
abbrev ari:=@List.length_drop
abbrev arj:=@Nat.add_sub_cancel'
abbrev ark:=@Nat.add_left_cancel
abbrev arl:=@List.nodup_cons
abbrev arn:=@Bool.or_eq_true
abbrev aro:=@Nat.succ.inj
abbrev arp:=@List.drop_zero
namespace Rf
open PySem PySem.Spec PyProof.Rows L2 HandSHeadRun
abbrev Dat:=PyData
abbrev Ft:=List (Str×List Str)
structure Ly(fa:List He.Fa)(fn:List He.DefD)(tb:List He.Tab)(ex:aqf->Bool)(w:World)(K:aqf):Prop where
 t:He.SaysT fa fn tb w K
 more:ex K=true
def abC(as:List Addr)(fa:List He.Fa)(fn:List He.DefD)(tb:List He.Tab)(ex:aqf->Bool)(g:Addr->Option Obj):He.AlX:=(He.obsT fa fn tb (He.frG g as),ex (He.frG g as))
def abR(as:List Addr)(fa:List He.Fa)(fn:List He.DefD)(tb:List He.Tab)(ex:aqf->Bool):PySem.W.Hook where
 α:=He.AlX
 obs:=fun s=>abC as fa fn tb ex s.heap.get?
 val:=fun w=>He.valX fn tb w
 says:=fun w h=>∃K:aqf,K.In h/\Ly fa fn tb ex w K
 of:=fun w s e=>⟨_,He.frG_in,⟨congrArg (fun z:He.AlX=>z.1) e,congrArg (fun z:He.AlX=>z.2) e⟩⟩
 keeps:=fun _ _ _ ⟨K,hK,c⟩ k=>⟨K,PySem.W.Frag.In.keeps hK k,c⟩
theorem aht{as:List Addr}{fa:List He.Fa}{fn:List He.DefD}{tb:List He.Tab}{ex:aqf->Bool}{g:Addr->Option Obj}{s:Shared}(h:∀a,g a=s.heap.get? a):abC as fa fn tb ex g=(abR as fa fn tb ex).obs s:=by
 rw[show g=s.heap.get? from funext h]
 rfl
def JH(K:aqf)(ft:Ft):Bool:=ft.all fun p=>(He.Fa.cls p.1).ok K&&p.2.all fun f=>(He.Fa.noat p.1 f).ok K
def xmB(K:aqf)(xm:List (Str×List (Str×Bool))):Bool:=xm.all fun p=>p.2.all fun q=>(He.Fa.exm q.1 p.1 q.2).ok K
def aiU(K:aqf)(C:Addr):Bool:=(match K.lookup C with
 |some ⟨.type t,_,.cls cd,sl⟩=>decide (t="type")&&(match cd.mro,sl.toList with
  |.ref C'::bm,[_,_,_,_,some (.builtin n),_]=>decide (C'=C)&&(decide (n="ValueError.__new__")&&(!cd.hasDel&&(cd.hasDict&&PySem.HandSPX.refsVE bm)))
  |_,_=>false)
 |_=>false)&&(He.eqO (PySem.W.findIn K (.ref C) "__setattr__") (some (some (.builtin "object.__setattr__")))&&(decide (PySem.W.subIn K (.ref C) (.type "BaseException")=some true)&&(decide (PySem.W.typeIn K (.ref C)=some (.type "type"))&&PySem.W.keepIn K (.ref C))))
def T5(K:aqf)(x:Str)(fs:List Str):Bool:=aiU K (He.ga K x)&&(He.eqO (PySem.W.findIn K (.ref (He.ga K x)) "__init__") (some (some (.ref (He.ma K (He.ga K x) "__init__"))))&&(decide (PySem.W.typeIn K (.ref (He.ma K (He.ga K x) "__init__"))=some (.type "function"))&&(xfB K (He.ga K x)&&fs.all fun f=>He.eqO (PySem.W.findIn K (.ref (He.ga K x)) f) (some none))))
def WM(K:aqf)(a:Addr)(xs:List Str):Bool:=match K.lookup a with
 |some ⟨.type c,_,.seq its _,_⟩=>decide (c="tuple")&&(decide (its.size<=sizeLine)&&He.relAll (xs.map V.str) its.toList)
 |_=>false
def aek(K:aqf)(x:Str)(kvs:List (Str×List Str)):Bool:=(match K.lookup (He.ga K x) with
 |some ⟨_,_,.dict es _,_⟩=>es.toList.all (fun e=>(match e.key with
   |.str y _=>(kvs.map (·.1)).contains y
   |_=>false)&&!e.refKey)
 |_=>false)&&(decide ((kvs.map (·.1)).Nodup)&&kvs.all fun q=>match PySem.W.nsIn K (He.ga K x) q.1 with
  |some (some (.ref a))=>WM K a q.2
  |_=>false)
section
open PySem.W PySem.Calls
noncomputable abbrev ajB (r:PySem.W.OpenRow) (M:Nat) (w:World) (os:PySem.OsState):Option PySem.W.SharedT:=endF (stepQ (denQ tabQ) r.prog w) M r.prog w os
def ae6(r:PySem.W.OpenRow)(q:Program)(as:List Addr)(ex:aqf->Bool)(M:Nat)(loose:List Str)(w:World):Prop:=∀os,(ajB r M w os).map (fun s=>(looksF r.prog (boot_heap w.params) s.abs,HandSHeadRun.seenQ q loose (importedModules r.prog.main.body) (fun s=>PySem.W.xlAt q [] s&&PySem.W.recOk r.toRowW.records s) s.abs,ex (He.frG (getT s) as)))=some (true,PySem.W.openGood q loose,true)
def aec(r:PySem.W.OpenRow)(as:List Addr)(fa:List He.Fa)(fn:List He.DefD)(tb:List He.Tab)(M:Nat)(w:World):Prop:=∀os,(ajB r M w os).map (fun s=>He.obsT fa fn tb (He.frG (getT s) as))=some (He.valT fn tb w)
theorem U0{r:PySem.W.OpenRow}{q:Program}{as:List Addr}{fa:List He.Fa}{fn:List He.DefD}{tb:List He.Tab}{ex:aqf->Bool}{M:Nat}{loose:List Str}{w:World}
  (a:ae6 r q as ex M loose w) (c:aec r as fa fn tb M w):RunEq r q (abR as fa fn tb ex) (fun s=>abC as fa fn tb ex (getT s)) M loose w:=fun os=>by
 obtain⟨s,hs,h1⟩:=aqR.mp (a os)
 obtain⟨h1,h2⟩:=Prod.mk.inj h1
 obtain⟨h2,h4⟩:=Prod.mk.inj h2
 have h3:=c os
 have hs':endF (stepQ (denQ tabQ) r.prog w) M r.prog w os=some s:=hs
 rw[hs,Option.map_some]at h3
 have h3:=aqA h3
 rw[hs',Option.map_some]
 exact congrArg some (Prod.ext h1 (Prod.ext h2 (Prod.ext h3 h4)))
end
end Rf
namespace Pr
open PySem PySem.Spec PyProof.Rows L2 Evl Rf
def cQ:Dat:=.int 9
def iV:Dat:=.int 1
def j8:Dat:=.int 3
def gK:Dat:=.int 9
def iQ:Dat:=.tuple [.str "lt",.str "lf",.str "lh",.str "rt",.str "rf",.str "rh"]
def jw:Dat:=.tuple [.int 0,.int 0,.int 0,.int 0,.int 0,.int 0]
def oG:Dat:=.int 999999999
def yP:List (Str×List Str):=[("owner",[]),("ground",["number"]),("enrol",["number","number","ear"]),("leave",["number","number"]),("bring",["number","number","ear"]),("bear",["number"]),("cut",["number"]),("tear",["number","place"]),("sell",["number","number"]),("move",["number","number"]),("die",["number"]),("unite",["number","number"]),("part",["number"]),("pass",["number","number"]),("heir",["number","number","number"])]
def jU:Ft:=[("Beast",["story","mother","owner","ground","due","ear","alive"]),("Herd",["beasts"]),("Grounds",["allowances","circles"]),("Rights",["held"]),("Commons",["owner_count","holders","grounds","rights","herd"])]
def uf:List (Str×Bool):=[("NoGround",true),("NoOwner",true),("NoRight",true),("HasRight",true),("NoneFree",true),("BadExtra",true),("BadAllowance",true),("Clash",true),("BadEar",true),("Bare",true),("StillThere",true),("NoBeast",true),("Dead",true),("Unmarked",true),("Deepest",true),("NoPlace",true),("SameOwner",true),("SameGround",true),("Together",true),("Alone",true),("BadDeed",true)]
def xmH:List (Str×List (Str×Bool)):=[("CommonError",uf)]
def dfH:List (Str×Bool):=[("held",true),("holders",false)]
def Vz:List (Str×List Str):=[("Clash",["ones","others","ear"])]
def aX(i:Nat):Stmt:=PySem.Challenge.pw_earmarks_k51_whole_no_two_meet.main.body.getD i (.Pass ⟨0,0,0,0⟩)
abbrev FP:Stmt:=inClass (aX 50) 0
abbrev Jv:Stmt:=inClass (aX 55) 0
abbrev Nh:Stmt:=inClass (aX 35) 0
abbrev Ep:Stmt:=inClass (aX 66) 0
abbrev Jq:Stmt:=inClass (aX 34) 2
abbrev K7:Stmt:=inClass (aX 34) 4
abbrev CN:Stmt:=inClass (aX 66) 17
abbrev Bf:Stmt:=inClass (aX 55) 1
abbrev Fv:Stmt:=inClass (aX 50) 3
abbrev Jk:Stmt:=inClass (aX 50) 2
abbrev FZ:Stmt:=inClass (aX 50) 4
abbrev yh:Stmt:=inClass (aX 50) 5
abbrev zW:Stmt:=inClass (aX 50) 6
abbrev zK:Stmt:=inClass (aX 66) 19
abbrev Gy:Stmt:=inClass (aX 66) 32
abbrev s_row:Stmt:=aX 73
abbrev XS:Stmt:=aX 74
abbrev afC:Stmt:=aX 75
abbrev M7:Stmt:=aX 76
abbrev V2:Stmt:=aX 77
abbrev wV:Stmt:=inClass (aX 66) 33
abbrev Gx:Stmt:=inClass (aX 55) 3
abbrev zN:Stmt:=inClass (aX 55) 4
abbrev wu:Stmt:=inClass (aX 66) 34
abbrev xX:Stmt:=inClass (aX 66) 1
abbrev zG:Stmt:=inClass (aX 55) 2
abbrev acM:Stmt:=aX 47
abbrev aam:Stmt:=aX 44
abbrev Nb:Stmt:=aX 52
abbrev aaI:Stmt:=aX 45
abbrev adX:Stmt:=aX 46
abbrev JR:Stmt:=aX 53
abbrev wJ:Stmt:=inClass (aX 66) 35
abbrev YF:Stmt:=aX 57
abbrev Bc:Stmt:=inClass (aX 35) 5
abbrev GZ:Stmt:=inClass (aX 35) 6
abbrev xZ:Stmt:=inClass (aX 55) 7
abbrev uP:Stmt:=inClass (aX 66) 22
abbrev zU:Stmt:=inClass (aX 66) 21
abbrev Ey:Stmt:=inClass (aX 50) 7
abbrev Gp:Stmt:=inClass (aX 66) 18
abbrev Aa:Stmt:=inClass (aX 66) 15
abbrev xQ:Stmt:=inClass (aX 50) 1
abbrev wO:Stmt:=inClass (aX 66) 2
abbrev V3:Stmt:=aX 58
abbrev aaB:Stmt:=aX 43
abbrev QK:Stmt:=aX 59
abbrev wL:Stmt:=inClass (aX 66) 36
abbrev Zw:Stmt:=aX 28
abbrev Py:Stmt:=aX 65
abbrev Dz:Stmt:=inClass (aX 66) 3
abbrev Jo:Stmt:=inClass (aX 55) 5
abbrev Dk:Stmt:=inClass (aX 66) 4
abbrev BX:Stmt:=inClass (aX 34) 1
abbrev aao:Stmt:=aX 30
abbrev K6:Stmt:=inClass (aX 34) 0
abbrev Ce:Stmt:=inClass (aX 35) 1
abbrev DQ:Stmt:=inClass (aX 66) 5
abbrev KC:Stmt:=inClass (aX 35) 2
abbrev Jh:Stmt:=inClass (aX 35) 3
abbrev Jt:Stmt:=inClass (aX 35) 4
abbrev Fl:Stmt:=inClass (aX 66) 6
abbrev QX:Stmt:=aX 32
abbrev V1:Stmt:=aX 31
abbrev Eu:Stmt:=inClass (aX 34) 3
abbrev Jf:Stmt:=inClass (aX 66) 7
abbrev GD:Stmt:=inClass (aX 66) 8
abbrev Ju:Stmt:=inClass (aX 35) 8
abbrev zX:Stmt:=inClass (aX 35) 9
abbrev Fq:Stmt:=inClass (aX 66) 9
abbrev GX:Stmt:=inClass (aX 66) 10
abbrev Ji:Stmt:=inClass (aX 66) 11
abbrev Ri:Stmt:=aX 60
abbrev zB:Stmt:=inClass (aX 66) 24
abbrev Az:Stmt:=inClass (aX 50) 10
abbrev Dy:Stmt:=inClass (aX 50) 8
abbrev Dd:Stmt:=inClass (aX 66) 12
abbrev FW:Stmt:=inClass (aX 50) 9
abbrev Fo:Stmt:=inClass (aX 66) 13
abbrev zM:Stmt:=inClass (aX 55) 6
abbrev Lj:Stmt:=inClass (aX 35) 7
abbrev Bj:Stmt:=inClass (aX 66) 14
abbrev Np:Stmt:=aX 40
abbrev acq:Stmt:=aX 39
abbrev Lp:Stmt:=inClass (aX 66) 16
abbrev acE:Stmt:=aX 78
abbrev acI:Stmt:=aX 79
abbrev VF:Stmt:=aX 80
abbrev afQ:Stmt:=aX 81
abbrev acW:Stmt:=aX 82
abbrev abZ:Stmt:=aX 83
abbrev aea:Stmt:=aX 84
abbrev aaw:Stmt:=aX 85
abbrev QD:Stmt:=aX 86
abbrev adx:Stmt:=aX 68
abbrev Vj:Stmt:=aX 69
abbrev Vf:Stmt:=aX 70
abbrev aay:Stmt:=aX 71
abbrev aft:Stmt:=aX 72
abbrev ab1:Stmt:=aX 87
abbrev Ls:Stmt:=aX 88
abbrev Ku:Stmt:=inClass (aX 23) 0
abbrev dM(c m q:Str)(s:Stmt):He.DefD:=⟨(c,some m),m,q,defArgs s,defBody s,defScope s,[],[]⟩
abbrev dF(x:Str)(s:Stmt):He.DefD:=⟨(x,none),x,x,defArgs s,defBody s,defScope s,[],[]⟩
def xsH:List Str:=["Grounds","Rights","Herd","Commons","Beast","NoGround","NoOwner","NoRight","HasRight","NoneFree","BadExtra","BadAllowance","Clash","BadEar","Bare","StillThere","NoBeast","Dead","Unmarked","Deepest","NoPlace","SameOwner","SameGround","Together","Alone","BadDeed","CommonError"]
def tbs:List He.Tab:=[(fun K=>He.ga K "SHAPES",["owner","ground","enrol","leave","bring","bear","cut","tear","sell","move","die","unite","part","pass","heir"])]
def nm0:List PySem.Str:=["_wall","CommonError","BadEar","Bare","BadAllowance","BadExtra","NoPlace","Deepest","NoOwner","NoGround","NoBeast","NoRight"]
def nm1:List PySem.Str:=["HasRight","StillThere","Dead","Unmarked","SameOwner","SameGround","Together","Alone","NoneFree","BadDeed","Clash","PLACES"]
def nm2:List PySem.Str:=["GREATEST_DEPTH","BARE_EAR","is_ear","begun","gone_on","deepened","Beast","Herd","SHAPES","GREATEST_PART","fits","part_fits"]
def nm3:List PySem.Str:=["deeper","joint","lacks","apart","meet","torn","GREATEST_ALLOWANCE","Grounds","offspring","first_free","Rights","tidied"]
def nm4:List PySem.Str:=["barring","ask_room","clashing","owners_of","FEWEST_EXTRA","MOST_EXTRA","need_ear","Commons","_law_once","_law_rows_of","_law_room_of","_law_tears"]
def nm5:List PySem.Str:=["_law_far","_law_row","_law_ear_by","_law_ear","_law_begun","_law_word_by","_law_done","_law_near","_law_mark_by","_law_ref","_law_deed","_law_play"]
def nm6:List PySem.Str:=["_law_cell","_law_whole","_law_like","_law_fine"]
def nm:List PySem.Str:=nm0++nm1++nm2++nm3++nm4++nm5++nm6
def fa0:List He.Fa:=[.mkr "Grounds",.mkr "Rights",.mkr "Herd",.mkr "Commons",.meth "Beast" "stand",.meth "Beast" "told",.meth "Commons" "owners",.meth "Rights" "all_rows",.meth "Grounds" "many",.meth "Grounds" "has",.meth "Grounds" "need",.meth "Grounds" "allowance"]
def fa1:List He.Fa:=[.meth "Grounds" "together",.meth "Commons" "together",.meth "Commons" "look",.glo "_law_row",.glo "_law_ear_by",.glo "_law_ear",.glo "_law_begun",.glo "_law_word_by",.meth "Commons" "need_owner",.meth "Rights" "marks",.meth "Rights" "has_right",.meth "Commons" "need_right"]
def fa2:List He.Fa:=[.meth "Commons" "new_owner",.meth "Rights" "add_right",.glo "torn",.glo "lacks",.glo "offspring",.glo "apart",.glo "meet",.glo "first_free",.meth "Commons" "first_mark",.glo "tidied",.meth "Herd" "all_living",.meth "Herd" "grazing"]
def fa3:List He.Fa:=[.meth "Rights" "in_grounds",.meth "Commons" "standing_but",.meth "Commons" "standing",.meth "Grounds" "room",.meth "Commons" "room",.meth "Commons" "new_heir",.meth "Grounds" "add_ground",.meth "Commons" "new_ground",.glo "barring",.glo "joint",.glo "ask_room",.meth "Commons" "ask_ground"]
def fa4:List He.Fa:=[.glo "is_ear",.glo "need_ear",.meth "Commons" "enrol",.meth "Rights" "drop",.meth "Commons" "leave",.meth "Beast" "stand_so",.glo "begun",.mkr "Beast",.meth "Herd" "add_beast",.meth "Commons" "bring",.meth "Herd" "known",.meth "Herd" "living"]
def fa5:List He.Fa:=[.meth "Herd" "marked",.meth "Commons" "bear",.glo "deepened",.glo "gone_on",.meth "Beast" "befall",.meth "Commons" "cut",.meth "Commons" "tear",.meth "Herd" "calves",.meth "Herd" "lead_calves",.meth "Commons" "sell",.meth "Commons" "move",.meth "Commons" "die"]
def fa6:List He.Fa:=[.glo "clashing",.meth "Commons" "quarrels",.meth "Grounds" "enclose",.meth "Grounds" "unite",.meth "Commons" "unite",.meth "Grounds" "part",.meth "Commons" "part",.meth "Rights" "hand_over",.meth "Herd" "owned",.meth "Commons" "pass_on",.glo "part_fits",.glo "fits"]
def fa7:List He.Fa:=[.meth "Commons" "do",.glo "_law_done",.glo "_law_near",.glo "_law_mark_by",.glo "_law_ref",.glo "_law_deed",.glo "_law_play",.glo "_law_cell",.glo "_law_whole",.glo "_law_like",.glo "_law_once",.glo "_law_rows_of"]
def fa8:List He.Fa:=[.glo "_law_room_of",.glo "_law_tears",.glo "_law_far",.glo "_law_fine",.glo "law",.glo "Grounds",.glo "Rights",.glo "Herd",.glo "Commons",.glo "Beast",.glo "NoGround",.exc "NoGround"]
def fa9:List He.Fa:=[.glo "NoOwner",.exc "NoOwner",.glo "NoRight",.exc "NoRight",.glo "HasRight",.exc "HasRight",.glo "NoneFree",.exc "NoneFree",.glo "BadExtra",.exc "BadExtra",.glo "BadAllowance",.exc "BadAllowance"]
def ams:List He.Fa:=[.glo "Clash",.glo "BadEar",.exc "BadEar",.glo "Bare",.exc "Bare",.glo "StillThere",.exc "StillThere",.glo "NoBeast",.exc "NoBeast",.glo "Dead",.exc "Dead",.glo "Unmarked"]
def amt:List He.Fa:=[.exc "Unmarked",.glo "Deepest",.exc "Deepest",.glo "NoPlace",.exc "NoPlace",.glo "SameOwner",.exc "SameOwner",.glo "SameGround",.exc "SameGround",.glo "Together",.exc "Together",.glo "Alone"]
def amB:List He.Fa:=[.exc "Alone",.glo "BadDeed",.exc "BadDeed",.glo "CommonError",.exc "CommonError",.glo "SHAPES",.int "GREATEST_DEPTH" 9,.int "FEWEST_EXTRA" 1,.int "MOST_EXTRA" 3,.int "GREATEST_ALLOWANCE" 9,.glo "PLACES",.glo "BARE_EAR"]
def amC:List He.Fa:=[.int "GREATEST_PART" 999999999,.free "tuple",.free "list",.free "len",.free "range",.free "abs",.free "max",.free "min",.free "sum",.free "zip",.free "any",.free "sorted"]
def ame:List He.Fa:=[.free "set",.free "enumerate",.free "all",.free "isinstance",.free "int",.free "bool",.free "str"]
def fa:List He.Fa:=fa0++fa1++fa2++fa3++fa4++fa5++fa6++fa7++fa8++fa9++ams++amt++amB++amC++ame
def fn0:List He.DefD:=[dM "Grounds" "__init__" "Grounds.__init__" FP,dM "Rights" "__init__" "Rights.__init__" Jv,dM "Herd" "__init__" "Herd.__init__" Nh,dM "Commons" "__init__" "Commons.__init__" Ep,dM "Beast" "stand" "Beast.stand" Jq,dM "Beast" "told" "Beast.told" K7,dM "Commons" "owners" "Commons.owners" CN,dM "Rights" "all_rows" "Rights.all_rows" Bf,dM "Grounds" "many" "Grounds.many" Fv,dM "Grounds" "has" "Grounds.has" Jk,dM "Grounds" "need" "Grounds.need" FZ,dM "Grounds" "allowance" "Grounds.allowance" yh]
def fn1:List He.DefD:=[dM "Grounds" "together" "Grounds.together" zW,dM "Commons" "together" "Commons.together" zK,dM "Commons" "look" "Commons.look" Gy,dF "_law_row" s_row,dF "_law_ear_by" XS,dF "_law_ear" afC,dF "_law_begun" M7,dF "_law_word_by" V2,dM "Commons" "need_owner" "Commons.need_owner" wV,dM "Rights" "marks" "Rights.marks" Gx,dM "Rights" "has_right" "Rights.has_right" zN,dM "Commons" "need_right" "Commons.need_right" wu]
def fn2:List He.DefD:=[dM "Commons" "new_owner" "Commons.new_owner" xX,dM "Rights" "add_right" "Rights.add_right" zG,dF "torn" acM,dF "lacks" aam,dF "offspring" Nb,dF "apart" aaI,dF "meet" adX,dF "first_free" JR,dM "Commons" "first_mark" "Commons.first_mark" wJ,dF "tidied" YF,dM "Herd" "all_living" "Herd.all_living" Bc,dM "Herd" "grazing" "Herd.grazing" GZ]
def fn3:List He.DefD:=[dM "Rights" "in_grounds" "Rights.in_grounds" xZ,dM "Commons" "standing_but" "Commons.standing_but" uP,dM "Commons" "standing" "Commons.standing" zU,dM "Grounds" "room" "Grounds.room" Ey,dM "Commons" "room" "Commons.room" Gp,dM "Commons" "new_heir" "Commons.new_heir" Aa,dM "Grounds" "add_ground" "Grounds.add_ground" xQ,dM "Commons" "new_ground" "Commons.new_ground" wO,dF "barring" V3,dF "joint" aaB,dF "ask_room" QK,dM "Commons" "ask_ground" "Commons.ask_ground" wL]
def fn4:List He.DefD:=[dF "is_ear" Zw,dF "need_ear" Py,dM "Commons" "enrol" "Commons.enrol" Dz,dM "Rights" "drop" "Rights.drop" Jo,dM "Commons" "leave" "Commons.leave" Dk,dM "Beast" "stand_so" "Beast.stand_so" BX,dF "begun" aao,dM "Beast" "__init__" "Beast.__init__" K6,dM "Herd" "add_beast" "Herd.add_beast" Ce,dM "Commons" "bring" "Commons.bring" DQ,dM "Herd" "known" "Herd.known" KC,dM "Herd" "living" "Herd.living" Jh]
def fn5:List He.DefD:=[dM "Herd" "marked" "Herd.marked" Jt,dM "Commons" "bear" "Commons.bear" Fl,dF "deepened" QX,dF "gone_on" V1,dM "Beast" "befall" "Beast.befall" Eu,dM "Commons" "cut" "Commons.cut" Jf,dM "Commons" "tear" "Commons.tear" GD,dM "Herd" "calves" "Herd.calves" Ju,dM "Herd" "lead_calves" "Herd.lead_calves" zX,dM "Commons" "sell" "Commons.sell" Fq,dM "Commons" "move" "Commons.move" GX,dM "Commons" "die" "Commons.die" Ji]
def fn6:List He.DefD:=[dF "clashing" Ri,dM "Commons" "quarrels" "Commons.quarrels" zB,dM "Grounds" "enclose" "Grounds.enclose" Az,dM "Grounds" "unite" "Grounds.unite" Dy,dM "Commons" "unite" "Commons.unite" Dd,dM "Grounds" "part" "Grounds.part" FW,dM "Commons" "part" "Commons.part" Fo,dM "Rights" "hand_over" "Rights.hand_over" zM,dM "Herd" "owned" "Herd.owned" Lj,dM "Commons" "pass_on" "Commons.pass_on" Bj,dF "part_fits" Np,dF "fits" acq]
def fn7:List He.DefD:=[dM "Commons" "do" "Commons.do" Lp,dF "_law_done" acE,dF "_law_near" acI,dF "_law_mark_by" VF,dF "_law_ref" afQ,dF "_law_deed" acW,dF "_law_play" abZ,dF "_law_cell" aea,dF "_law_whole" aaw,dF "_law_like" QD,dF "_law_once" adx,dF "_law_rows_of" Vj]
def fn8:List He.DefD:=[dF "_law_room_of" Vf,dF "_law_tears" aay,dF "_law_far" aft,dF "_law_fine" ab1,dF "law" Ls,dM "Clash" "__init__" "Clash.__init__" Ku]
def fn:List He.DefD:=fn0++fn1++fn2++fn3++fn4++fn5++fn6++fn7++fn8
def exB(K:aqf):Bool:=true&&JH K jU&&xmB K xmH&&(Vz.all fun p=>xsH.contains p.1&&T5 K p.1 p.2)&&aek K "SHAPES" yP&&He.tupB K "PLACES" [.str "lt",.str "lf",.str "lh",.str "rt",.str "rf",.str "rh"]&&He.tupB K "BARE_EAR" [.int 0,.int 0,.int 0,.int 0,.int 0,.int 0]
def ad0:List Addr:=[3,31,44,56,68,80,92,104,116,128,140,152,164,176,188,200,212,224,236,248,260,272,291,294]
def ad1:List Addr:=[295,300,307,314,319,364,447,452,472,479,484,489,494,501,508,513,596,605,610,670,681,686,693,698]
def ad2:List Addr:=[703,710,969,980,985,990,995,1002,1009,1014,1021,1028,1035,1042,1049,1056,1063,1070,1077,1084,1091,1098,1105,1112]
def ad3:List Addr:=[30,43,55,67,79,91,103,115,127,139,151,163,175,187,199,211,223,235,247,259,271,290,299,306]
def ad4:List Addr:=[313,318,363,446,453,454,455,456,457,458,459,460,461,462,463,464,465,466,467,471,478,483,488,493]
def ad5:List Addr:=[500,507,512,595,604,609,669,680,685,692,697,702,709,968,979,984,989,994,1001,1008,1013,1020,1027,1034]
def ad6:List Addr:=[1041,1048,1055,1062,1069,1076,1083,1090,1097,1104,1111,29,32,42,54,66,78,90,102,114,126,138,150,162]
def ad7:List Addr:=[174,186,198,210,222,234,246,258,270,288,289,333,340,347,354,361,362,365,366,382,389,396,403,410]
def ad8:List Addr:=[415,420,425,430,437,444,445,448,449,527,534,541,548,555,562,569,574,581,586,593,594,597,598,624]
def ad9:List Addr:=[631,638,643,650,657,662,667,668,671,672,724,731,738,745,750,757,764,771,778,785,792,799,806,813]
def alY:List Addr:=[818,825,832,839,846,853,860,867,872,879,886,893,900,907,914,919,926,933,938,945,952,959,966,967]
def al9:List Addr:=[970,971,287,332,339,346,353,360,381,388,395,402,409,414,419,424,429,436,443,526,533,540,547,554]
def amy:List Addr:=[561,568,573,580,585,592,623,630,637,642,649,656,661,666,723,730,737,744,749,756,763,770,777,784]
def amD:List Addr:=[791,798,805,812,817,824,831,838,845,852,859,866,871,878,885,892,899,906,913,918,925,932,937,944]
def amG:List Addr:=[951,958,965]
def ad:List Addr:=ad0++ad1++ad2++ad3++ad4++ad5++ad6++ad7++ad8++ad9++alY++al9++amy++amD++amG
abbrev R:PySem.W.OpenRow:=PySem.W.OpenLaw.row PySem.Challenge.rw_earmarks_k51_whole_no_two_meet
abbrev hkE:PySem.W.Hook:=abR ad fa fn tbs exB
def obE(s:PySem.W.SharedT):He.AlX:=abC ad fa fn tbs exB (HandSHeadRun.getT s)
theorem ai1(s:PySem.W.SharedT):obE s=hkE.obs s.abs:=aht (HandSHeadRun.getT_eq s)
abbrev wR(w:World)(b:Bool):World:=w.withFollow "special-get-raises" b
theorem alk(w:World):ae6 R (PySem.W.view R.prog [88]) ad exB 40000 nm (wR w false):=by
 intro os
 kernel_rfl
theorem akN(w:World):aec R ad fa fn tbs 40000 (wR w false):=by
 intro os
 kernel_rfl
theorem runAt(w:World):ae6 R (PySem.W.view R.prog [88]) ad exB 40000 nm (wR w true):=by
 intro os
 kernel_rfl
theorem akF(w:World):aec R ad fa fn tbs 40000 (wR w true):=by
 intro os
 kernel_rfl
theorem run(w:World):HandSHeadRun.RunEq R (PySem.W.view R.prog [88]) hkE obE 40000 nm w:=PySem.W.byRow2 "special-get-raises" (P:=fun w=>HandSHeadRun.RunEq R (PySem.W.view R.prog [88]) hkE obE 40000 nm w) (fun w=>U0 (alk w) (akN w)) (fun w=>U0 (runAt w) (akF w)) w
end Pr
namespace Ear
open PySem PySem.Spec PyProof.Rows L2 Evl RZ
section
variable{X:Cx}{C:Addr}{bmB:List Value}{B newId initId:String}
theorem aeO{x:Str}{p pos:Pos}(F:ExcBaseFacts B newId initId bmB)(q:PySem.W.excIn X.K C bmB newId=true)(gC:X.mg x=some (.ref C))(kC:PySem.W.keepIn X.K (.ref C)=true)(r:Raises X (.ref C))(hg:Gl X x)
  (hn:(x==("__debug__" : Str))=false:=by decide):PMk X (.Call (.Name x p) [] [] pos) (fun _ H Q=>Q (.ref C) none H):=by
 intro pins s σ H Q I h
 refine wpAny_Call_Name_kw (ld_glob I hg gC ?_ hn)
 refine PySem.W.callWith_K0 I.kIn kC ?_
 show wpAny _ _ (call (.ref C) []) _ _ _
 obtain⟨bm,N,nm,qn,bs,hdct,sn,sub,ab,col,dd,k0,k1,k2,k3,k5,mN,hC,hN,hni,T⟩:=exc_obj I.kIn q
 refine wpAny_call_exc_subT F T hC hN hni (fun h' e hm=>?_) (aqW _)
 exact mk_of I hm r h (I.hok.gone hm.new)
end
theorem exm_one{K:aqf}{S:Addr}(h1:PySem.W.subIn K (.ref S) (.type "BaseException")=some true)(h2:PySem.W.isClsIn K S=true)(h3:PySem.W.typeIn K (.ref S)=some (.type "type"))(h4:PySem.W.subIn K (.ref S) (.ref S)=some true) :
  PySem.W.exmOne K (.ref S) (.ref S)=some true:=by
 have e1:(PySem.W.subIn K (.ref S) (.type "BaseException")==some true)=true:=by rw[h1] <;> rfl
 have e2:((PySem.W.clsIn K S).isSome&&PySem.W.typeIn K (.ref S)==some (.type "type"))=true:=by
  rw[h3,aqg]
  exact⟨h2,rfl⟩
 show(if (PySem.W.subIn K (.ref S) (.type "BaseException")==some true)=true then(if ((PySem.W.clsIn K S).isSome&&PySem.W.typeIn K (.ref S)==some (.type "type"))=true then PySem.W.subIn K (.ref S) (.ref S) else none) else none)=some true
 rw[if_pos e1,if_pos e2]
 exact h4
def amh(xs:List Int):Prop:=xs.length=6/\∀x∈xs,0<=x/\x<=9
section
variable{K:aqf}{σ:L2.St}{H:Hp}{te tl:TE}{tt:TT}{vs:List Nat}
def EvS(te:TE)(σ:L2.St)(H:Hp)(P:V->Hp->Prop):Prop:=∀H1,Ex H H1->∀Q:VK,(∀v H2,Ex H1 H2->P v H2->Q v H2)->te σ H1 Q
end
section
variable{K:aqf}{σ:L2.St}{H H':Hp}{te ta tb:TE}{t:TT}{P R:V->Hp->Prop}{v:V}
theorem EvS.mono(e:Ex H H')(h:EvS te σ H P):EvS te σ H' P:=fun H1 a Q q=>h H1 (e.trans a) Q q
theorem EvS.imp(h:EvS te σ H P)(k:∀v H',P v H'->R v H'):EvS te σ H R:=fun H1 e Q q=>h H1 e Q fun v H2 e2 p=>q v H2 e2 (k v H2 p)
end
end Ear
namespace Ear
open PySem PySem.Spec PyProof.Rows L2 Evl RZ
def eY{α:Type}(R:V->α->Prop)(ws:List V)(L:List α):Prop:=ws.length=L.length/\∀(i:Nat) (v:V) (x:α),ws[i]?=some v->L[i]?=some x->R v x
theorem eY.imp{α:Type}{R S:V->α->Prop}{ws:List V}{L:List α}(h:eY R ws L)(k:∀v x,R v x->S v x):eY S ws L:=⟨h.1,fun i v x a b=>k v x (h.2 i v x a b)⟩
theorem eY.nil{α:Type}{R:V->α->Prop}:eY R [] []:=⟨rfl,fun i v x a _=>by simp at a⟩
theorem eY.snoc{α:Type}{R:V->α->Prop}{ws:List V}{L:List α}{v:V}{x:α}(h:eY R ws L)(k:R v x):eY R (ws++[v]) (L++[x]):=by
 refine⟨by rw[aqS,aqS,h.1];rfl,fun i u y a b=>?_⟩
 by_cases hi:i < ws.length
 ·rw[aqq hi]at a
  rw[aqq (by rw[←h.1];exact hi)]at b
  exact h.2 i u y a b
 ·rw[aqy (by omega)]at a
  rw[aqy (by rw[←h.1];omega),←h.1]at b
  have hj:i - ws.length=0:=by
   have:=(aqh.mp a).1
   simp only[aqu,List.length_nil]at this
   omega
  rw[hj]at a b
  cases a
  cases b
  exact k
def Il(H:Hp)(v:V)(l:List Int):Prop:=∃h:Addr,v=.ref h/\H h=some (.tup (l.map V.int))
theorem Il.mono{H H':Hp}(e:Ex H H'){v:V}{l:List Int}(h:Il H v l):Il H' v l:=by
 obtain⟨a,e1,h1⟩:=h
 exact⟨a,e1,e _ _ h1⟩
theorem Il.upd{H:Hp}{D:Addr}{acc:List V}{o:HO}(hD:H D=some (.lst acc)){v:V}{l:List Int}(h:Il H v l):Il (upd H D o) v l:=by
 obtain⟨a,e1,h1⟩:=h
 refine⟨a,e1,?_⟩
 rw[upd_ne (fun z=>by rw[z,hD]at h1;cases h1)]
 exact h1
abbrev Rw:Type:=Int×List Int
def LC(H:Hp)(v:V)(r:Rw):Prop:=∃t m:Addr,v=.ref t/\H t=some (.tup [.int r.1,.ref m])/\H m=some (.tup (r.2.map V.int))
theorem LC.mono{H H':Hp}(e:Ex H H'){v:V}{r:Rw}(h:LC H v r):LC H' v r:=by
 obtain⟨t,m,e1,h1,h2⟩:=h
 exact⟨t,m,e1,e _ _ h1,e _ _ h2⟩
theorem LC.upd{H:Hp}{D:Addr}{acc:List V}{o:HO}(hD:H D=some (.lst acc)){v:V}{r:Rw}(h:LC H v r):LC (upd H D o) v r:=by
 obtain⟨t,m,e1,h1,h2⟩:=h
 refine⟨t,m,e1,?_,?_⟩
 ·rw[upd_ne (fun z=>by rw[z,hD]at h1;cases h1)]
  exact h1
 ·rw[upd_ne (fun z=>by rw[z,hD]at h2;cases h2)]
  exact h2
def ak3(r:Rw):Prop:=1<=r.1/\amh r.2
structure Tab(R:List Rw):Prop where
 len:R.length<=128
 ok:∀r∈R,ak3 r
 few:∃D:List Rw,D.length<=64/\∀r∈R,r∈D
theorem Tab.sub{R S:List Rw}(h:Tab R)(hs:∀r∈S,r∈R)(hl:S.length<=128):Tab S:=by
 obtain⟨D,d1,d2⟩:=h.few
 exact⟨hl,fun r hr=>h.ok r (hs r hr),D,d1,fun r hr=>d2 r (hs r hr)⟩
theorem eY.get{α:Type}{R:V->α->Prop}{ws:List V}{L:List α}(h:eY R ws L){i:Nat}{v:V}(g:ws[i]?=some v):∃x,L[i]?=some x/\R v x:=by
 have hi:=(aqh.mp g).1
 have hi':i < L.length:=by
  rw[←h.1]
  exact hi
 exact⟨L[i],aqi hi',h.2 i v _ g (aqi hi')⟩
theorem eY.mem{α:Type}{R:V->α->Prop}{ws:List V}{L:List α}(h:eY R ws L){v:V}(m:v∈ws):∃x,x∈L/\R v x:=by
 obtain⟨i,hi,e⟩:=List.getElem_of_mem m
 obtain⟨x,g,r⟩:=h.get (aqh.mpr ⟨hi,e⟩)
 exact⟨x,aqn g,r⟩
theorem eY.take{α:Type}{R:V->α->Prop}{ws:List V}{L:List α}(h:eY R ws L)(n:Nat):eY R (ws.take n) (L.take n):=by
 refine⟨by rw[List.length_take,List.length_take,h.1],fun i v x a b=>?_⟩
 rw[List.getElem?_take]at a b
 by_cases c:i < n
 ·rw[if_pos c]at a b
  exact h.2 i v x a b
 ·rw[if_neg c]at a
  cases a
theorem eY.drop{α:Type}{R:V->α->Prop}{ws:List V}{L:List α}(h:eY R ws L)(n:Nat):eY R (ws.drop n) (L.drop n):=by
 refine⟨by rw[ari,ari,h.1],fun i v x a b=>?_⟩
 rw[List.getElem?_drop]at a b
 exact h.2 _ v x a b
section
variable{X:Cx}
def aeF(xs:List V)(ds:List PyData)(x:V)(d:PyData):Prop:=∃i:Nat,xs[i]?=some x/\ds[i]?=some d
@[irreducible]def Hv (K:aqf):List V->Hp->VK->Prop:=fun vs H Q=>∃(a:Addr) (xs:List V) (ds:List PyData),vs=[V.ref a]/\SqL K H a xs/\DpAll K H xs ds/\PySem.W.AllAlike ds/\PySem.W.Sortable ds/\(∀d∈ds,d.depth<=60)/\
 ∀(ys:List V) (p:Addr),eY (aeF xs ds) ys (ds.mergeSort (PySem.W.dataLe false id))->H p=none->Q (.ref p) (upd H p (.lst ys))
theorem X3:∀(xs:List V) (ds:List PyData) (its:List Value) (P:Value->PyData->Prop),Vals xs its->PySem.W.EachIs P its ds->
  PySem.W.EachIs (fun v d=>∃(i:Nat) (x:V),RelV x v/\xs[i]?=some x/\ds[i]?=some d) its ds
 |[],_,_,_,.nil,.nil=>.nil
 |_::_,[],_,_,.cons _ _,k=>nomatch k
 |x::xs,d::ds,u::us,P,.cons r t,.cons _ k=>.cons ⟨0,x,r,rfl,rfl⟩ ((X3 xs ds us P t k).mono fun v d ⟨i,y,a,b,c⟩=>⟨i+1,y,a,b,c⟩)
theorem VG{xs:List V}{ds:List PyData}:∀(out:List Value) (L:List PyData),PySem.W.EachIs (fun v d=>∃(i:Nat) (x:V),RelV x v/\xs[i]?=some x/\ds[i]?=some d) out L->∃ys,Vals ys out/\eY (aeF xs ds) ys L
 |[],[],.nil=>⟨[],.nil,eY.nil⟩
 |v::out,d::L,.cons ⟨i,x,r,a,b⟩ k=>by
  obtain⟨ys,h1,h2⟩:=VG out L k
  refine⟨x::ys,.cons r h1,by rw[aqu,aqu,h2.1],fun j u y g1 g2=>?_⟩
  cases j with
  |zero=>
   cases g1
   cases g2
   exact⟨i,a,b⟩
  |succ j=>exact h2.2 j u y g1 g2
theorem abp(hu:X.A.units+65 < cLine):CallR X (.builtin "sorted") (Hv X.K):=by
 intro pins s σ H vs us Q I r h
 unfold Hv at h
 obtain⟨a,xs,ds,rfl,hs,hd,hal,hk,hz,q⟩:=h
 obtain⟨u,rfl,ru⟩:=vals1 r
 obtain rfl:u=Value.ref a:=ru
 obtain⟨its,rv,hl,hsz⟩:=I.list hs
 obtain⟨as,hr⟩:=Dp.readsAll I ds xs its hd rv
 have er:PySem.W.EachIs (fun v d=>∃as,Reads s.heap v (id d) as) its ds:=PySem.W.readsAll_each id (by rw[List.map_id];exact hr)
 have hn:=SeqAt.ReadsAll.length ds its as hr
 have hl2:=rv.length
 refine PySem.W.sorted_data (enc:=id) hl.isList (X3 xs ds its _ rv er) er (by rw[List.map_id];exact hal) (by rw[List.map_id];exact hk) (by omega) (fun d m=>?_) fun out hlen hout=>?_
 ·have:=hz d m
  show X.A.units+2+d.depth < cLine
  omega
 ·obtain⟨ys,v1,v2⟩:=VG out _ hout
  obtain⟨ep,he'⟩:=PyProof.Rows.sortedAll_at s.heap its out.toArray
  have hy:ys.length=ds.length:=by
   rw[v2.1,List.length_mergeSort]
  refine⟨.ref _,upd H (s.heap.objs.size+1) (.lst ys),I.laid (t':=s.toks) (fun _ _=>PyProof.Rows.sortedAll_old) (Nat.le_succ _) ⟨by omega,out,ep,v1,by simpa using he'⟩,rfl,q ys _ v2 (I.hok.fresh (Nat.le_succ _))⟩
end
@[irreducible]def Ra (K:aqf):R2:=fun x y H Q=>∃d e:PyData,Dp K H x d/\Dp K H y e/\PySem.W.alike d e=true/\d≠.none/\d.depth<=60/\Q (.bl (PySem.W.dataLt d e)) H
theorem aeR{X:Cx}(hu:X.A.units+65 < cLine):OpR X (compareOp .Lt) (Ra X.K):=by
 intro pins s σ H x y v u Q I rx ry h
 unfold Ra at h
 obtain⟨d,e,hd,he,ha,hn,hz,q⟩:=h
 obtain⟨as,r1⟩:=Dp.reads I d x v hd rx
 obtain⟨bs,r2⟩:=Dp.reads I e y u he ry
 exact PySem.W.lt_data r1 r2 ha hn (by omega) ⟨.bl _,H,I,rfl,q⟩
def EvR(te:TE)(σ:L2.St)(H:Hp)(P:List V->Hp->Prop):Prop:=∀H1,Ex H H1->∀Q:VK,(∀p H2 us,Ex H1 H2->H2 p=some (.lst us)->P us H2->Q (.ref p) H2)->te σ H1 Q
def EvM(te:TE)(σ:L2.St)(H:Hp)(P:List V->Hp->Prop):Prop:=∀H1,Ex H H1->∀Q:VK,(∀p H2 us,H1 p=none->Ex H1 H2->H2 p=some (.lst us)->P us H2->Q (.ref p) H2)->te σ H1 Q
structure aiZ{α:Type}(Rel:Hp->V->α->Prop):Prop where
 mono:∀{H H':Hp} {v:V} {x:α},Ex H H'->Rel H v x->Rel H' v x
 upd:∀{H:Hp} {D:Addr} {acc:List V} {o:HO} {v:V} {x:α},H D=some (.lst acc)->Rel H v x->Rel (upd H D o) v x
theorem eY.mono{α:Type}{Rel:Hp->V->α->Prop}(S:aiZ Rel){H H':Hp}(e:Ex H H'){ws:List V}{L:List α}(h:eY (Rel H) ws L):eY (Rel H') ws L:=h.imp fun _ _ r=>S.mono e r
theorem eY.upd{α:Type}{Rel:Hp->V->α->Prop}(S:aiZ Rel){H:Hp}{D:Addr}{acc:List V}{o:HO}(hD:H D=some (.lst acc)){ws:List V}{L:List α}(h:eY (Rel H) ws L):eY (Rel (upd H D o)) ws L:=h.imp fun _ _ r=>S.upd hD r
section
variable{K:aqf}{σ:L2.St}{H:Hp}{te tl:TE}{tt:TT}{vs:List Nat}{α:Type}
theorem EvM.r{P:List V->Hp->Prop}(h:EvM te σ H P):EvR te σ H P:=fun H1 e Q q=>h H1 e Q fun p H2 us _ a b c=>q p H2 us a b c
theorem EvM.imp{P R:List V->Hp->Prop}(h:EvM te σ H P)(k:∀us H',P us H'->R us H'):EvM te σ H R:=fun H1 e Q q=>h H1 e Q fun p H2 us n a b c=>q p H2 us n a b (k us H2 c)
end
theorem W7:∀a b:List Int,PyData.eqvAll (a.map PyData.int) (b.map PyData.int)=decide (a=b)
 |[],[]=>by rw[aq3,PyData.eqvAll];rfl
 |[],y::ys=>by rw[aq3,aqj,PyData.eqvAll];rfl
 |x::xs,[]=>by rw[aq3,aqj,PyData.eqvAll];rfl
 |x::xs,y::ys=>by
  rw[aqj,aqj,PyData.eqvAll,W7 xs ys,PyData.eqv,aq7]
  simp
def dT(l:List Int):PyData:=.tuple (l.map PyData.int)
theorem lay_ints:∀l:List Int,PyData.canLayAll0 (l.map PyData.int)=true/\PyData.depthAll (l.map PyData.int)=0
 |[]=>⟨by rw[aq3,PyData.canLayAll0],by rw[aq3,PyData.depthAll]⟩
 |x::xs=>by
  have ih:=lay_ints xs
  refine⟨?_,?_⟩
  ·rw[aqj,PyData.canLayAll0,PyData.canLay0,ih.1]
   rfl
  ·rw[aqj,PyData.depthAll,PyData.depth,ih.2]
   rfl
def rD(r:Rw):PyData:=.tuple [.int r.1,dT r.2]
theorem adf(r:Rw):(rD r).canLay0=true/\(rD r).depth=2:=by
 have h:=lay_ints r.2
 unfold rD dT
 refine⟨?_,?_⟩
 ·rw[PyData.canLay0,PyData.canLayAll0,PyData.canLayAll0,PyData.canLayAll0,PyData.canLay0,PyData.canLay0,h.1]
  rfl
 ·rw[PyData.depth,PyData.depthAll,PyData.depthAll,PyData.depthAll,PyData.depth,PyData.depth,h.2]
  rfl
def rk(r:Rw):List Int:=r.1::r.2
theorem adC:PySem.W.rowLt [] []=false:=PyProof.Rows.lex_irrefl _
theorem agO(l m:List Int):PySem.W.rowLt [dT l] [dT m]=decide (l < m):=by
 have al:PySem.W.alike (dT l) (dT m)=true:=by
  unfold dT
  rw[PySem.W.alike]
  exact PySem.W.alike_ints l m
 have ev:PyData.eqv (dT l) (dT m)=decide (l=m):=by
  unfold dT
  rw[PyData.eqv,W7]
 have h:PySem.W.rowLt [dT l] [dT m]=if PyData.eqv (dT l) (dT m)=true then PySem.W.rowLt [] [] else PySem.W.dataLt (dT l) (dT m):=PySem.W.dataLt_cons al [] []
 rw[h,ev,adC]
 by_cases c:l=m
 ·rw[if_pos (decide_eq_true c),c]
  exact(decide_eq_false (List.lt_irrefl _)).symm
 ·rw[if_neg (by rw[decide_eq_true_eq];exact c)]
  show PySem.W.dataLt (.tuple (l.map PyData.int)) (.tuple (m.map PyData.int))=_
  rw[PySem.W.dataLt_tuple]
  exact PySem.W.dataLt_ints l m
theorem ZX(x y:Int)(ds es:List PyData)(l m:List Int)(h:PySem.W.rowLt ds es=decide (l < m)):PySem.W.rowLt (.int x::ds) (.int y::es)=decide (x::l < y::m):=by
 have al:PySem.W.alike (.int x) (.int y)=true:=by rw[PySem.W.alike]
 have h2:PySem.W.rowLt (.int x::ds) (.int y::es)=if PyData.eqv (.int x) (.int y)=true then PySem.W.rowLt ds es else PySem.W.dataLt (.int x) (.int y):=PySem.W.dataLt_cons al ds es
 rw[h2,h,PySem.W.dataLt_int,PyData.eqv]
 by_cases c:x=y
 ·subst c
  rw[if_pos (by simp),aq7,decide_eq_true_eq,decide_eq_true_eq,List.cons_lt_cons_iff]
  constructor
  ·exact fun k=>Or.inr ⟨rfl,k⟩
  ·rintro(k|k)
   ·omega
   ·exact k.2
 ·rw[if_neg (by simpa using c),aq7,decide_eq_true_eq,decide_eq_true_eq,List.cons_lt_cons_iff]
  constructor
  ·exact Or.inl
  ·rintro(k|k)
   ·exact k
   ·exact absurd k.1 c
theorem ahR(a b:Rw):PySem.W.dataLt (rD a) (rD b)=decide (rk a < rk b):=by
 unfold rD
 rw[PySem.W.dataLt_tuple]
 exact ZX _ _ _ _ _ _ (agO a.2 b.2)
theorem Vc(a b:Rw):PySem.W.alike (rD a) (rD b)=true:=by
 unfold rD dT
 rw[PySem.W.alike,PySem.W.alikeAll,PySem.W.alikeAll,PySem.W.alike,PySem.W.alike,PySem.W.alike_ints,PySem.W.alikeAll]
 rfl
theorem eY.map{α β:Type}{P:V->β->Prop}(f:α->β){ws:List V}{L:List α}(h:eY (fun v x=>P v (f x)) ws L):eY P ws (L.map f):=by
 refine⟨by rw[aqr,h.1],fun i v x a b=>?_⟩
 rw[aqs]at b
 obtain⟨y,hy,e⟩:=aqR.mp b
 rw[←e]
 exact h.2 i v y a hy
theorem Zm{a b:Rw}(h:rk a=rk b):a=b:=by
 unfold rk at h
 injection h with h1 h2
 exact Prod.ext h1 h2
def Fd(S:List Rw):Prop:=S.Pairwise fun a b=>rk a < rk b
theorem adE:∀{S T:List Rw},Fd S->Fd T->(∀r,r∈S↔r∈T)->S=T
 |[],[],_,_,_=>rfl
 |[],t::T,_,_,h=>absurd ((h t).mpr aql) (by simp)
 |s::S,[],_,_,h=>absurd ((h s).mp aql) (by simp)
 |s::S,t::T,hs,ht,h=>by
  obtain⟨hs1,hs2⟩:=List.pairwise_cons.mp hs
  obtain⟨ht1,ht2⟩:=List.pairwise_cons.mp ht
  have e:s=t:=by
   rcases aqv.mp ((h s).mp aql) with e|m
   ·exact e
   ·rcases aqv.mp ((h t).mpr aql) with e2|m2
    ·exact e2.symm
    ·exact absurd (ht1 s m) (List.lt_asymm (hs1 t m2))
  subst e
  have hn:∀{L:List Rw},(∀r∈L,rk s < rk r)->s∉L:=fun hL m=>List.lt_irrefl _ (hL s m)
  rw[adE hs2 ht2 fun r=>?_]
  constructor
  ·intro m
   rcases aqv.mp ((h r).mp (aqk _ m)) with e|m2
   ·rw[e]at m
    exact absurd m (hn hs1)
   ·exact m2
  ·intro m
   rcases aqv.mp ((h r).mpr (aqk _ m)) with e|m2
   ·rw[e]at m
    exact absurd m (hn ht1)
   ·exact m2
theorem K8(a b:Rw):PySem.W.dataLe false rD a b=decide (rk a<=rk b):=by
 show(!PySem.W.dataLt (rD b) (rD a))=_
 rw[ahR,aq7,aqz,decide_eq_false_iff_not,decide_eq_true_eq]
 exact List.not_lt
theorem ac9{α β:Type}{R:α->β->Prop}{as cs:List α}(p:as.Perm cs):∀{bs:List β},PySem.W.EachIs R as bs->∃ds,ds.Perm bs/\PySem.W.EachIs R cs ds:=by
 induction p with
 |nil=>
  intro bs h
  cases h
  exact⟨[],List.Perm.refl _,.nil⟩
 |cons x _ ih=>
  intro bs h
  cases h with
  |cons r t=>
   obtain⟨ds,h1,h2⟩:=ih t
   exact⟨_::ds,h1.cons _,.cons r h2⟩
 |swap x y l=>
  intro bs h
  cases h with
  |cons r t=>
   cases t with
   |cons r2 t2=>exact⟨_,List.Perm.swap _ _ _,.cons r2 (.cons r t2)⟩
 |trans _ _ ih1 ih2=>
  intro bs h
  obtain⟨ds,a1,a2⟩:=ih1 h
  obtain⟨es,b1,b2⟩:=ih2 a2
  exact⟨es,b1.trans a1,b2⟩
section
variable{P:Program}{w:World}{A:Around}{E:Value->Shared->Prop}{s:Shared}
theorem ZD{β:Type}{a:Addr}{es:Array (Int×Value)}{ep:Nat}{t:SetTable}{enc:β->PyData}{bs:List β}{R:Value->β->Prop}{Q:Value->Shared->Prop}(hh:A.handled=none)(ha:SetAt s.heap a es ep t)(hf:t.fits es.size=true)(hsz:es.size < scanBound)(hr:Ris t.place.toList)
  (hl:w.params.followText "set-order"=true∨t.led=true) (e:PySem.W.EachIs (fun v b=>R v b/\∃as,Reads s.heap v (enc b) as) (es.toList.map (·.2)) bs) (hal:PySem.W.AllAlike (bs.map enc)) (hk:PySem.W.Sortable (bs.map enc)) (hu:∀b∈bs,A.units+2+(enc b).depth < cLine)
  (hQ:∀(s':Shared) (p:Addr) (out:List Value) (c:Nat) (cs:List β),(∀b o,s.heap.get? b=some o->s'.heap.get? b=some o)->s'.gens=s.gens->s'.os=s.os->s.heap.objs.size<=p->s'.heap.get? p=some (seqObj "list" out.toArray c)->
   cs.Perm bs->PySem.W.EachIs R out (cs.mergeSort (PySem.W.dataLe false enc))->Q (.ref p) s') :
  wpAny (model P w) A (call (.builtin "sorted") [.ref a]) Q E s:=by
 refine Calls.call_function_entry kind_sorted plain_sorted entry_sorted (args_sorted1 _) ?_
 unfold Builtin.«sorted»
 refine wpAny_bind (m:=checkCount "sorted" 1 1 _) (wpAny_pure ?_)
 refine wpAny_bind (collect_set (A:=A.in1) hh ha hf hsz hr hl fun t1 vals kept grown g1 o1 pm=>?_)
 obtain⟨cs,pc,ec⟩:=ac9 pm.symm e
 have lc:vals.length=cs.length:=ec.length
 have lb:cs.length=bs.length:=pc.length_eq
 have lz:vals.length<=sizeLine:=by
  rw[pm.length_eq,aqr,aqP,sizeLine_eq]
  unfold scanBound at hsz
  omega
 refine wpAny_bind (wpAny_newList ?_ lz)
 have here:(t1.heap.push (seqObj "list" vals.toArray 0)).get? t1.heap.objs.size=some (seqObj "list" vals.toArray 0):=Heap.get?_push_size _ rfl
 have stays:∀b o,s.heap.get? b=some o->(t1.heap.push (seqObj "list" vals.toArray 0)).get? b=some o:=fun b o q=>Heap.get?_push_of_some _ (kept b o q)
 have al:PySem.W.AllAlike (cs.map enc):=fun d hd d' hd'=>hal d ((pc.map enc).mem_iff.mp hd) d' ((pc.map enc).mem_iff.mp hd')
 have sk:PySem.W.Sortable (cs.map enc):=by
  rcases hk with k|k
  ·exact .inl fun d hd=>k d ((pc.map enc).mem_iff.mp hd)
  ·exact .inr fun d hd=>k d ((pc.map enc).mem_iff.mp hd)
 refine wpAny_bind (wpAny_holding (PySem.W.list_sort_data (s:={ t1 with heap:=t1.heap.push (seqObj "list" vals.toArray 0) }) (enc:=enc) here (ec.mono fun v b h=>h.1) (ec.mono fun v b ⟨_,as,r⟩=>⟨as,PySem.W.reads_keeps stays r,fun m=>?rd⟩) al sk (by omega) (fun b hb=>?un) fun out lo eo=>?fin))
 case rd=>
  obtain⟨o,q⟩:=PyProof.On.reads_mem_get r _ m
  have hlt:t1.heap.objs.size < s.heap.objs.size:=Heap.lt_size q
  exact absurd grown (Nat.not_le_of_lt hlt)
 case fin=>
  obtain⟨c,hc⟩:=sortedHeap_at (vs:=vals) (out:=out.toArray) here
  refine wpAny_pure ⟨_,rfl,hQ _ t1.heap.objs.size out c cs (fun b o q=>?_) g1 o1 grown hc pc eo⟩
  have hlt:=Heap.lt_size (kept b o q)
  show(sortedHeap (t1.heap.push (seqObj "list" vals.toArray 0)) t1.heap.objs.size vals out.toArray).get? b=some o
  rw[sortedHeap_old (aqN hlt) (by rw[size_push'];exact ara hlt)]
  exact stays b o q
 case un=>
  have:=hu b (pc.mem_iff.mp hb)
  show A.in1.units+1+_ < _
  have e1:A.in1.units=A.units+1:=rfl
  omega
end
section
variable{P:Program}{w:World}{A:Around}{E:Value->Shared->Prop}{s:Shared}
def nk(r:Rw):NestedKey:=.tup [.num r.1,.tup (r.2.map .num)]
theorem Xr:∀a b:List Int,a.map NestedKey.num=b.map NestedKey.num->a=b
 |[],[],_=>rfl
 |[],_::_,h=>by cases h
 |_::_,[],h=>by cases h
 |x::a,y::b,h=>by
  rw[aqj,aqj]at h
  injection h with h1 h2
  injection h1 with h1
  rw[h1,Xr a b h2]
theorem acy{a b:Rw}(h:nk a=nk b):a=b:=by
 unfold nk at h
 injection h with h
 injection h with h1 h
 injection h with h2 _
 injection h1 with h1
 injection h2 with h2
 exact Prod.ext h1 (Xr _ _ h2)
theorem RB:∀l:List Int,NestedKey.depthAll (l.map .num)=0
 |[]=>by rw[aq3,NestedKey.depthAll]
 |x::l=>by
  rw[aqj,NestedKey.depthAll,NestedKey.depth,RB l]
  rfl
theorem ael(r:Rw):(nk r).depth=2:=by
 unfold nk
 rw[NestedKey.depth,NestedKey.depthAll,NestedKey.depthAll,NestedKey.depthAll,NestedKey.depth,NestedKey.depth,RB]
 rfl
def nJ(P:Program)(w:World):HeapKind P w Rw where
 is:=fun h r a=>(nestedKind P w).is h (nk r) a
 hash:=fun r=>(nestedKind P w).hash (nk r)
 draws:=fun r=>(nestedKind P w).draws (nk r)
 room:=(nestedKind P w).room
 inj:=fun hx hy=>acy ((nestedKind P w).inj hx hy)
 keeps:=fun x ho hd hs=>(nestedKind P w).keeps x ho hd hs
 pyHash:=fun hu hk h=>(nestedKind P w).pyHash hu hk h
 eqBool:=fun {A E s x y a b Q} hu hx hy h=>(nestedKind P w).eqBool hu hx hy (by
  have e:decide (nk x=nk y)=decide (x=y):=by
   rw[decide_eq_decide]
   exact⟨acy,fun h=>by rw[h]⟩
  rw[e]
  exact h)
 quiet:=fun hk h=>(nestedKind P w).quiet hk h
abbrev RI(h:Heap)(r:Rw)(a:Addr):Prop:=NestedIs h (nk r) (.ref a)/\(nk r).depth<=8
theorem Sq{h h':Heap}{r:Rw}{a:Addr}(x:RI h r a)(k:∀c o,h.get? c=some o->h'.get? c=some o):RI h' r a:=⟨NestedIs.at (fun b o _ _ e _=>k b o e) _ _ x.1,x.2⟩
theorem Yi{h h':Heap}{r:Rw}{a d:Addr}{o:Obj}{es:Array (Int×Value)}{ep:Nat}{t:SetTable}(x:RI h r a)(ho:h.get? d=some o)(hd:o.data=.set es ep t)(sb:Heap.SameBut d h h'):RI h' r a:=by
 refine⟨NestedIs.at (fun b ob vs n hb hc=>(sb.2 b fun e=>?_).trans hb) _ _ x.1,x.2⟩
 subst e
 obtain rfl:ob=o:=aqA (hb.symm.trans ho)
 rw[hd]at hc
 cases hc
theorem HF{h:Heap}{i:Int}{v:Value}(x:NestedIs h (.num i) v)(n:Nat):ofAClassStatement n v=pure false/\hashByValue n v=pure true:=by
 cases x with
 |bool _=>cases n <;> exact⟨rfl,rfl⟩
 |int _ t=>cases n <;> exact⟨rfl,rfl⟩
theorem Xm{h:Heap}:∀(l:List Int) (vs:List Value),NestedAll h (l.map .num) vs->∀v∈vs,∃i,NestedIs h (.num i) v
 |[],_,x,v,hv=>by
  cases x
  cases hv
 |i::l,_,x,v,hv=>by
  rw[aqj]at x
  cases x with
  |cons x1 x2=>
   rcases aqv.mp hv with e|hv
   ·exact⟨i,by rw[e];exact x1⟩
   ·exact Xm l _ x2 v hv
theorem aad{n:Nat}{a:Addr}{o:Obj}{vs:Array Value}{m:Nat}(ho:s.heap.get? a=some o)(hc:o.cls=.type "tuple")(hd:o.data=.seq vs m)(hq:∀v∈vs.toList,∀(E:Value->Shared->Prop) (Q:Bool->Shared->Prop),Q false s->wpAny (model P w) A (ofAClassStatement n v) Q E s){Q:Bool->Shared->Prop}(q:Q false s) :
  wpAny (model P w) A (ofAClassStatement (n+1) (.ref a)) Q E s:=by
 have hT:s.TypeIs (.ref a) "tuple":=⟨o,ho,hc⟩
 unfold ofAClassStatement
 refine wpAny_bind (wpAny_typeOf hT ?_)
 dsimp only
 have eq1:(("tuple" : String)=="tuple")=true:=by decide
 simp only[eq1,if_true,Bool.not_true,aqM,if_false]
 try refine wpAny_bind (wpAny_pure ?_)
 try simp only[Bool.not_true,aqM,if_false]
 refine wpAny_bind (wpAny_seqItems ho hd ?_)
 dsimp only
 refine wpAny_bind ?_
 rw[←Array.forIn_toList]
 refine wpAny_forIn_list _ (fun left r u=>r.1=none/\u=s/\∀v∈left,v∈vs.toList) _ ?_ ?_ _ _ ⟨rfl,rfl,fun v hv=>hv⟩
 ·rintro v left r u ⟨hr,rfl,hall⟩
  refine wpAny_bind (hq v (hall v aql) _ _ ?_)
  simp only[aqM,if_false]
  exact wpAny_pure ⟨rfl,rfl,fun y hy=>hall y (aqk _ hy)⟩
 ·rintro⟨r1,r2⟩ u ⟨hr,rfl,_⟩
  simp only at hr
  subst hr
  exact wpAny_pure q
theorem Xl{n:Nat}{a:Addr}{o:Obj}{vs:Array Value}{m:Nat}(ho:s.heap.get? a=some o)(hc:o.cls=.type "tuple")(hd:o.data=.seq vs m)(hq:∀v∈vs.toList,∀(E:Value->Shared->Prop) (Q:Bool->Shared->Prop),Q true s->wpAny (model P w) A (hashByValue n v) Q E s){Q:Bool->Shared->Prop}(q:Q true s) :
  wpAny (model P w) A (hashByValue (n+1) (.ref a)) Q E s:=by
 have hT:s.TypeIs (.ref a) "tuple":=⟨o,ho,hc⟩
 unfold hashByValue
 refine wpAny_bind (wpAny_specialOf hT PySem.F.slot_tuple_hash.lookup ?_)
 show wpAny _ _ (seqItems? (.ref a) >>= _) _ _ s
 refine wpAny_bind (wpAny_seqItems ho hd ?_)
 refine wpAny_bind ?_
 show wpAny _ _ (forIn vs _ _) _ _ s
 rw[←Array.forIn_toList]
 refine wpAny_forIn_list _ (fun left r u=>r.1=none/\u=s/\∀v∈left,v∈vs.toList) _ ?_ ?_ _ _ ⟨rfl,rfl,fun v hv=>hv⟩
 ·rintro v left r u ⟨hr,rfl,hall⟩
  refine wpAny_bind (hq v (hall v aql) _ _ ?_)
  simp only[Bool.not_true,aqM,if_false]
  exact wpAny_pure ⟨rfl,rfl,fun y hy=>hall y (aqk _ hy)⟩
 ·rintro⟨r1,r2⟩ u ⟨hr,rfl,_⟩
  simp only at hr
  subst hr
  exact wpAny_pure q
theorem Jb{r:Rw}{a:Addr}(x:RI s.heap r a):(∀{Q:Bool->Shared->Prop},Q false s->wpAny (model P w) A (ofAClassStatement 8 (.ref a)) Q E s)/\∀{Q:Bool->Shared->Prop},Q true s->wpAny (model P w) A (hashByValue 8 (.ref a)) Q E s:=by
 obtain⟨x,_⟩:=x
 unfold nk at x
 cases x with
 | @tup _ o vs m _ ho hc hd x=>
  have items:∀v∈vs.toList,(∃i,NestedIs s.heap (.num i) v)∨∃b,v=.ref b/\∃o us k,s.heap.get? b=some o/\o.cls=.type "tuple"/\o.data=.seq us k/\∀u∈us.toList,∃i,NestedIs s.heap (.num i) u:=by
   generalize vs.toList=l at x
   cases x with
   |cons x1 x=>
    cases x with
    |cons x2 x=>
     cases x
     intro v hv
     rcases aqv.mp hv with e|hv
     ·exact Or.inl ⟨_,by rw[e];exact x1⟩
     ·have e:=aqm.mp hv
      cases x2 with
      |tup k1 k2 k3 k4=>exact Or.inr ⟨_,e,_,_,_,k1,k2,k3,Xm _ _ k4⟩
  refine⟨fun q=>aad ho hc hd (fun v hv E' Q' q'=>?_) q,fun q=>Xl ho hc hd (fun v hv E' Q' q'=>?_) q⟩
  ·rcases items v hv with⟨i,y⟩|⟨b,rfl,o',us,k,k1,k2,k3,k4⟩
   ·rw[(HF y 7).1]
    exact wpAny_pure q'
   ·refine aad k1 k2 k3 (fun u hu E2 Q2 q2=>?_) q'
    obtain⟨i,y⟩:=k4 u hu
    rw[(HF y 6).1]
    exact wpAny_pure q2
  ·rcases items v hv with⟨i,y⟩|⟨b,rfl,o',us,k,k1,k2,k3,k4⟩
   ·rw[(HF y 7).2]
    exact wpAny_pure q'
   ·refine Xl k1 k2 k3 (fun u hu E2 Q2 q2=>?_) q'
    obtain⟨i,y⟩:=k4 u hu
    rw[(HF y 6).2]
    exact wpAny_pure q2
end
abbrev Ent:Type:=Addr×Rw
section
variable{P:Program}{w:World}{A:Around}{E:Value->Shared->Prop}{s:Shared}
def ents(hf:Rw->Int)(L:List Ent):List (Int×Value):=L.map fun p=>(hf p.2,Value.ref p.1)
structure qF(hf:Rw->Int)(w:World)(h:Heap)(a:Addr)(L:List Ent)(es:Array (Int×Value))(ep:Nat)(t:SetTable):Prop where
 ob:∃o,h.get? a=some o/\o.ExactSet/\o.data=.set es ep t
 en:es.toList=ents hf L
 tab:TabOk t (L.map fun p=>hf p.2)
 nd:(L.map Prod.snd).Nodup
 ky:∀p∈L,RI h p.2 p.1
 pl:t.plain=true
 ld:w.params.followText "set-order"=true∨t.led=true
 free:L.length * 5 < t.mask * 3
 few:L.length<=76
variable{hf:Rw->Int}{a:Addr}{L:List Ent}{es:Array (Int×Value)}{ep:Nat}{t:SetTable}
theorem yN(h:es.toList=ents hf L):es.size=L.length:=by
 rw[←aqP,h]
 exact aqr _
theorem Mx(h:es.toList=ents hf L){i:Nat}{p:Ent}(g:L[i]?=some p):es[i]?=some (hf p.2,Value.ref p.1):=by
 rw[←aqX,h]
 unfold ents
 rw[aqs,g]
 rfl
theorem fits_of(h1:t.place.size=es.size)(h2:t.dummies=#[])(h3:es.size<=t.mask):t.fits es.size=true:=by
 unfold SetTable.fits SetTable.fill
 rw[h2,aqg,beq_iff_eq,decide_eq_true_eq]
 exact⟨h1,by show t.place.size+0<=t.mask;omega⟩
theorem qF.fits(R:qF hf w s.heap a L es ep t):t.fits es.size=true:=by
 have l1:=yN R.en
 have l2:=R.tab.sz
 rw[aqr]at l2
 have l3:=R.free
 exact fits_of (by omega) R.tab.dm (by omega)
theorem qF.sound(R:qF hf w s.heap a L es ep t):¬t.gaveWay=true:=by
 unfold SetTable.gaveWay
 rw[mask_odd R.tab.mok]
 decide
theorem aj9{r:Rw}{b:Addr}{Q:Bool->Shared->Prop}(hx:RI s.heap r b){ys:List Value}(hy:∀y∈ys,∃q c,y=Value.ref c/\RI s.heap q c)(q:Q false s):wpAny (model P w) A (searchCouldBeSeen (.ref b) ys) Q E s:=by
 unfold searchCouldBeSeen
 refine wpAny_bind ?_
 refine wpAny_forIn_list _ (fun left r u=>r.1=none/\u=s/\∀y∈left,∃q c,y=Value.ref c/\RI s.heap q c) _ ?_ ?_ _ _ ⟨rfl,rfl,hy⟩
 ·rintro v left r u ⟨hr,rfl,hall⟩
  obtain⟨q',c,rfl,hc⟩:=hall v aql
  have more:∀y∈left,∃q c,y=Value.ref c/\RI u.heap q c:=fun y m=>hall y (aqk _ m)
  dsimp only
  by_cases hv:(b==c || (carriedByValue (.ref b)&&carriedByValue (.ref c)))=true
  ·exact wp_if_pos hv (wpAny_pure ⟨rfl,rfl,more⟩)
  ·refine wp_if_neg hv ?_
   refine wpAny_bind ((nJ P w).quiet hx ?_)
   simp only[Bool.not_true,aqM,if_false]
   refine wpAny_bind ((nJ P w).quiet hc ?_)
   simp only[Bool.not_true,aqM,if_false]
   refine wpAny_bind ((Jb hx).1 ?_)
   simp only[aqM,if_false]
   refine wpAny_bind ((Jb hc).1 ?_)
   simp only[aqM,if_false]
   exact wpAny_pure ⟨rfl,rfl,more⟩
 ·rintro⟨r1,r2⟩ u ⟨hr,rfl,_⟩
  simp only at hr
  subst hr
  exact wpAny_pure q
abbrev uH(m:Nat)(h:Int)(c:Nat):SetTable.Probe:=nth m (runAt m (SetTable.bits h % (m+1)) (SetTable.bits h)) c
theorem Zz(m:Nat)(h:Int)(c:Nat):(uH m h c).dummy=none:=by
 have all:∀(n:Nat) (p:SetTable.Probe),p.dummy=none->(nth m p n).dummy=none:=by
  intro n
  induction n with
  |zero=>exact fun p k=>k
  |succ n ih=>
   intro p k
   refine ih (adv m p) ?_
   unfold adv
   split <;> exact k
 exact all c _ rfl
theorem VB(m:Nat)(h:Int)(c d:Nat):nth m (uH m h c) d=uH m h (c+d):=(nth_add m c _ d).symm
theorem seek(R:qF hf w s.heap a L es ep t){x:Addr}{r:Rw}(hx:RI s.heap r x){h:Int}(hh:hf r=h)(hu:(nJ P w).room A){N:Nat}(hN:N < 10 * SetTable.turns t.mask)(out:way t.mask (h) N∉t.place.toList)(inn:∀c,c < N->way t.mask (h) c∈t.place.toList){Q:SetFound->Shared->Prop}
  (yes:r∈L.map Prod.snd->Q (.there none) s) (no:r∉L.map Prod.snd->Q (.free (way t.mask (h) N) false) s) :
  ∀(f c:Nat) (st:Option SetTable.Probe),st.getD (t.probeStart (h))=uH t.mask (h) c->c<=N->N - c < f->
   (∀(i:Nat) (p:Ent),L[i]?=some p->p.2=r->∃d,c<=d/\d < N/\t.place.toList[i]?=some (way t.mask (h) d))->
   wpAny (model P w) A (setSearchFrom a (.ref x) (h) true f st) Q E s:=by
 intro f
 induction f with
 |zero=>exact fun _ _ _ _ hfl _=>absurd hfl (Nat.not_lt_zero _)
 |succ f ih=>
  intro c st hst hc hfl left
  obtain⟨o,ho,hex,hd⟩:=R.ob
  rw[setSearchFrom_succ]
  refine wpAny_bind (wpAny_setState_of ho hd R.fits ?_)
  dsimp only
  refine wp_if_neg R.sound ?_
  try refine wpAny_bind (wpAny_pure ?_)
  have jAt:∀d,(nth t.mask (uH t.mask h c) d).j=way t.mask h (c+d):=fun d=>congrArg SetTable.Probe.j (VB t.mask h c d)
  have hashOf:∀(i:Nat) (p:Ent),L[i]?=some p->(es[i]?.map (·.1)).getD 0=hf p.2:=fun i p g=>by
   rw[Mx R.en g]
   rfl
  have spec:=go_spec t R.tab.ris R.tab.dm (fun i=>(es[i]?.map (·.1)).getD 0) h (10 * SetTable.turns t.mask) (N - c) (uH t.mask h c) (Zz _ _ _) (by omega) (fun d hdn=>by rw[jAt];exact inn (c+d) (by omega)) (by rw[jAt,arj hc];exact out)
  rcases spec with⟨d,i,hdn,hi,hhi,hno,hpr⟩|⟨hno,hpr⟩
  ·have hpr':t.probe (fun i=>(es[i]?.map (·.1)).getD 0) h (st.getD (t.probeStart h))=some (.candidate (way t.mask h (c+d)) i (uH t.mask h (c+(d+1)))):=by
    rw[hst,←jAt,←VB]
    exact hpr
   rw[hpr']
   dsimp only
   rw[jAt]at hi
   have hil:i < L.length:=by
    have k1:=(aqh.mp hi).1
    have k2:=R.tab.sz
    rw[aqr]at k2
    rw[aqP]at k1
    omega
   obtain⟨p,hp⟩:∃p,L[i]?=some p:=⟨_,aqi hil⟩
   have pm:=aqn hp
   have go:wpAny (model P w) A (searchRest a (.ref x) h true f es t (way t.mask h (c+d)) i (uH t.mask h (c+(d+1)))) Q E s:=by
    unfold searchRest
    rw[Mx R.en hp]
    dsimp only
    refine wpAny_bind (wpAny_holding ((nJ P w).eqBool hu (R.ky p pm) hx ?_))
    refine wpAny_bind (wpAny_setState_of ho hd R.fits ?_)
    dsimp only
    by_cases same:p.2=r
    ·exact wp_if_pos (by simp[same]) (wpAny_pure (yes (aqt.mpr ⟨p,pm,same⟩)))
    ·refine wp_if_neg (by simp[same]) ?_
     try refine wpAny_bind (wpAny_pure ?_)
     rw[sameMem]
     dsimp only
     have live:t.slot (way t.mask h (c+d))=.live i:=slot_live R.tab.ris hi
     simp only[if_true,live,Mx R.en hp]
     refine wpAny_bind (wpAny_isSame_ref_self (wpAny_bind (wpAny_pure ?_)))
     simp only[if_true]
     refine wp_if_neg (by simp[same]) ?_
     refine ih (c+(d+1)) _ rfl (by omega) (by omega) fun i0 p0 g0 e0=>?_
     obtain⟨d0,a1,a2,a3⟩:=left i0 p0 g0 e0
     refine⟨d0,?_,a2,a3⟩
     by_cases c1:d0 < c+d
     ·exact absurd ((hashOf i0 p0 g0).trans ((congrArg hf e0).trans hh)) (hno (d0 - c) i0 (by omega) (by rw[jAt,arj a1];exact a3))
     ·by_cases c2:d0=c+d
      ·rw[c2]at a3
       have live0:=slot_live R.tab.ris a3
       rw[live]at live0
       injection live0 with ei
       rw[←ei,hp]at g0
       exact absurd ((congrArg Prod.snd (aqA g0)).trans e0) same
      ·omega
   by_cases hl:t.led=true
   ·refine wp_if_neg (by simp[hl]) ?_
    try refine wpAny_bind (wpAny_pure ?_)
    exact go
   ·refine wp_if_pos (by simp[hl]) ?_
    refine wpAny_bind (aj9 hx (fun y hy=>?_) ?_)
    ·obtain⟨e,he,ee⟩:=aqt.mp hy
     have h1:e∈es/\e.1=h:=by simpa using he
     have h2:e∈es.toList:=by simpa using h1.1
     rw[R.en]at h2
     obtain⟨p2,hp2,e2⟩:=aqt.mp h2
     exact⟨p2.2,p2.1,by rw[←ee,←e2],R.ky p2 hp2⟩
    ·refine wp_if_neg (by decide) ?_
     try refine wpAny_bind (wpAny_pure ?_)
     exact go
  ·have hpr':t.probe (fun i=>(es[i]?.map (·.1)).getD 0) h (st.getD (t.probeStart h))=some (.empty (way t.mask h N) none):=by
    have e2:way t.mask h N=(nth t.mask (uH t.mask h c) (N - c)).j:=by rw[jAt,arj hc]
    rw[hst,e2]
    exact hpr
   rw[hpr']
   dsimp only
   refine wpAny_pure (no fun hm=>?_)
   obtain⟨p0,m0,e0⟩:=aqt.mp hm
   obtain⟨i0,hi0,e1⟩:=List.getElem_of_mem m0
   have g0:L[i0]?=some p0:=by rw[aqi hi0,e1]
   obtain⟨d0,a1,a2,a3⟩:=left i0 p0 g0 e0
   exact hno (d0 - c) i0 (by omega) (by rw[jAt,arj a1];exact a3) ((hashOf i0 p0 g0).trans ((congrArg hf e0).trans hh))
theorem look(R:qF hf w s.heap a L es ep t){x:Addr}{r:Rw}(hx:RI s.heap r x)(hu:(nJ P w).room A){Q:SetFound->Shared->Prop}(yes:r∈L.map Prod.snd->Q (.there none) s)
  (no:∀N,r∉L.map Prod.snd->way t.mask (hf r) N∉t.place.toList->(∀c,c < N->way t.mask (hf r) c∈t.place.toList)->Q (.free (way t.mask (hf r) N) false) s):wpAny (model P w) A (setSearch a (.ref x) (hf r) true) Q E s:=by
 have hfree:=R.free
 obtain⟨N,hN,out,inn⟩:=R.tab.first (by rw[aqr];omega) (hf r)
 have small:N < 100000:=by
  have:10 * SetTable.turns t.mask<=1420:=by
   unfold SetTable.turns
   rcases R.tab.mok with e|e|e <;> omega
  omega
 unfold setSearch
 refine seek R hx rfl hu hN out inn yes (fun hn=>no N hn out inn) 100000 0 none rfl (aqW _) (by omega) fun i p g e=>?_
 have hi:(L.map fun p=>hf p.2)[i]?=some (hf r):=by
  rw[aqs,g,←e]
  rfl
 have hil:i < t.place.toList.length:=by
  have k1:=(aqh.mp g).1
  have k2:=R.tab.sz
  rw[aqr]at k2
  rw[aqP]
  omega
 obtain⟨c,hc,ec⟩:=R.tab.before out hi (aqi hil)
 exact⟨c,aqW _,hc,by rw[aqi hil,ec]⟩
end
section
variable{P:Program}{w:World}{A:Around}{E:Value->Shared->Prop}{s:Shared}{hf:Rw->Int}{a:Addr}{L:List Ent}{es:Array (Int×Value)}{ep:Nat}{t:SetTable}
theorem aeZ(L:List Ent)(n:Nat)(x:Addr)(r:Rw):ents hf (L.take n++(x,r)::L.drop n)=(ents hf L).take n++(hf r,Value.ref x)::(ents hf L).drop n:=by
 unfold ents
 rw[List.map_append,aqj,List.map_take,List.map_drop]
theorem range_all(L:List Ent):(List.range L.length).filterMap (fun i=>L[i]?)=L:=by
 have part:∀n,n<=L.length->(List.range n).filterMap (fun i=>L[i]?)=L.take n:=by
  intro n
  induction n with
  |zero=>exact fun _=>rfl
  |succ n ih=>
   intro hn
   rw[List.range_succ,List.filterMap_append,ih (by omega),List.take_add_one,aqi (show n < L.length by omega)]
   congr 1
   rw[List.filterMap_cons_some (aqi (show n < L.length by omega))]
   rfl
 rw[part _ (aqF _),List.take_length]
theorem ab7(h:es.toList=ents hf L){order:Array Nat}(hp:order.toList.Perm (List.range L.length)) :
  ∃M:List Ent,(order.filterMap (es[·]?)).toList=ents hf M/\M.Perm L/\(M.map fun p=>hf p.2)=order.toList.map fun i=>(es.map (·.1)).getD i 0:=by
 have inside:∀i∈order.toList,i < L.length:=fun i hi=>List.mem_range.mp (hp.mem_iff.mp hi)
 refine⟨order.toList.filterMap (fun i=>L[i]?),?_,?_,?_⟩
 ·have e1:(order.filterMap (es[·]?)).toList=order.toList.filterMap (fun i=>es[i]?):=by
   first | rw[Array.toList_filterMap] | simp
  rw[e1]
  unfold ents
  rw[List.map_filterMap]
  congr 1
  funext i
  rw[←aqX,h]
  unfold ents
  rw[aqs]
 ·have:=hp.filterMap (fun i=>L[i]?)
  rw[range_all]at this
  exact this
 ·generalize order.toList=l at inside
  induction l with
  |nil=>rfl
  |cons i l ih=>
   have hi:=inside i aql
   have e5:(es.map (·.1))[i]?=some (hf (L[i]).2):=by
    rw[Array.getElem?_map,Mx h (aqi hi)]
    rfl
   rw[List.filterMap_cons_some (aqi hi),aqj,aqj,ih fun j hj=>inside j (aqk _ hj),Array.getD_eq_getD_getElem?,e5]
   rfl
theorem akS{o:Obj}(ho:s.heap.get? a=some o)(hex:o.ExactSet)(hd:o.data=.set es ep t)(he:es.toList=ents hf L)(hsz:t.place.size=es.size)(hdm:t.dummies=#[])(hfl:es.size<=t.mask)(nd:(L.map Prod.snd).Nodup)(ky:∀p∈L,RI s.heap p.2 p.1)(pl:t.plain=true)
  (ld:w.params.followText "set-order"=true∨t.led=true) (few:L.length<=76) {wanted M:Nat} (hw:SetTable.sizeAbove wanted - 1=M) (hM:MaskOk M) (hw2:SetTable.sizeAbove wanted<=128) (hn:L.length * 5 < M * 3) {Q:Unit->Shared->Prop}
  (q:∀h' K es' ep' t',Heap.SameBut a s.heap h'->qF hf w h' a K es' ep' t'->K.Perm L->Q () { s with heap:=h' }):wpAny (model P w) A (setRelay a wanted) Q E s:=by
 have len:=yN he
 obtain⟨t',order,e,hp,T,em,el,epl,ed⟩:=relaid_ok t (hs:=es.map (·.1)) (wanted:=wanted) hw hM (by rw[Array.size_map,len];omega)
 rw[Array.size_map,len]at hp
 obtain⟨K,k1,k2,k3⟩:=ab7 he hp
 rw[←k3]at T
 have ks:(order.filterMap (es[·]?)).size=es.size:=by
  rw[yN k1,k2.length_eq,len]
 rw[setRelay_eq]
 refine wpAny_bind (wpAny_setState_of ho hd (fits_of hsz hdm hfl) ?_)
 dsimp only
 refine wp_if_neg (by rw[sizeLine_eq];omega) ?_
 try refine wpAny_bind (wpAny_pure ?_)
 rw[e]
 dsimp only
 refine wpAny_bind ?_
 refine wp_if_neg (by rw[ks];simp) ?_
 try refine wpAny_bind (wpAny_pure ?_)
 refine wpAny_pure ?_
 dsimp only
 refine wpAny_storeSet_of ho hd ?_ (by rw[ks,len,sizeLine_eq];omega)
 have sb:Heap.SameBut a s.heap (s.heap.update a (Obj.putSet (order.filterMap (es[·]?)) t')):=Heap.SameBut.update ..
 refine q _ K (order.filterMap (es[·]?)) (ep+1) t' sb ⟨⟨_,store_at ho hd,⟨hex.1,hex.2.1,hex.2.2⟩,rfl⟩,k1,T,(k2.map Prod.snd).nodup_iff.mpr nd,fun p hp=>Yi (ky p (k2.mem_iff.mp hp)) ho hd sb,by rw[epl];exact pl,by rw[el];exact ld,?_,by rw[k2.length_eq];exact few⟩ k2
 rw[k2.length_eq,em]
 exact hn
theorem ajF(R:qF hf w s.heap a L es ep t){x:Addr}{r:Rw}(hx:RI s.heap r x)(hu:(nJ P w).room A)(hfew:r∉L.map Prod.snd->L.length+1<=76){Q:Bool->Shared->Prop}
  (q:∀b h' K es' ep' t',Heap.SameBut a s.heap h'->qF hf w h' a K es' ep' t'->(r∈L.map Prod.snd->K=L)->(r∉L.map Prod.snd->K.Perm ((x,r)::L))->Q b { s with heap:=h' }):wpAny (model P w) A (setAddHashed a (.ref x) (hf r)) Q E s:=by
 obtain⟨o,ho,hex,hd⟩:=R.ob
 have len:=yN R.en
 have hfree:=R.free
 unfold setAddHashed
 refine wpAny_holding ?_
 rw[show(100000:Nat)=99999+1 from rfl,setAddHashedIn_succ]
 refine wpAny_bind (wpAny_setState_of ho hd R.fits ?_)
 dsimp only
 refine wp_if_neg (by simp[byScan,Value.scannable]) ?_
 try refine wpAny_bind (wpAny_pure ?_)
 refine wpAny_bind (look R hx hu (fun hm=>?_) fun N hm out inn=>?_)
 ·dsimp only
  exact wpAny_pure (q false s.heap L es ep t (Heap.SameBut.refl a s.heap) R (fun _=>rfl) fun z=>absurd hm z)
 have few1:=hfew hm
 dsimp only
 refine wpAny_bind (wpAny_setState_of ho hd R.fits ?_)
 dsimp only
 obtain⟨q1,q2,q3,q4,q5,q6,q7,q8,q9⟩:=R.tab.put out inn
 have pl1:(t.put (way t.mask (hf r) N)).1.plain=true:=by rw[q6];exact R.pl
 generalize hpt:t.put (way t.mask (hf r) N)=pt at q1 q3 q4 q5 q6 q7 q8 q9 pl1 ⊢
 obtain⟨t1,n⟩:=pt
 dsimp only at q1 q3 q4 q5 q6 q7 q8 q9 pl1 ⊢
 subst q1
 first
  |(refine wpAny_bind ?_;refine wp_if_pos pl1 ?_;refine(Jb hx).2 ?_)
  |refine wp_if_pos pl1 (wpAny_bind ((Jb hx).2 ?_))
 simp only[if_true]
 have ein:(SetTable.insertAt es (SetTable.below t.place (way t.mask (hf r) N)) (hf r,Value.ref x)).toList=ents hf (L.take (SetTable.below t.place (way t.mask (hf r) N))++(x,r)::L.drop (SetTable.below t.place (way t.mask (hf r) N))):=by
  rw[SetTable.toList_insertAt,aeZ,R.en]
 generalize hnn:SetTable.below t.place (way t.mask (hf r) N)=n at q2 q3 ein ⊢
 have pm:=put_perm L n (x,r)
 have hs1:(L.take n++(x,r)::L.drop n).map (fun p=>hf p.2)=(L.map fun p=>hf p.2).take n++hf r::(L.map fun p=>hf p.2).drop n:=by
  rw[List.map_append,aqj,List.map_take,List.map_drop]
 rw[←hs1]at q3
 have nd1:((L.take n++(x,r)::L.drop n).map Prod.snd).Nodup:=by
  refine(pm.map Prod.snd).nodup_iff.mpr ?_
  rw[aqj]
  exact arl.mpr ⟨hm,R.nd⟩
 have len1:(SetTable.insertAt es n (hf r,Value.ref x)).size=L.length+1:=by
  rw[yN ein,pm.length_eq]
  rfl
 generalize SetTable.insertAt es n (hf r,Value.ref x)=es1 at ein len1 ⊢
 have lenM:(L.take n++(x,r)::L.drop n).length=L.length+1:=pm.length_eq
 generalize L.take n++(x,r)::L.drop n=M at pm q3 nd1 ein lenM
 refine wpAny_bind (wpAny_storeSet_of ho hd ?_ (by rw[len1,sizeLine_eq];omega))
 have sb:Heap.SameBut a s.heap (s.heap.update a (Obj.putSet es1 t1)):=Heap.SameBut.update ..
 have ho1:=store_at (es':=es1) (t':=t1) ho hd
 generalize s.heap.update a (Obj.putSet es1 t1)=h1 at sb ho1 ⊢
 have ky1:∀p∈M,RI h1 p.2 p.1:=fun p hp=>by
  rcases aqv.mp (pm.mem_iff.mp hp) with e|m
  ·rw[e];exact Yi hx ho hd sb
  ·exact Yi (R.ky p m) ho hd sb
 have ld1:w.params.followText "set-order"=true∨t1.led=true:=by rw[q5];exact R.ld
 have full:t1.tooFull=true↔(L.length+1) * 5 ≥ t1.mask * 3:=by
  unfold SetTable.tooFull
  rw[decide_eq_true_eq,q9,aqr]
 by_cases hfu:t1.tooFull=true
 ·first
   |(refine wpAny_bind ?_;refine wp_if_pos (by simp[hfu]) ?_)
   |(refine wp_if_pos (by simp[hfu]) ?_;refine wpAny_bind ?_)
  have over:=full.mp hfu
  rw[len]
  have psz:t1.place.size=es1.size:=by
   have:=q3.sz
   rw[aqr,lenM]at this
   rw[this,len1]
  have which:(t.mask=7/\L.length=4)∨(t.mask=31/\L.length=18):=by
   rcases R.tab.mok with e|e|e
   ·rw[q4,e]at over;rw[e]at hfree;exact Or.inl ⟨e,by omega⟩
   ·rw[q4,e]at over;rw[e]at hfree;exact Or.inr ⟨e,by omega⟩
   ·rw[q4,e]at over;omega
  have go:∀m,SetTable.sizeAbove (SetTable.grown (L.length+1)) - 1=m->MaskOk m->SetTable.sizeAbove (SetTable.grown (L.length+1))<=128->(L.length+1) * 5 < m * 3->
    wpAny (model P w) A (setRelay a (SetTable.grown (L.length+1))) (fun _ u=>wpAny (model P w) A (pure true) Q E u) E { s with heap:=h1 }:=fun m g1 g2 g3 g4=>
   akS (s:={ s with heap:=h1 }) ho1 ⟨hex.1,hex.2.1,hex.2.2⟩ rfl ein psz q3.dm (by rw[len1,q4];rcases which with⟨e,e2⟩|⟨e,e2⟩ <;> omega) nd1 ky1 pl1 ld1 (by rw[lenM];exact few1) g1 g2 g3 (by rw[lenM];exact g4)
    fun h2 K es2 ep2 t2 sb2 R2 pm2=>wpAny_pure (q true h2 K es2 ep2 t2 (sb.trans sb2) R2 (fun z=>absurd z hm) fun _=>pm2.trans pm)
  rcases which with⟨_,e2⟩|⟨_,e2⟩
  ·exact go 31 (by rw[e2,size_20]) (.inr (.inl rfl)) (by rw[e2,size_20];decide) (by omega)
  ·exact go 127 (by rw[e2,size_76]) (.inr (.inr rfl)) (by rw[e2,size_76];decide) (by omega)
 ·first
   |refine wp_if_neg (by simp[hfu]) ?_
   |(refine wpAny_bind ?_;refine wp_if_neg (by simp[hfu]) ?_;refine wpAny_pure ?_)
  have under:¬(L.length+1) * 5 ≥ t1.mask * 3:=fun z=>hfu (full.mpr z)
  exact wpAny_pure (q true h1 M es1 (ep+1) t1 sb ⟨⟨_,ho1,⟨hex.1,hex.2.1,hex.2.2⟩,rfl⟩,ein,q3,nd1,ky1,pl1,ld1,by rw[lenM];omega,by rw[lenM];exact few1⟩ (fun z=>absurd z hm) fun _=>pm)
end
theorem Cq{α:Type}[DecidableEq α]:∀(l D:List α),l.Nodup->(∀x∈l,x∈D)->l.length<=D.length
 |[],_,_,_=>aqW _
 |x::l,D,hn,hs=>by
  obtain⟨h1,h2⟩:=arl.mp hn
  have mx:=hs x aql
  have ih:=Cq l (D.erase x) h2 fun y hy=>(List.mem_erase_of_ne (fun e=>h1 (by rw[←e];exact hy))).2 (hs y (aqk _ hy))
  have e:=List.length_erase_of_mem mx
  have hp:=List.length_pos_of_mem mx
  rw[aqu]
  omega
structure Has(ks:List Ent)(i:Nat)(L:List Ent):Prop where
 sub:∀p∈L,p∈ks.take i
 all:∀p∈ks.take i,p.2∈L.map Prod.snd
theorem CV{α:Type}{l:List α}{i:Nat}{x:α}(h:l[i]?=some x):l.take (i+1)=l.take i++[x]:=by
 rw[List.take_add_one,h]
 rfl
theorem Has.next{ks L K:List Ent}{i:Nat}{x:Ent}(g:Has ks i L)(h:ks[i]?=some x)(h1:x.2∈L.map Prod.snd->K=L)(h2:x.2∉L.map Prod.snd->K.Perm (x::L)):Has ks (i+1) K:=by
 by_cases c:x.2∈L.map Prod.snd
 ·rw[h1 c]
  refine⟨fun p hp=>?_,fun p hp=>?_⟩
  ·rw[CV h]
   exact aqL _ (g.sub p hp)
  ·rw[CV h]at hp
   rcases aqp.mp hp with m|m
   ·exact g.all p m
   ·rw[aqm.mp m]
    exact c
 ·have pm:=h2 c
  refine⟨fun p hp=>?_,fun p hp=>?_⟩
  ·rw[CV h]
   rcases aqv.mp (pm.mem_iff.mp hp) with e|m
   ·exact aqY _ (aqm.mpr e)
   ·exact aqL _ (g.sub p m)
  ·rw[(pm.map Prod.snd).mem_iff,aqj]
   rw[CV h]at hp
   rcases aqp.mp hp with m|m
   ·exact aqk _ (g.all p m)
   ·rw[aqm.mp m]
    exact aql
def yX(w:World):Obj:={ cls:=.type "set",dict:=none,data:=.set #[] 0 (.fresh 0 0 (!w.params.followText "set-order")) }
section
variable{P:Program}{w:World}{A:Around}{E:Value->Shared->Prop}{s:Shared}{hf:Rw->Int}
theorem qF.stay{h h':Heap}{a:Addr}{L:List Ent}{es:Array (Int×Value)}{ep:Nat}{t:SetTable}(R:qF hf w h a L es ep t)(ha:∀o,h.get? a=some o->h'.get? a=some o)(hk:∀p∈L,RI h' p.2 p.1):qF hf w h' a L es ep t:=by
 obtain⟨o,ho,r⟩:=R.ob
 exact⟨⟨o,ha o ho,r⟩,R.en,R.tab,R.nd,hk,R.pl,R.ld,R.free,R.few⟩
theorem afi{h:Heap}{a:Addr}(ho:h.get? a=some (yX w)):qF hf w h a [] #[] 0 (.fresh 0 0 (!w.params.followText "set-order")):=by
 refine⟨⟨_,ho,⟨rfl,rfl,rfl⟩,rfl⟩,rfl,⟨List.Pairwise.nil,rfl,rfl,.inl rfl,fun x hx=>(by cases hx),fun i h j hi=>(by simp at hi)⟩,List.nodup_nil,fun p hp=>(by cases hp),rfl,?_,(show 0 * 5 < 7 * 3 by decide),aqW _⟩
 show _∨(!w.params.followText "set-order")=true
 cases w.params.followText "set-order"
 ·exact .inr rfl
 ·exact .inl rfl
theorem agc(hhf:∀r,(nJ P w).hash r=hf r){I:Addr}{fp wr:List Addr}{G:Array GenState->Array GenState->Prop}{n:Nat}{Pv:Nat->Value->Prop}{St:Nat->Shared->Prop}{R:Result->Shared->Prop}(W:WalksS P w A.in1 I fp wr G n Pv St)(S:Addr)(hSf:S∉fp)(ks:List Ent)(hn:n=ks.length)
  (D:List Rw) (hD:D.length<=76) (hkD:∀p∈ks,p.2∈D) (hval:∀i v,Pv i v->∃p,ks[i]?=some p/\v=.ref p.1) (h0:Heap) (hk:∀p∈ks,RI h0 p.2 p.1) (hS0:h0.get? S=none) (hw0:∀b∈wr,h0.get? b=none) (hu:(nJ P w).room A.in1) :
  ∀(m i:Nat) (s:Shared),n - i=m->i<=n->St i s->(∀b o,h0.get? b=some o->s.heap.get? b=some o)->(∃L es ep t,qF hf w s.heap S L es ep t/\Has ks i L)->
   (∀u L es ep t,Moved (S::wr) G s u->qF hf w u.heap S L es ep t->Has ks n L->(∀b o,h0.get? b=some o->u.heap.get? b=some o)->R (.ok (.ret .none)) u)->
   codeAny (model P w) A (.builtin "set.update.loop" ⟨[.ref S,.ref I],[]⟩) R s:=by
 have Sw:S∉wr:=fun h=>hSf (W.sub _ h)
 have wS:∀b∈wr,b∈S::wr:=fun b hb=>aqk _ hb
 have old:∀{s u:Shared},Moved wr G s u->(∀b o,h0.get? b=some o->s.heap.get? b=some o)->∀b o,h0.get? b=some o->u.heap.get? b=some o:=fun hm hkp b o e=>hm.heap b o (fun hb=>by rw[hw0 b hb]at e;cases e) (hkp b o e)
 intro m
 induction m with
 |zero=>
  intro i s hm0 hi hst hkp ⟨L,es,ep,t,hS,g⟩ hR
  obtain rfl:i=n:=by omega
  refine codeAny_builtin PyProof.Rows.F.entry_set_update_loop ?_
  rw[Around.under_plainId PyProof.Rows.F.plain_set_update_loop _]
  refine wpAny_bind (W.done s _ _ hst fun u hm=>?_)
  have kept:=old hm hkp
  exact wpAny_pure (hR u L es ep t (hm.mono wS) (hS.stay (fun o e=>hm.heap S o Sw e) fun p hp=>Sq (hk p (arb (g.sub p hp))) kept) g kept)
 |succ m ih=>
  intro i s hm0 hi hst hkp ⟨L,es,ep,t,hS,g⟩ hR
  have hlt:i < n:=by omega
  refine codeAny_builtin PyProof.Rows.F.entry_set_update_loop ?_
  rw[Around.under_plainId PyProof.Rows.F.plain_set_update_loop _]
  refine wpAny_bind (W.item i s _ _ hlt hst fun v u hP hst' hm=>?_)
  obtain⟨p,hp,rfl⟩:=hval i v hP
  have kept:=old hm hkp
  have hS':qF hf w u.heap S L es ep t:=hS.stay (fun o e=>hm.heap S o Sw e) fun q hq=>Sq (hk q (arb (g.sub q hq))) kept
  have hx:RI u.heap p.2 p.1:=Sq (hk p (aqn hp)) kept
  refine wpAny_bind (wpAny_holding ?_)
  unfold setAdd
  refine wpAny_holding ?_
  refine wpAny_bind ((nJ P w).pyHash hu hx ?_)
  rw[hhf]
  have inD:∀y∈L.map Prod.snd,y∈D:=fun y hy=>by
   obtain⟨q,hq,e⟩:=aqt.mp hy
   rw[←e]
   exact hkD q (arb (g.sub q hq))
  refine ajF (s:={ u with toks:=u.toks+(nJ P w).draws p.2 }) hS' hx hu (fun hnew=>?_) fun b h' K es' ep' t' sb hS2 c1 c2=>?_
  ·have:=Cq (p.2::L.map Prod.snd) D (arl.mpr ⟨hnew,hS.nd⟩) fun y hy=>by
    rcases aqv.mp hy with e|hy
    ·rw[e];exact hkD p (aqn hp)
    ·exact inD y hy
   rw[aqu,aqr]at this
   omega
  have kept2:∀b o,h0.get? b=some o->h'.get? b=some o:=fun b o e=>(sb.2 b (fun z=>by rw[z,hS0]at e;cases e)).trans (kept b o e)
  refine wpAny_pure ⟨plainId_quiet PyProof.Rows.F.plain_set_update_loop _,ih (i+1) _ (by omega) hlt (W.frame _ u _ _ hst' (Nat.le_add_right _ _) fun b hb o e=>?_) kept2 ⟨K,es',ep',t',hS2,g.next hp c1 c2⟩ fun v L2 es2 ep2 t2 hm2 hS3 g3 k3=>?_⟩
  ·rw[sb.2 b (fun h:b=S=>hSf (by rw[←h];exact hb))];exact e
  ·refine hR v L2 es2 ep2 t2 (Moved.trans W.gtrans ((hm.mono wS).then_heap (Nat.le_add_right _ _) fun b o hb e=>?_) hm2) hS3 g3 k3
   rw[sb.2 b (fun h:b=S=>hb (by rw[h];exact aql))];exact e
set_option maxHeartbeats 4000000 in
theorem ZJ(hhf:∀r,(nJ P w).hash r=hf r){l:Addr}{items:Array Value}(ks:List Ent)(D:List Rw)(hD:D.length<=76)(hkD:∀p∈ks,p.2∈D){Q:Value->Shared->Prop}(hh:A.handled=none)(hl:s.heap.IsList l items)(hit:items.toList=ks.map fun p=>Value.ref p.1)
  (hk:∀p∈ks,RI s.heap p.2 p.1) (hu:A.units+3+8 < cLine)
  (h:∀(h':Heap) (tk:Nat) L es ep t,qF hf w h' s.heap.objs.size L es ep t->Has ks ks.length L->(∀b o,s.heap.get? b=some o->h'.get? b=some o)->Q (.ref s.heap.objs.size) { s with heap:=h',toks:=tk }) :
  wpAny (model P w) A (call (.type "set") [.ref l]) Q E s:=by
 have isz:items.size=ks.length:=by
  rw[←aqP,hit,aqr]
 obtain⟨cc,tl,hmro⟩:=PySem.F.called_set.mro
 have hmade:=PySem.F.called_set.made
 have hsub:=PySem.F.called_set.sub
 refine wpAny_call (codeAny_of_tree ?_)
 show wpAny _ _ (callAny (.type "set") _) _ _ _
 refine wpAny_pure ⟨Code.quiet_builtin _ (by decide +kernel),codeAny_builtin PySem.F.entry_type_call ?_⟩
 rw[Around.under_plain (weight_type_call_type "set" [.ref l] []) rfl]
 have nt:=PySem.F.called_set.notType
 have cr:=PySem.F.called_set.canCreate
 have hct:=PySem.F.typeCall_set_1 (.ref l)
 (repeat (any_goals first | assumption | wp_step))
 refine codeAny_mono (code_set_led1 (.ref l) (E:=E) (Q₁:=fun v u=>v=.ref s.heap.objs.size/\u={ s with heap:=s.heap.push (yX w) }) ⟨rfl,rfl⟩) fun r u hr=>?_
 cases r with
 |error e=>exact hr
 |ok fl=>
  cases fl with
  |ret v=>
   obtain⟨rfl,rfl⟩:=hr
   have hS:(s.heap.push (yX w)).get? s.heap.objs.size=some (yX w):=Heap.get?_push_size _ rfl
   have hT:Shared.TypeIs { s with heap:=s.heap.push (yX w) } (.ref s.heap.objs.size) "set":=⟨_,hS,rfl⟩
   have hli:=PySem.F.called_set.init.lookup
   have hbi:=PySem.F.called_set.init.bind (.ref s.heap.objs.size)
   (repeat (any_goals first | assumption | wp_step))
   refine codeAny_mono (codeAny_call_builtin (R:=wants (fun r u=>r=.none/\∃h' tk L es ep t,u={ s with heap:=h',toks:=tk }/\qF hf w h' s.heap.objs.size L es ep t/\Has ks ks.length L/\∀b o,s.heap.get? b=some o->h'.get? b=some o) E) PySem.F.called_set.init.plain PySem.F.entry_set_init (check_set_init_1 hT ?_)) fun r₂ u₂ hr₂=>?_
   ·obtain⟨ol,hol,hcl,nl,hdl⟩:=hl
    obtain⟨ocls,odict,odata,oslots⟩:=ol
    simp only at hcl hdl
    subst hcl;subst hdl
    have hol':(s.heap.push (yX w)).get? l=some { cls:=.type "list",dict:=odict,data:=.seq items nl,slots:=oslots }:=Heap.get?_push_of_some _ hol
    have sl1:=PySem.F.sub_list_set
    have sl2:=PySem.F.sub_list_frozenset
    have nd:(Value.type "list"==Value.type "dict")=false:=by decide
    have hl1:(s.heap.push (yX w)).IsList l items:=⟨_,hol',rfl,nl,rfl⟩
    unfold Builtin.«set.__init__» noKeywords Builtin.Frozenset.updateFrom
    generalize hPI:pyIter=PI
    wp_walk
    subst hPI
    refine wpAny_pyIter_list hl1 ?_
    refine wpAny_bind (wpAny_runValue ?_)
    have lS:l < s.heap.objs.size:=Heap.lt_size hol
    have h3:A.in1.in1.in1.handled=none:=by simp[hh]
    have sz1:(s.heap.push (yX w)).objs.size=s.heap.objs.size+1:=Heap.size_push ..
    have lI:l≠(s.heap.push (yX w)).objs.size:=by rw[sz1];exact aqN (ara lS)
    have Sf:s.heap.objs.size∉[(s.heap.push (yX w)).objs.size,l]:=by
     rw[sz1]
     simp only[aqv,aqO,or_false,not_or]
     exact⟨aqN (Nat.lt_succ_self _),Nat.ne_of_gt lS⟩
    have hval:∀(i:Nat) (v:Value),items[i]?=some v->∃p,ks[i]?=some p/\v=.ref p.1:=fun i v hv=>by
     rw[←aqX,hit,aqs]at hv
     obtain⟨p,g1,g2⟩:=aqR.mp hv
     exact⟨p,g1,g2.symm⟩
    have fresh:∀b,s.heap.objs.size<=b->s.heap.get? b=none:=fun b hb=>by
     cases q:s.heap.get? b with
     |none=>rfl
     |some o=>exact absurd (Heap.lt_size q) (Nat.not_lt_of_le hb)
    refine agc hhf ((Walks.list h3 _ l lI items).toS) s.heap.objs.size Sf ks isz D hD hkD hval s.heap hk (fresh _ (aqF _)) (fun b hb=>fresh b (by rw[aqm.mp hb,sz1];exact Nat.le_succ _)) hu (items.size - 0) 0 _ (by omega) (aqW _)
     ⟨⟨_,Heap.get?_push_size _ rfl,rfl,rfl⟩,(hl1.push _)⟩ (fun b o e=>Heap.get?_push_of_some _ (Heap.get?_push_of_some _ e)) ⟨[],#[],0,_,afi (Heap.get?_push_of_some _ hS),⟨fun p hp=>(by cases hp),fun p hp=>(by simp at hp)⟩⟩ fun u L es ep t hm hS' g' kp=>?_
    obtain⟨h',g2,d',tk',os'⟩:=u
    have eg:g2=s.gens:=hm.gens
    have ed:d'=s.drawn:=hm.drawn
    have eo:os'=s.os:=hm.os
    subst eg;subst ed;subst eo
    refine wpAny_pure ?_
    rw[isz]at g'
    exact wpAny_pure ⟨rfl,h',tk',L,es,ep,t,rfl,hS',g',kp⟩
   ·cases r₂ with
    |error e=>exact hr₂
    |ok fl₂=>
     cases fl₂ with
     |ret r=>
      obtain⟨rfl,h',tk,L,es,ep,t,rfl,hS',g',hk'⟩:=hr₂
      (repeat (any_goals first | assumption | wp_step))
      exact h _ _ _ _ _ _ hS' g' hk'
     |_=>exact hr₂.elim
  |_=>exact hr.elim
end
def abj(w:World)(h:Heap)(a:Addr)(L:List Ent):Prop:=∃(hf:Rw->Int) (es:Array (Int×Value)) (ep:Nat) (t:SetTable),(∃o,h.get? a=some o/\o.ExactSet/\o.data=.set es ep t)/\es.toList=ents hf L/\t.fits es.size=true/\Ris t.place.toList/\(w.params.followText "set-order"=true∨t.led=true)
def Mp(w:World)(a:Addr)(L:List Ent):HO:=.ext fun h=>abj w h a L
section
variable{X:Cx}
theorem Vp{P:Program}{w:World}{h:Heap}:∀(l:List Int) (us:List Value),Vals (l.map V.int) us->NestedAll h (l.map .num) us
 |[],_,.nil=>.nil
 |i::l,_,.cons r t=>by
  obtain⟨tk,rfl⟩:=r
  exact .cons (.int i tk) (Vp (P:=P) (w:=w) l _ t)
theorem Vt:∀{ks:List Ent} {us:List Value},Vals (ks.map fun p=>V.ref p.1) us->us=ks.map fun p=>Value.ref p.1
 |[],_,.nil=>rfl
 |p::ks,_,.cons r t=>by
  cases r
  rw[Vt t]
  rfl
theorem Vw{L:List Ent}:∀(out:List Value) (M:List Rw),PySem.W.EachIs (fun v (r:Rw)=>∃p∈L,v=Value.ref p.1/\r=p.2) out M->∃ys:List V,Vals ys out/\eY (fun v (r:Rw)=>∃p∈L,v=V.ref p.1/\r=p.2) ys M
 |[],[],.nil=>⟨[],.nil,eY.nil⟩
 |_::out,_::M,.cons ⟨p,hp,e1,e2⟩ k=>by
  obtain⟨ys,h1,h2⟩:=Vw out M k
  subst e1 e2
  refine⟨.ref p.1::ys,.cons rfl h1,by rw[aqu,aqu,h2.1],fun j u y g1 g2=>?_⟩
  cases j with
  |zero=>
   cases g1
   cases g2
   exact⟨p,hp,rfl,rfl⟩
  |succ j=>exact h2.2 j u y g1 g2
end
def gF(da dc:Addr):List (Str×V):=putF ("circles" : Str) (.ref dc) (putF ("allowances" : Str) (.ref da) [])
structure aeg(C:Addr)(H:Hp)(p da dc:Addr)(al:List Int)(ci:List (List Int)):Prop where
 ob:∃dx,H p=some (.ins C dx (gF da dc))
 la:H da=some (.lst (al.map V.int))
 lc:∃us,H dc=some (.lst us)/\eY (Il H) us ci
 ne:da≠dc
theorem aeg.mono{C:Addr}{H H':Hp}(e:Ex H H'){p da dc:Addr}{al:List Int}{ci:List (List Int)}(g:aeg C H p da dc al ci):aeg C H' p da dc al ci:=by
 obtain⟨⟨dx,ob⟩,la,⟨us,h1,h2⟩,ne⟩:=g
 exact⟨⟨dx,e _ _ ob⟩,e _ _ la,⟨us,e _ _ h1,h2.imp fun _ _ r=>r.mono e⟩,ne⟩
end Ear
namespace Rf
open PySem PySem.Spec PyProof.Rows L2 Evl
abbrev obj(h:Nat):Dat:=PyData.dict [(PyData.none,PyData.int (Int.ofNat h))]
inductive iW where
 |dat (d:Dat)|lst (n:Nat) (xs:List Dat)|dic (n:Bool) (kvs:List (Dat×Dat))
structure aQ where
 f:Str->Option Addr
 fl:Str->List Str
 w:World
instance:CoeFun aQ fun _=>Str->Option Addr:=⟨aQ.f⟩
structure Inst where
 cls:Str
 fs:List (Str×iW)
abbrev Mo:=List Inst
inductive Cell where
 |dat (d:Dat)|mut (xs:List Dat)
abbrev Env:=List (Option Cell)
structure dN where
 cls:Str
 fs:List (Str×Dat)
inductive Out(α:Type) where
 |ok (a:α)|exc (x:dN)|bad
inductive aZ(α:Type) where
 |ok (a:α) (M:Mo)|exc (x:dN) (M:Mo)|bad
inductive uL where
 |next (ρ:Env) (M:Mo)|ret (d:Dat) (M:Mo)|brk (ρ:Env) (M:Mo)|cont (ρ:Env) (M:Mo)|exc (x:dN) (ρ:Env) (M:Mo)|bad
structure Gh where
 tbl:List Addr
 ow:Addr->Option (Nat×Str)
 Lc:Addr->Prop
 Lo:Addr->Prop
def Gh.W(g:Gh)(a:Addr):Prop:=a∈g.tbl∨g.ow a≠none
def Gh.A(g:Gh)(a:Addr):Prop:=g.W a∨g.Lc a∨g.Lo a
def Jd:HO->Prop
 |.tup _=>False
 |.frz _ _=>False
 |_=>True
def amP(K:aqf)(a:Addr)(xs:List V):Prop:=∃(o:Obj) (its:Array Value) (n:Nat),K.lookup a=some o/\o.cls=.type "list"/\o.dict=none/\o.data=.seq its n/\its.size<=sizeLine/\Vals xs its.toList
def Oo(K:aqf)(g:Gh)(H:Hp)(a:Addr)(xs:List V):Prop:=(Rd H a (.lst xs)/\¬g.A a)∨amP K a xs
theorem Oo.sq{K:aqf}{g:Gh}{H:Hp}{a:Addr}{xs:List V}(h:Oo K g H a xs):SqL K H a xs:=h.elim (fun z=>.inl z.1) .inr
mutual
inductive Rep(K:aqf)(g:Gh)(H:Hp):V->Dat->Prop
 |non:Rep K g H .non .none
 |bl (b:Bool):Rep K g H (.bl b) (.bool b)
 |int (i:Int):Rep K g H (.int i) (.int i)
 |str (x:Str):Rep K g H (.str x) (.str x)
 |tup {a:Addr} {xs:List V} {ds:List Dat}:SqT K H a xs->aJ K g H xs ds->Rep K g H (.ref a) (.tuple ds)
 |lst {a:Addr} {xs:List V} {ds:List Dat}:Oo K g H a xs->aJ K g H xs ds->Rep K g H (.ref a) (.list ds)
 |obj {a:Addr} {h:Nat}:g.tbl[h]?=some a->Rep K g H (.ref a) (obj h)
inductive aJ(K:aqf)(g:Gh)(H:Hp):List V->List Dat->Prop
 |nil:aJ K g H [] []
 |cons {v:V} {vs:List V} {d:Dat} {ds:List Dat}:Rep K g H v d->aJ K g H vs ds->aJ K g H (v::vs) (d::ds)
end
structure Kd(g:Gh)(H:Hp):Prop where
 ob:∀a,g.A a->∃o,H a=some o/\Jd o
 lo:∀a,g.Lo a->¬g.W a
 lc:∀a,g.Lc a->¬g.W a/\¬g.Lo a
structure Gr(q:Bool)(g g':Gh)(H H':Hp):Prop where
 keep:∀a o,H a=some o->¬g.W a->¬g.Lo a->H' a=some o
 keepW:q=true->∀a o,H a=some o->g.W a->H' a=some o
 dom:∀a,H' a=none->H a=none
 tbl:∃more,g'.tbl=g.tbl++more
 W:∀a,g.W a->g'.W a
 nW:∀a,g'.W a->g.W a∨H a=none
 qg:q=true->g'.tbl=g.tbl/\g'.ow=g.ow
 Lc:g'.Lc=g.Lc
 Lo:∀a,g.Lo a->g'.Lo a
 nLo:∀a,g'.Lo a->g.Lo a∨H a=none
section
variable{K:aqf}{q:Bool}{g g' g2:Gh}{H H' H2:Hp}{v:V}{d:Dat}
theorem Gr.refl:Gr q g g H H:=⟨fun _ _ h _ _=>h,fun _ _ _ h _=>h,fun _ h=>h,⟨[],by simp⟩,fun _ h=>h,fun _ h=>.inl h,fun _=>⟨rfl,rfl⟩,rfl,fun _ h=>h,fun _ h=>.inl h⟩
theorem CJ(e:Ex H H'):∀a,H' a=none->H a=none:=fun a h=>by
 cases h1:H a with
 |none=>rfl
 |some o=>
  rw[e a o h1]at h
  cases h
theorem Gr.ex(e:Ex H H'):Gr q g g H H':=⟨fun a o h _ _=>e a o h,fun _ a o h _=>e a o h,CJ e,⟨[],by simp⟩,fun _ h=>h,fun _ h=>.inl h,fun _=>⟨rfl,rfl⟩,rfl,fun _ h=>h,fun _ h=>.inl h⟩
theorem Gr.trans(a:Gr q g g' H H')(b:Gr q g' g2 H' H2):Gr q g g2 H H2 where
 keep:=fun x o h nw nl=>by
  have h1:=a.keep x o h nw nl
  refine b.keep x o h1 (fun z=>?_) (fun z=>?_)
  ·rcases a.nW x z with z|z
   ·exact nw z
   ·rw[h]at z
    cases z
  ·rcases a.nLo x z with z|z
   ·exact nl z
   ·rw[h]at z
    cases z
 keepW:=fun hq x o h w=>b.keepW hq x o (a.keepW hq x o h w) (a.W x w)
 dom:=fun x h=>a.dom x (b.dom x h)
 tbl:=by
  obtain⟨m1,e1⟩:=a.tbl
  obtain⟨m2,e2⟩:=b.tbl
  exact⟨m1++m2,by rw[e2,e1,List.append_assoc]⟩
 W:=fun x h=>b.W x (a.W x h)
 nW:=fun x h=>by
  rcases b.nW x h with z|z
  ·exact a.nW x z
  ·exact .inr (a.dom x z)
 qg:=fun hq=>by
  obtain⟨e1,e2⟩:=a.qg hq
  obtain⟨f1,f2⟩:=b.qg hq
  exact⟨f1.trans e1,f2.trans e2⟩
 Lc:=b.Lc.trans a.Lc
 Lo:=fun x h=>b.Lo x (a.Lo x h)
 nLo:=fun x h=>by
  rcases b.nLo x h with z|z
  ·exact a.nLo x z
  ·exact .inr (a.dom x z)
theorem Gr.loud(a:Gr q g g' H H'):Gr false g g' H H':=⟨a.keep,(fun h=>nomatch h),a.dom,a.tbl,a.W,a.nW,(fun h=>nomatch h),a.Lc,a.Lo,a.nLo⟩
theorem Gr.nA(r:Gr q g g' H H'){a:Addr}{o:HO}(h:H a=some o)(n:¬g.A a):¬g'.A a:=fun z=>by
 rcases z with z|z|z
 ·rcases r.nW a z with z|z
  ·exact n (.inl z)
  ·rw[h]at z
   cases z
 ·rw[r.Lc]at z
  exact n (.inr (.inl z))
 ·rcases r.nLo a z with z|z
  ·exact n (.inr (.inr z))
  ·rw[h]at z
   cases z
theorem Gr.rd(r:Gr q g g' H H'){a:Addr}{o:HO}(h:Rd H a o)(n:¬g.A a):Rd H' a o/\¬g'.A a:=by
 rcases h with h|⟨z,h⟩
 ·exact⟨.inl (r.keep a _ h (fun w=>n (.inl w)) fun w=>n (.inr (.inr w))),r.nA h n⟩
 ·exact⟨.inr ⟨z,r.keep a _ h (fun w=>n (.inl w)) fun w=>n (.inr (.inr w))⟩,r.nA h n⟩
theorem Kd.tup(k:Kd g H){a:Addr}{xs:List V}(h:Rd H a (.tup xs)):¬g.A a:=fun z=>by
 obtain⟨o,e,m⟩:=k.ob a z
 rcases h with h|⟨y,h⟩ <;> (rw[h]at e;cases e;exact m)
theorem Gr.sqT(r:Gr q g g' H H')(k:Kd g H){a:Addr}{xs:List V}(h:SqT K H a xs):SqT K H' a xs:=by
 rcases h with h|h
 ·exact .inl (r.rd h (k.tup h)).1
 ·exact .inr h
theorem Gr.ls(r:Gr q g g' H H'){a:Addr}{xs:List V}(h:Oo K g H a xs):Oo K g' H' a xs:=by
 rcases h with⟨h,n⟩|h
 ·exact .inl (r.rd h n)
 ·exact .inr h
theorem Gr.tb(r:Gr q g g' H H'){h:Nat}{a:Addr}(e:g.tbl[h]?=some a):g'.tbl[h]?=some a:=by
 obtain⟨m,em⟩:=r.tbl
 rw[em,aqq (aqh.mp e).1]
 exact e
mutual
theorem Rep.gr(r:Gr q g g' H H')(k:Kd g H):∀{v:V} {d:Dat},Rep K g H v d->Rep K g' H' v d
 |_,_,.non=>.non
 |_,_,.bl b=>.bl b
 |_,_,.int i=>.int i
 |_,_,.str x=>.str x
 |_,_,.tup h t=>.tup (r.sqT k h) (aJ.gr r k t)
 |_,_,.lst h t=>.lst (r.ls h) (aJ.gr r k t)
 |_,_,.obj h=>.obj (r.tb h)
theorem aJ.gr(r:Gr q g g' H H')(k:Kd g H):∀{vs:List V} {ds:List Dat},aJ K g H vs ds->aJ K g' H' vs ds
 |_,_,.nil=>.nil
 |_,_,.cons h t=>.cons (Rep.gr r k h) (aJ.gr r k t)
end
mutual
theorem Rep.less(e:g'.tbl=g.tbl)(n:∀a,g'.A a->g.A a):∀{v:V} {d:Dat},Rep K g H v d->Rep K g' H v d
 |_,_,.non=>.non
 |_,_,.bl b=>.bl b
 |_,_,.int i=>.int i
 |_,_,.str x=>.str x
 |_,_,.tup h t=>.tup h (aJ.less e n t)
 |_,_,.lst h t=>.lst (h.elim (fun z=>.inl ⟨z.1,fun y=>z.2 (n _ y)⟩) .inr) (aJ.less e n t)
 |_,_,.obj h=>.obj (by rw[e];exact h)
theorem aJ.less(e:g'.tbl=g.tbl)(n:∀a,g'.A a->g.A a):∀{vs:List V} {ds:List Dat},aJ K g H vs ds->aJ K g' H vs ds
 |_,_,.nil=>.nil
 |_,_,.cons h t=>.cons (Rep.less e n h) (aJ.less e n t)
end
mutual
def lf:Dat->Bool
 |.list _=>false
 |.tuple ds=>lfs ds
 |.dict _=>true
 |.none=>true
 |.bool _=>true
 |.int _=>true
 |.str _=>true
def lfs:List Dat->Bool
 |[]=>true
 |d::ds=>lf d&&lfs ds
end
mutual
theorem Rep.free(e:g'.tbl=g.tbl):∀{v:V} {d:Dat},lf d=true->Rep K g H v d->Rep K g' H v d
 |_,_,_,.non=>.non
 |_,_,_,.bl b=>.bl b
 |_,_,_,.int i=>.int i
 |_,_,_,.str x=>.str x
 |_,_,f,.tup h t=>.tup h (aJ.free e (by rw[lf]at f;exact f) t)
 |_,_,f,.lst h t=>by rw[lf]at f;cases f
 |_,_,_,.obj h=>.obj (by rw[e];exact h)
theorem aJ.free(e:g'.tbl=g.tbl):∀{vs:List V} {ds:List Dat},lfs ds=true->aJ K g H vs ds->aJ K g' H vs ds
 |_,_,_,.nil=>.nil
 |_,_,f,.cons h t=>.cons (Rep.free e (by rw[lfs,aqg]at f;exact f.1) h) (aJ.free e (by rw[lfs,aqg]at f;exact f.2) t)
end
theorem aJ.length:∀{vs:List V} {ds:List Dat},aJ K g H vs ds->vs.length=ds.length
 |_,_,.nil=>rfl
 |_,_,.cons _ t=>congrArg (· + 1) t.length
theorem aJ.get:∀{vs:List V} {ds:List Dat} {i:Nat} {d:Dat},aJ K g H vs ds->ds[i]?=some d->∃v,vs[i]?=some v/\Rep K g H v d
 |_,_,_,_,.nil,e=>by simp at e
 |_,_,0,_,.cons h _,e=>by simp at e;subst e;exact⟨_,rfl,h⟩
 |_,_,i+1,_,.cons _ t,e=>by simpa using t.get (i:=i) (by simpa using e)
theorem aJ.get':∀{vs:List V} {ds:List Dat} {i:Nat} {v:V},aJ K g H vs ds->vs[i]?=some v->∃d,ds[i]?=some d/\Rep K g H v d
 |_,_,_,_,.nil,e=>by simp at e
 |_,_,0,_,.cons h _,e=>by simp at e;subst e;exact⟨_,rfl,h⟩
 |_,_,i+1,_,.cons _ t,e=>by simpa using t.get' (i:=i) (by simpa using e)
theorem aJ.append:∀{vs ws:List V} {ds es:List Dat},aJ K g H vs ds->aJ K g H ws es->aJ K g H (vs++ws) (ds++es)
 |_,_,_,_,.nil,t=>t
 |_,_,_,_,.cons h r,t=>.cons h (r.append t)
theorem aJ.take:∀{vs:List V} {ds:List Dat} (n:Nat),aJ K g H vs ds->aJ K g H (vs.take n) (ds.take n)
 |_,_,0,_=>.nil
 |_,_,_+1,.nil=>.nil
 |_,_,n+1,.cons h t=>.cons h (t.take n)
theorem aJ.drop:∀{vs:List V} {ds:List Dat} (n:Nat),aJ K g H vs ds->aJ K g H (vs.drop n) (ds.drop n)
 |_,_,0,t=>t
 |_,_,_+1,.nil=>.nil
 |_,_,n+1,.cons _ t=>t.drop n
theorem aJ.set{v:V}{d:Dat}(r:Rep K g H v d):∀{vs:List V} {ds:List Dat} (i:Nat),aJ K g H vs ds->aJ K g H (vs.set i v) (ds.set i d)
 |_,_,_,.nil=>.nil
 |_,_,0,.cons _ t=>.cons r t
 |_,_,i+1,.cons h t=>.cons h (t.set r i)
theorem Gr.upd{l:Addr}{o o':HO}(k:Kd g H)(h:H l=some o)(w:(g.W l/\q=false)∨g.Lo l):Gr q g g H (L2.upd H l o') where
 keep:=fun a u e nw nl=>by
  rw[upd_ne (fun z=>by subst z;exact w.elim (fun w=>nw w.1) nl)]
  exact e
 keepW:=fun hq a u e wa=>by
  rcases w with w|w
  ·rw[hq]at w
   cases w.2
  ·rw[upd_ne (fun z=>by subst z;exact k.lo _ w wa)]
   exact e
 dom:=fun a e=>by
  by_cases z:a=l
  ·subst z
   rw[upd_same]at e
   cases e
  ·rw[upd_ne z]at e
   exact e
 tbl:=⟨[],by simp⟩
 W:=fun _ h=>h
 nW:=fun _ h=>.inl h
 qg:=fun _=>⟨rfl,rfl⟩
 Lc:=rfl
 Lo:=fun _ h=>h
 nLo:=fun _ h=>.inl h
theorem Kd.ex(k:Kd g H)(e:Ex H H'):Kd g H':=⟨fun a z=>let ⟨o,h,m⟩:=k.ob a z;⟨o,e a o h,m⟩,k.lo,k.lc⟩
theorem Kd.upd(k:Kd g H){l:Addr}{o:HO}(m:Jd o):Kd g (L2.upd H l o):=⟨fun a z=>by
 by_cases e:a=l
 ·subst e
  exact⟨o,upd_same,m⟩
 ·rw[upd_ne e]
  exact k.ob a z,k.lo,k.lc⟩
theorem Rep.ex(e:Ex H H')(k:Kd g H)(h:Rep K g H v d):Rep K g H' v d:=h.gr (Gr.ex (q:=true) e) k
theorem aJ.ex{vs:List V}{ds:List Dat}(e:Ex H H')(k:Kd g H)(h:aJ K g H vs ds):aJ K g H' vs ds:=h.gr (Gr.ex (q:=true) e) k
end
def keyD:Key->Dat
 |.inl i=>.int i
 |.inr x=>.str x
def iI(l:Addr)(o:Obj):HO:=.ext fun h=>h.get? l=some o
abbrev mV:Type:=NestedKey×Addr×Value
def adA(w:World)(x:mV):DictEntry:=⟨x.1.hash w,.ref x.2.1,x.2.2⟩
structure lA(w:World)(l:Addr)(o:Obj)(xs:List mV):Prop where
 sys:(l==sysModules)=false
 ex:o.ExactDict
 ent:∃es ep,o.data=.dict es ep/\es.toList=xs.map (adA w)
 nd:(xs.map (·.1)).Nodup
 len:xs.length<=sizeLine
 dep:∀x∈xs,x.1.depth<=8
def ju(K:aqf)(aj:aQ)(g:Gh)(H:Hp)(l:Addr):Bool->List (Dat×Dat)->Prop
 |false,kvs=>∃kv:List (Key×V),H l=some (.dK kv)/\kvs.map (·.1)=kv.map (fun p=>keyD p.1)/\aJ K g H (kv.map (·.2)) (kvs.map (·.2))
 |true,kvs=>∃(o:Obj) (xs:List mV) (vs:List V),H l=some (iI l o)/\lA aj.w l o xs/\kvs.map (·.1)=xs.map (fun x=>x.1.data)/\aJ K g H (xs.map fun x=>V.ref x.2.1) (kvs.map (·.1))/\Vals vs (xs.map (·.2.2))/\aJ K g H vs (kvs.map (·.2))
def dY(K:aqf)(aj:aQ)(g:Gh)(H:Hp)(h:Nat)(f:Str)(v:V):iW->Prop
 |.dat d=>Rep K g H v d
 |.lst n xs=>∃l us,v=.ref l/\H l=some (.lst us)/\g.ow l=some (h,f)/\aJ K g H us xs/\g.tbl[n]?=some l
 |.dic n kvs=>∃l,v=.ref l/\g.ow l=some (h,f)/\ju K aj g H l n kvs
inductive cI(K:aqf)(aj:aQ)(g:Gh)(H:Hp)(h:Nat):List (Str×V)->List (Str×iW)->Prop
 |nil:cI K aj g H h [] []
 |cons {f:Str} {v:V} {fl:iW} {fs:List (Str×V)} {gs:List (Str×iW)}:dY K aj g H h f v fl->cI K aj g H h fs gs->cI K aj g H h ((f,v)::fs) ((f,fl)::gs)
structure fV(K:aqf)(aj:aQ)(g:Gh)(H:Hp)(M:Mo):Prop where
 len:g.tbl.length=M.length
 inj:∀(h k:Nat) (a:Addr),g.tbl[h]?=some a->g.tbl[k]?=some a->h=k
 ins:∀(h:Nat) (a:Addr) (i:Inst),g.tbl[h]?=some a->M[h]?=some i->i.cls≠""->∃C dx fs,aj i.cls=some C/\H a=some (.ins C dx fs)/\cI K aj g H h fs i.fs
 nd:∀(h:Nat) (i:Inst),M[h]?=some i->(i.fs.map (·.1)).Nodup
 fd:∀(h:Nat) (i:Inst),M[h]?=some i->∀f∈i.fs.map (·.1),f∈aj.fl i.cls
 tw:∀(h:Nat) (a:Addr) (i:Inst),g.tbl[h]?=some a->M[h]?=some i->i.cls≠""->g.ow a=none
 dm:∀(h:Nat) (i:Inst),M[h]?=some i->i.cls=""->i.fs=[]
 nc:aj ""=none
structure SInv(K:aqf)(aj:aQ)(σ:L2.St)(H:Hp)(g:Gh)(ρ:Env)(M:Mo):Prop where
 kd:Kd g H
 wok:fV K aj g H M
 len:σ.length=ρ.length
 dat:∀(i:Nat) (d:Dat),ρ[i]?=some (some (.dat d))->∃v,σ[i]?=some (some v)/\Rep K g H v d
 own:∀(i:Nat) (xs:List Dat),ρ[i]?=some (some (.mut xs))->∃l us,σ[i]?=some (some (.ref l))/\H l=some (.lst us)/\g.Lo l/\aJ K g H us xs
 sep:∀(i j:Nat) (xs ys:List Dat) (l:Addr),i≠j->ρ[i]?=some (some (.mut xs))->ρ[j]?=some (some (.mut ys))->σ[i]?=some (some (.ref l))->σ[j]?≠some (some (.ref l))
section
variable{K:aqf}{aj:aQ}{q:Bool}{g g' g2:Gh}{H H' H2:Hp}{v:V}{d:Dat}{σ:L2.St}{ρ:Env}{M:Mo}
theorem ju.ex{l:Addr}:∀{n:Bool} {kvs:List (Dat×Dat)} (e:Ex H H') (k:Kd g H) (h:ju K aj g H l n kvs),ju K aj g H' l n kvs
 |false,_,e,k,⟨kv,h1,h2,h3⟩=>⟨kv,e _ _ h1,h2,h3.ex e k⟩
 |true,_,e,k,⟨o,xs,vs,h1,h2,h3,h4,h5,h6⟩=>⟨o,xs,vs,e _ _ h1,h2,h3,h4.ex e k,h5,h6.ex e k⟩
theorem dY.ex{h:Nat}{f:Str}(e:Ex H H')(k:Kd g H):∀{fl:iW},dY K aj g H h f v fl->dY K aj g H' h f v fl
 |.dat _,r=>Rep.ex e k r
 |.lst _ _,⟨l,us,h1,h2,h3,h4,h5⟩=>⟨l,us,h1,e _ _ h2,h3,h4.ex e k,h5⟩
 |.dic _ _,⟨l,h1,h2,h3⟩=>⟨l,h1,h2,h3.ex e k⟩
theorem cI.ex{h:Nat}(e:Ex H H')(k:Kd g H):∀{fs:List (Str×V)} {gs:List (Str×iW)},cI K aj g H h fs gs->cI K aj g H' h fs gs
 |_,_,.nil=>.nil
 |_,_,.cons r t=>.cons (dY.ex e k r) (cI.ex e k t)
theorem fV.ex(e:Ex H H')(k:Kd g H)(w:fV K aj g H M):fV K aj g H' M:=⟨w.len,w.inj,fun h a i ha hi hc=>by
 obtain⟨C,dx,fs,c1,c2,c3⟩:=w.ins h a i ha hi hc
 exact⟨C,dx,fs,c1,e _ _ c2,c3.ex e k⟩,w.nd,w.fd,w.tw,w.dm,w.nc⟩
theorem SInv.ex(e:Ex H H')(I:SInv K aj σ H g ρ M):SInv K aj σ H' g ρ M:=⟨I.kd.ex e,I.wok.ex e I.kd,I.len,fun i d h=>by
 obtain⟨v,h1,h2⟩:=I.dat i d h
 exact⟨v,h1,h2.ex e I.kd⟩,fun i xs h=>by
 obtain⟨l,us,h1,h2,h3,h4⟩:=I.own i xs h
 exact⟨l,us,h1,e _ _ h2,h3,h4.ex e I.kd⟩,I.sep⟩
theorem cI.get{h:Nat}{f:Str}{fl:iW}:∀{fs:List (Str×V)} {gs:List (Str×iW)},cI K aj g H h fs gs->gs.lookup f=some fl->∃v,fs.lookup f=some v/\dY K aj g H h f v fl
 |_,_,.nil,e=>nomatch e
 |_,_,.cons (f:=f') (v:=v) (fl:=fl') r t,e=>by
  rw[aqI]at e
  rw[aqI]
  cases hb:f==f' with
  |true=>
   rw[hb]at e
   cases e
   have ef:f=f':=by simpa using hb
   subst ef
   exact⟨v,rfl,r⟩
  |false=>
   rw[hb]at e
   exact t.get e
theorem cI.no{h:Nat}{f:Str}:∀{fs:List (Str×V)} {gs:List (Str×iW)},cI K aj g H h fs gs->gs.lookup f=none->fs.lookup f=none
 |_,_,.nil,_=>rfl
 |_,_,.cons (f:=f') (v:=v) (fl:=fl') r t,e=>by
  rw[aqI]at e
  rw[aqI]
  cases hb:f==f' with
  |true=>
   rw[hb]at e
   cases e
  |false=>
   rw[hb]at e
   exact t.no e
end
def Out.bind{α β:Type}(o:Out α)(k:α->Out β):Out β:=
 match o with
 |.ok a=>k a
 |.exc x=>.exc x
 |.bad=>.bad
def Out.sat{α:Type}(o:Out α)(P:α->Prop)(E:dN->Prop):Prop:=
 match o with
 |.ok a=>P a
 |.exc x=>E x
 |.bad=>False
@[simp]theorem Out.yV {α β:Type} (a:α) (k:α->Out β):(Out.ok a).bind k=k a:=rfl
@[simp]theorem Out.afh {α β:Type} (x:dN) (k:α->Out β):(Out.exc x:Out α).bind k=.exc x:=rfl
@[simp]theorem Out.aeh {α β:Type} (k:α->Out β):(Out.bad:Out α).bind k=.bad:=rfl
theorem Out.sat.bnd{α β:Type}{o:Out α}{k:α->Out β}{P:β->Prop}{E:dN->Prop}(h:(o.bind k).sat P E):o.sat (fun a=>(k a).sat P E) E:=by
 cases o <;> exact h
theorem Out.sat.mono{α:Type}{o:Out α}{P P':α->Prop}{E E':dN->Prop}(h:o.sat P E)(hp:∀a,P a->P' a)(he:∀x,E x->E' x):o.sat P' E':=by
 cases o
 ·exact hp _ h
 ·exact he _ h
 ·exact h
def Out.when{α:Type}(b:Bool)(o:Out α):Out α:=if b=true then o else .bad
@[simp]theorem Out.VD {α:Type} (o:Out α):Out.when true o=o:=rfl
@[simp]theorem Out.akA {α:Type} (o:Out α):Out.when false o=.bad:=rfl
theorem Out.sat.pY{α:Type}{b:Bool}{o:Out α}{P:α->Prop}{E:dN->Prop}(h:(Out.when b o).sat P E):b=true/\o.sat P E:=by
 cases b
 ·exact False.elim h
 ·exact⟨rfl,h⟩
inductive kZ(K:aqf)(g:Gh)(H:Hp):List (Str×V)->List (Str×Dat)->Prop
 |nil:kZ K g H [] []
 |cons {f:Str} {v:V} {d:Dat} {fs:List (Str×V)} {gs:List (Str×Dat)}:Rep K g H v d->kZ K g H fs gs->kZ K g H ((f,v)::fs) ((f,d)::gs)
def ql(K:aqf)(aj:aQ)(g:Gh)(H:Hp)(x:dN)(c:Value)(dd:Option Addr):Prop:=
 ∃C,aj x.cls=some C/\c=.ref C/\((x.fs=[]/\dd=none)∨∃a fs,dd=some a/\H a=some (.xd fs)/\kZ K g H fs x.fs)
abbrev QF:=Mo->Env->Out Dat
abbrev QT:=Mo->Env->Out Bool
abbrev QA:=Mo->Env->Out (List Dat)
section
variable(K:aqf)(aj:aQ)(W:WX)
def qM(g:Gh)(H:Hp)(σ:L2.St)(x:dN):Prop:=∀H' c dd,Ex H H'->ql K aj g H' x c dd->W c dd σ H'
def tQ(f:QF):TE:=fun σ H Q=>∃g ρ M,SInv K aj σ H g ρ M/\(f M ρ).sat (fun d=>∀v H',Ex H H'->Rep K g H' v d->Q v H') (qM K aj W g H σ)
def j9(f:QT):TT:=fun σ H Q=>∃g ρ M,SInv K aj σ H g ρ M/\(f M ρ).sat (fun b=>∀H',Ex H H'->Q b H') (qM K aj W g H σ)
def Nr(f:QA):TA:=fun σ H Q=>∃g ρ M,SInv K aj σ H g ρ M/\(f M ρ).sat (fun ds=>∀vs H',Ex H H'->aJ K g H' vs ds->Q vs H') (qM K aj W g H σ)
end
section
variable{K:aqf}{aj:aQ}{W:WX}{g:Gh}{H H1:Hp}{σ:L2.St}{ρ:Env}{M:Mo}
theorem qM.ex{x:dN}(e:Ex H H1)(h:qM K aj W g H σ x):qM K aj W g H1 σ x:=fun H' c dd e' r=>h H' c dd (e.trans e') r
theorem tQ.go{f:QF}{k:Dat->Prop}{Q:VK}(I:SInv K aj σ H g ρ M)(h:(f M ρ).sat k (qM K aj W g H σ))(hk:∀d v H',k d->Ex H H'->Rep K g H' v d->Q v H'):tQ K aj W f σ H Q:=
 ⟨g,ρ,M,I,h.mono (fun d hd v H' e r=>hk d v H' hd e r) fun _ z=>z⟩
theorem j9.go{f:QT}{k:Bool->Prop}{Q:Bool->Hp->Prop}(I:SInv K aj σ H g ρ M)(h:(f M ρ).sat k (qM K aj W g H σ))(hk:∀b H',k b->Ex H H'->Q b H'):j9 K aj W f σ H Q:=
 ⟨g,ρ,M,I,h.mono (fun d hd H' e=>hk d H' hd e) fun _ z=>z⟩
theorem Nr.go{f:QA}{k:List Dat->Prop}{Q:List V->Hp->Prop}(I:SInv K aj σ H g ρ M)(h:(f M ρ).sat k (qM K aj W g H σ))(hk:∀ds vs H',k ds->Ex H H'->aJ K g H' vs ds->Q vs H'):Nr K aj W f σ H Q:=
 ⟨g,ρ,M,I,h.mono (fun d hd v H' e r=>hk d v H' hd e r) fun _ z=>z⟩
end
def QE(aj:aQ)(X:Cx)(W:WX)(e:Expr)(f:QF):Prop:=PE X e (tQ X.K aj W f)
def rR(aj:aQ)(X:Cx)(W:WX)(e:Expr)(f:QT):Prop:=PT X e (j9 X.K aj W f)
def Gk(aj:aQ)(X:Cx)(W:WX)(es:List Expr)(f:QA):Prop:=PA X es (Nr X.K aj W f)
theorem PE.weak{X:Cx}{e:Expr}{t t':TE}(h:PE X e t)(k:∀σ H Q,t' σ H Q->t σ H Q):PE X e t':=⟨fun pins s σ H Q I q=>h.run pins s σ H Q I (k σ H Q q)⟩
theorem PT.weak{X:Cx}{e:Expr}{t t':TT}(h:PT X e t)(k:∀σ H Q,t' σ H Q->t σ H Q):PT X e t':=⟨fun pins s σ H Q I q=>h.run pins s σ H Q I (k σ H Q q)⟩
theorem PA.weak{X:Cx}{e:List Expr}{t t':TA}(h:PA X e t)(k:∀σ H Q,t' σ H Q->t σ H Q):PA X e t':=⟨fun pos pins s σ H Q I q=>h.run pos pins s σ H Q I (k σ H Q q)⟩
def aq(i:Nat):QF:=fun _ ρ=>match ρ[i]? with
 |some (some (.dat d))=>.ok d
 |_=>.bad
def qC(d:Dat):QF:=fun _ _=>.ok d
def aA(o:Dat->Dat->Out Dat)(a b:QF):QF:=fun M ρ=>(a M ρ).bind fun x=>(b M ρ).bind fun y=>o x y
def eX(o:Dat->Out Dat)(a:QF):QF:=fun M ρ=>(a M ρ).bind o
def au:QA:=fun _ _=>.ok []
def ak(a:QF)(r:QA):QA:=fun M ρ=>(a M ρ).bind fun x=>(r M ρ).bind fun xs=>.ok (x::xs)
def bJ(r:QA):QF:=fun M ρ=>(r M ρ).bind fun xs=>Out.when (decide (xs.length<=100000)) (.ok (.tuple xs))
def yt(r:QA):QF:=fun M ρ=>(r M ρ).bind fun xs=>Out.when (decide (xs.length<=100000)) (.ok (.list xs))
section
variable{X:Cx}{aj:aQ}{W:WX}{a b:Expr}{fa fb:QF}{pos:Pos}
theorem ajf{i:Nat}{x:Str}(hN:X.N[i]?=some x)(hv:Vis X.env.scope x)(hd:(x==("__debug__" : Str))=false)(hcd:(x==("__classdict__" : Str))=false):QE aj X W (.Name x pos) (aq i):=
 PE.weak (pe_var hN hv hd hcd) fun σ H Q ⟨g,ρ,M,I,h⟩=>by
  unfold aq at h
  split at h
  ·next d e=>
   obtain⟨v,h1,h2⟩:=I.dat i d e
   exact⟨v,h1,h v H (Ex.refl H) h2⟩
  ·exact False.elim h
theorem aks{i:Int}{j:Nat}:QE aj X W (.Constant (.int i) j pos) (qC (.int i)):=PE.weak pe_int fun σ H Q ⟨g,ρ,M,I,h⟩=>h _ H (Ex.refl H) (.int i)
theorem ajm{x:Str}{j:Nat}:QE aj X W (.Constant (.str x) j pos) (qC (.str x)):=PE.weak pe_str fun σ H Q ⟨g,ρ,M,I,h⟩=>h _ H (Ex.refl H) (.str x)
theorem akE{x:Bool}{j:Nat}:QE aj X W (.Constant (.bool x) j pos) (qC (.bool x)):=PE.weak pe_bl fun σ H Q ⟨g,ρ,M,I,h⟩=>h _ H (Ex.refl H) (.bl x)
theorem ah3{j:Nat}:QE aj X W (.Constant .none j pos) (qC .none):=PE.weak pe_non fun σ H Q ⟨g,ρ,M,I,h⟩=>h _ H (Ex.refl H) .non
theorem ai9:Gk aj X W [] au:=PA.weak pa_nil fun σ H Q ⟨g,ρ,M,I,h⟩=>h [] H (Ex.refl H) .nil
theorem agL{es:List Expr}{fr:QA}(ha:QE aj X W a fa)(hr:Gk aj X W es fr)(hs:starEach (a::es) X.env=(false,eval a X.env)::starEach es X.env):Gk aj X W (a::es) (ak fa fr):=
 PA.weak (pa_cons ha hr hs) fun σ H Q ⟨g,ρ,M,I,h⟩=>by
  refine tQ.go I h.bnd fun d v H1 h1 e1 r1=>?_
  refine Nr.go (I.ex e1) (h1.bnd.mono (fun _ z=>z) fun _ z=>z.ex e1) fun ds vs H2 h2 e2 r2=>?_
  exact h2 (v::vs) H2 (e1.trans e2) (.cons (r1.ex e2 (I.kd.ex e1)) r2)
theorem ajX{es:List Expr}{fr:QA}{k:Nat}(h:Gk aj X W es fr):QE aj X W (.Tuple es k pos) (bJ fr):=
 PE.weak (pe_tup h) fun σ H Q ⟨g,ρ,M,I,h⟩=>by
  refine Nr.go I h.bnd fun ds vs H1 h1 e1 r1=>?_
  obtain⟨hz,h1⟩:=h1.pY
  have hl:vs.length<=100000:=by
   rw[r1.length]
   exact of_decide_eq_true hz
  refine⟨sz_of hl,fun p np=>h1 (.ref p) _ (e1.trans (Ex.new np)) (.tup (st_of upd_same) (r1.ex (Ex.new np) (I.kd.ex e1)))⟩
theorem Kd.fresh{g:Gh}{H:Hp}(k:Kd g H){p:Addr}(n:H p=none):¬g.A p:=fun z=>by
 obtain⟨o,e,_⟩:=k.ob p z
 rw[n]at e
 cases e
theorem ah4{es:List Expr}{fr:QA}(h:Gk aj X W es fr):QE aj X W (.List es pos) (yt fr):=
 PE.weak (pe_lst h) fun σ H Q ⟨g,ρ,M,I,h⟩=>by
  refine Nr.go I h.bnd fun ds vs H1 h1 e1 r1=>?_
  obtain⟨hz,h1⟩:=h1.pY
  have hl:vs.length<=100000:=by
   rw[r1.length]
   exact of_decide_eq_true hz
  refine⟨sz_of hl,fun p np=>h1 (.ref p) _ (e1.trans (Ex.new np)) (.lst (.inl ⟨.inl upd_same,(I.kd.ex e1).fresh np⟩) (r1.ex (Ex.new np) (I.kd.ex e1)))⟩
end
def dZ(K:aqf)(g:Gh)(H:Hp)(v:V):Dat->Prop
 |.list ds=>∃a us,v=.ref a/\SqL K H a us/\aJ K g H us ds
 |d=>Rep K g H v d
section
variable{K:aqf}{g:Gh}{H H':Hp}{v:V}{d:Dat}
theorem Rep.weak(h:Rep K g H v d):dZ K g H v d:=by
 cases h with
 |lst a t=>exact⟨_,_,rfl,a.sq,t⟩
 |non=>exact .non
 |bl b=>exact .bl b
 |int i=>exact .int i
 |str x=>exact .str x
 |tup a t=>exact .tup a t
 |obj a=>exact .obj a
theorem dZ.ex(e:Ex H H')(k:Kd g H)(h:dZ K g H v d):dZ K g H' v d:=by
 cases d with
 |list ds=>
  obtain⟨a,us,h1,h2,h3⟩:=h
  exact⟨a,us,h1,ex_l e h2,h3.ex e k⟩
 |_=>exact Rep.ex e k h
theorem cG{i:Int}(h:dZ K g H v (.int i)):v=.int i:=by cases h;rfl
theorem jO{x:Str}(h:dZ K g H v (.str x)):v=.str x:=by cases h;rfl
theorem DK{b:Bool}(h:dZ K g H v (.bool b)):v=.bl b:=by cases h;rfl
theorem Et(h:dZ K g H v .none):v=.non:=by cases h;rfl
theorem lE{ds:List Dat}(h:dZ K g H v (.tuple ds)):∃a us,v=.ref a/\SqT K H a us/\aJ K g H us ds:=by
 cases h with
 |tup a t=>exact⟨_,_,rfl,a,t⟩
theorem jd{ds:List Dat}(h:dZ K g H v (.list ds)):∃a us,v=.ref a/\SqL K H a us/\aJ K g H us ds:=h
theorem Kl{n:Nat}(h:dZ K g H v (obj n)):∃a,v=.ref a/\g.tbl[n]?=some a:=by
 cases h with
 |obj a=>exact⟨_,rfl,a⟩
end
section
variable(K:aqf)(aj:aQ)(W:WX)
def tW(f:QF):TE:=fun σ H Q=>∃g ρ M,SInv K aj σ H g ρ M/\(f M ρ).sat (fun d=>∀v H',Ex H H'->dZ K g H' v d->Q v H') (qM K aj W g H σ)
end
theorem tW.go{K:aqf}{aj:aQ}{W:WX}{g:Gh}{H:Hp}{σ:L2.St}{ρ:Env}{M:Mo}{f:QF}{k:Dat->Prop}{Q:VK}(I:SInv K aj σ H g ρ M)(h:(f M ρ).sat k (qM K aj W g H σ))(hk:∀d v H',k d->Ex H H'->dZ K g H' v d->Q v H'):tW K aj W f σ H Q:=
 ⟨g,ρ,M,I,h.mono (fun d hd v H' e r=>hk d v H' hd e r) fun _ z=>z⟩
def QW(aj:aQ)(X:Cx)(W:WX)(e:Expr)(f:QF):Prop:=PE X e (tW X.K aj W f)
theorem QE.w{aj:aQ}{X:Cx}{W:WX}{e:Expr}{f:QF}(h:QE aj X W e f):QW aj X W e f:=
 PE.weak h fun σ H Q ⟨g,ρ,M,I,z⟩=>⟨g,ρ,M,I,z.mono (fun _ k v H' e r=>k v H' e r.weak) fun _ y=>y⟩
def ao(i:Nat):QF:=fun _ ρ=>match ρ[i]? with
 |some (some (.dat d))=>.ok d
 |some (some (.mut xs))=>.ok (.list xs)
 |_=>.bad
def qb(aj:aQ)(K:aqf)(W:WX)(o:Dat->Dat->Out Dat)(r:R2):Prop:=∀(σ:L2.St) (g:Gh) (H:Hp) (x y:V) (d e:Dat) (Q:VK),Kd g H->dZ K g H x d->dZ K g H y e->
 (o d e).sat (fun z=>∀v H',Ex H H'->Rep K g H' v z->Q v H') (qM K aj W g H σ)->r x y H Q
section
variable{X:Cx}{aj:aQ}{W:WX}{a b c:Expr}{fa fb fc:QF}{pos:Pos}
theorem akc{i:Nat}{x:Str}(hN:X.N[i]?=some x)(hv:Vis X.env.scope x)(hd:(x==("__debug__" : Str))=false)(hcd:(x==("__classdict__" : Str))=false):QW aj X W (.Name x pos) (ao i):=
 PE.weak (pe_var hN hv hd hcd) fun σ H Q ⟨g,ρ,M,I,h⟩=>by
  unfold ao at h
  split at h
  ·next d e=>
   obtain⟨v,h1,h2⟩:=I.dat i d e
   exact⟨v,h1,h v H (Ex.refl H) h2.weak⟩
  ·next xs e=>
   obtain⟨l,us,h1,h2,h3,h4⟩:=I.own i xs e
   exact⟨.ref l,h1,h _ H (Ex.refl H) ⟨l,us,rfl,sq_of h2,h4⟩⟩
  ·exact False.elim h
theorem QL{o:Dat->Dat->Out Dat}{r:R2}(ho:qb aj X.K W o r)(σ:L2.St)(H:Hp)(Q:VK)(h:tQ X.K aj W (aA o fa fb) σ H Q):tOp r (tW X.K aj W fa) (tW X.K aj W fb) σ H Q:=by
 obtain⟨g,ρ,M,I,h⟩:=h
 refine tW.go I h.bnd fun d v H1 h1 e1 r1=>?_
 refine tW.go (I.ex e1) (h1.bnd.mono (fun _ z=>z) fun _ z=>z.ex e1) fun d2 v2 H2 h2 e2 r2=>?_
 refine ho σ g H2 v v2 d d2 Q ((I.kd.ex e1).ex e2) (r1.ex e2 (I.kd.ex e1)) r2 (h2.mono (fun z hz u H' e' r'=>hz u H' ((e1.trans e2).trans e') r') fun _ z=>(z.ex e1).ex e2)
theorem aiH{op:Operator}{r:R2}{o:Dat->Dat->Out Dat}(hr:OpR X (binaryOp op) r)(ho:qb aj X.K W o r)(ha:QW aj X W a fa)(hb:QW aj X W b fb):QE aj X W (.BinOp a op b pos) (aA o fa fb):=
 PE.weak (pe_op hr ha hb) fun σ H Q h=>QL ho σ H Q h
theorem agI{op:CmpOp}{r:R2}{o:Dat->Dat->Out Dat}(hr:OpR X (compareOp op) r)(ho:qb aj X.K W o r)(ha:QW aj X W a fa)(hb:QW aj X W b fb)(hm:behindInMarks op b=false):QE aj X W (.Compare a [op] [b] pos) (aA o fa fb):=
 PE.weak (pe_cmpR hr ha hb hm) fun σ H Q h=>QL ho σ H Q h
end
instance:DecidableRel CMul:=fun i j=>by unfold CMul;infer_instance
instance:DecidableRel CDiv:=fun i j=>by unfold CDiv;infer_instance
instance:DecidableRel CPow:=fun i j=>by unfold CPow;infer_instance
def eV:Dat->Dat->Out Dat
 |.int i,.int j=>.ok (.int (i+j))
 |.str x,.str y=>Out.when (decide (x.length+y.length<=100000)) (.ok (.str (x++y)))
 |.list xs,.list ys=>Out.when (decide (xs.length+ys.length<=100000)) (.ok (.list (xs++ys)))
 |.tuple xs,.tuple ys=>Out.when (decide (xs.length+ys.length<=100000)) (.ok (.tuple (xs++ys)))
 |_,_=>.bad
def mK:Dat->Dat->Out Dat
 |.int i,.int j=>.ok (.int (i - j))
 |_,_=>.bad
def Ah:Dat->Dat->Out Dat
 |.int i,.int j=>Out.when (decide (CMul i j)) (.ok (.int (i * j)))
 |_,_=>.bad
def Iu:Dat->Dat->Out Dat
 |.int i,.int j=>Out.when (decide (CDiv i j)) (.ok (.int (i / j)))
 |_,_=>.bad
def oR:Dat->Dat->Out Dat
 |.int i,.int j=>Out.when (decide (0 < j)) (.ok (.int (i % j)))
 |_,_=>.bad
def Xu:Dat->Dat->Out Dat
 |.int i,.int j=>Out.when (decide (CPow i j)) (.ok (.int (i ^ j.toNat)))
 |_,_=>.bad
def rCatS(K:aqf):R2:=fun x y H Q=>∃l b xs zs,x=.ref l/\y=.ref b/\SqL K H l xs/\SqL K H b zs/\xs.length+zs.length<=sizeLine/\∀p,H p=none->Q (.ref p) (upd H p (.lst (xs++zs)))
theorem afZ{X:Cx}:OpR X (binaryOp .Add) (rCatS X.K):=by
 intro pins s σ H x y v u Q I rx ry h
 obtain⟨l,b,xs,zs,rfl,rfl,hH,hB,hz,q⟩:=h
 cases rx
 cases ry
 obtain⟨its,r,⟨⟨c1,d1,da1,s1⟩,n,e,hc,hd,hs⟩,_⟩:=I.list hH
 obtain⟨its2,r2,⟨⟨c2,d2,da2,s2⟩,n2,e2,hc2,hd2,hs2⟩,_⟩:=I.list hB
 simp only at hc hd hs hc2 hd2 hs2
 subst hc hd hs hc2 hd2 hs2
 have l1:=r.length
 have l2:=r2.length
 have ea:its.toArray++its2.toArray=(its++its2).toArray:=by simp
 refine concat_meets ⟨_,e,rfl⟩ ⟨_,e2,rfl⟩ noFill_list_add seq_list_add PySem.F.slot_list_add PySem.F.entry_list_add (PySem.F.args_list_add_2 _ _) (list_addW l b its.toArray its2.toArray n n2 none none s1 s2 (by rw[List.size_toArray,List.size_toArray];omega)) ⟨e,e2,?_⟩
 rw[ea]
 exact⟨.ref _,_,I.lnew (t':=s.toks) (r.append r2) (by rw[aqS];omega),rfl,q _ I.fresh⟩
def afM(K:aqf):R2:=fun x y H Q=>rI0 (fun i j=>.int (i+j)) x y H Q∨(∃i j,x=.str i/\y=.str j/\i.length+j.length<=sizeLine/\Q (.str (i++j)) H)∨rCatS K x y H Q∨rCatA K x y H Q
theorem ahg{X:Cx}:OpR X (binaryOp .Add) (afM X.K):=by
 intro pins s σ H x y v u Q I rx ry h
 rcases h with h|h|h|h
 ·exact op_add pins s σ H x y v u Q I rx ry h
 ·exact op_add_str pins s σ H x y v u Q I rx ry h
 ·exact afZ pins s σ H x y v u Q I rx ry h
 ·exact op_catA pins s σ H x y v u Q I rx ry h
section
variable{K:aqf}{aj:aQ}{W:WX}
theorem aiX:qb aj K W eV (afM K):=fun σ g H x y d e Q k rx ry h=>by
 unfold eV at h
 split at h
 ·exact .inl ⟨_,_,cG rx,cG ry,h _ H (Ex.refl H) (.int _)⟩
 ·obtain⟨hz,h⟩:=h.pY
  exact .inr (.inl ⟨_,_,jO rx,jO ry,sz_of (of_decide_eq_true hz),h _ H (Ex.refl H) (.str _)⟩)
 ·obtain⟨hz,h⟩:=h.pY
  obtain⟨l,us,e1,s1,t1⟩:=jd rx
  obtain⟨l2,us2,e2,s2,t2⟩:=jd ry
  have hl:=of_decide_eq_true hz
  rw[←t1.length,←t2.length]at hl
  refine .inr (.inr (.inl ⟨l,l2,us,us2,e1,e2,s1,s2,sz_of hl,fun p np=>h _ _ (Ex.new np) (.lst (.inl ⟨.inl upd_same,k.fresh np⟩) ((t1.append t2).ex (Ex.new np) k))⟩))
 ·obtain⟨hz,h⟩:=h.pY
  obtain⟨l,us,e1,s1,t1⟩:=lE rx
  obtain⟨l2,us2,e2,s2,t2⟩:=lE ry
  have hl:=of_decide_eq_true hz
  rw[←t1.length,←t2.length]at hl
  refine .inr (.inr (.inr ⟨l,l2,us,us2,e1,e2,s1,s2,sz_of hl,fun z=>?_,fun _ z=>?_,fun _ _ p np=>h _ _ (Ex.new np) (.tup (st_of upd_same) ((t1.append t2).ex (Ex.new np) k))⟩))
  ·subst z
   cases t1
   exact h _ H (Ex.refl H) (.tup s2 t2)
  ·subst z
   cases t2
   rw[aq0]at h
   exact h _ H (Ex.refl H) (.tup s1 t1)
 ·exact False.elim h
theorem ajg:qb aj K W mK (rI0 fun i j=>.int (i - j)):=fun σ g H x y d e Q k rx ry h=>by
 unfold mK at h
 split at h
 ·exact⟨_,_,cG rx,cG ry,h _ H (Ex.refl H) (.int _)⟩
 ·exact False.elim h
theorem aiE:qb aj K W Ah (rI CMul fun i j=>.int (i * j)):=fun σ g H x y d e Q k rx ry h=>by
 unfold Ah at h
 split at h
 ·obtain⟨hz,h⟩:=h.pY
  exact⟨_,_,cG rx,cG ry,of_decide_eq_true hz,h _ H (Ex.refl H) (.int _)⟩
 ·exact False.elim h
theorem ahJ:qb aj K W Iu (rI CDiv fun i j=>.int (i / j)):=fun σ g H x y d e Q k rx ry h=>by
 unfold Iu at h
 split at h
 ·obtain⟨hz,h⟩:=h.pY
  exact⟨_,_,cG rx,cG ry,of_decide_eq_true hz,h _ H (Ex.refl H) (.int _)⟩
 ·exact False.elim h
theorem aj4:qb aj K W oR (rI (fun _ j=>0 < j) fun i j=>.int (i % j)):=fun σ g H x y d e Q k rx ry h=>by
 unfold oR at h
 split at h
 ·obtain⟨hz,h⟩:=h.pY
  exact⟨_,_,cG rx,cG ry,of_decide_eq_true hz,h _ H (Ex.refl H) (.int _)⟩
 ·exact False.elim h
theorem ahZ:qb aj K W Xu (rI CPow fun i j=>.int (i ^ j.toNat)):=fun σ g H x y d e Q k rx ry h=>by
 unfold Xu at h
 split at h
 ·obtain⟨hz,h⟩:=h.pY
  exact⟨_,_,cG rx,cG ry,of_decide_eq_true hz,h _ H (Ex.refl H) (.int _)⟩
 ·exact False.elim h
end
mutual
def okd:Nat->Dat->Bool
 |_,.none=>true
 |_,.bool _=>true
 |_,.int _=>true
 |_,.str x=>PyData.strOk x
 |n+1,.list ds=>mU n ds
 |n+1,.tuple ds=>mU n ds
 |0,.list _=>false
 |0,.tuple _=>false
 |_,.dict _=>false
def mU:Nat->List Dat->Bool
 |_,[]=>true
 |n,d::ds=>okd n d&&mU n ds
end
mutual
theorem Sy:∀(n:Nat) (d:Dat),okd n d=true->d.canLay0=true/\d.depth<=n
 |n,.none,_=>⟨by simp[PyData.canLay0],by simp[PyData.depth]⟩
 |n,.bool _,_=>⟨by simp[PyData.canLay0],by simp[PyData.depth]⟩
 |n,.int _,_=>⟨by simp[PyData.canLay0],by simp[PyData.depth]⟩
 |n,.str x,h=>⟨by rw[okd]at h;simp[PyData.canLay0,h],by simp[PyData.depth]⟩
 |n+1,.list ds,h=>by
  rw[okd]at h
  obtain⟨h1,h2⟩:=Pa n ds h
  exact⟨by simp[PyData.canLay0,h1],by simp[PyData.depth];omega⟩
 |n+1,.tuple ds,h=>by
  rw[okd]at h
  obtain⟨h1,h2⟩:=Pa n ds h
  exact⟨by simp[PyData.canLay0,h1],by simp[PyData.depth];omega⟩
 |0,.list _,h=>by rw[okd]at h;cases h
 |0,.tuple _,h=>by rw[okd]at h;cases h
 |n,.dict _,h=>by rw[okd]at h;cases h
theorem Pa:∀(n:Nat) (ds:List Dat),mU n ds=true->PyData.canLayAll0 ds=true/\PyData.depthAll ds<=n
 |n,[],_=>⟨by simp[PyData.canLayAll0],by simp[PyData.depthAll]⟩
 |n,d::ds,h=>by
  rw[mU,aqg]at h
  obtain⟨h1,h2⟩:=Sy n d h.1
  obtain⟨h3,h4⟩:=Pa n ds h.2
  exact⟨by simp[PyData.canLayAll0,h1,h3],by simp[PyData.depthAll];omega⟩
end
mutual
theorem Rep.dp{K:aqf}{g:Gh}{H:Hp}:∀{n:Nat} {v:V} {d:Dat},okd n d=true->Rep K g H v d->Dp K H v d
 |_,_,_,_,.non=>.non
 |_,_,_,_,.bl b=>.bl b
 |_,_,_,_,.int i=>.int i
 |_,_,_,_,.str x=>.str x
 |n+1,_,_,f,.tup h t=>.tup h (aJ.dp (n:=n) (by rw[okd]at f;exact f) t)
 |n+1,_,_,f,.lst h t=>.lst h.sq (aJ.dp (n:=n) (by rw[okd]at f;exact f) t)
 |0,_,_,f,.tup h t=>by rw[okd]at f;cases f
 |0,_,_,f,.lst h t=>by rw[okd]at f;cases f
 |_,_,_,f,.obj h=>by rw[okd]at f;cases f
theorem aJ.dp{K:aqf}{g:Gh}{H:Hp}:∀{n:Nat} {vs:List V} {ds:List Dat},mU n ds=true->aJ K g H vs ds->DpAll K H vs ds
 |_,_,_,_,.nil=>.nil
 |n,_,_,f,.cons h t=>.cons (Rep.dp (n:=n) (by rw[mU,aqg]at f;exact f.1) h) (aJ.dp (n:=n) (by rw[mU,aqg]at f;exact f.2) t)
end
theorem dZ.dp{K:aqf}{g:Gh}{H:Hp}{n:Nat}{v:V}{d:Dat}(f:okd n d=true)(h:dZ K g H v d):Dp K H v d:=by
 cases d with
 |list ds=>
  obtain⟨a,us,rfl,h2,h3⟩:=h
  cases n with
  |zero=>rw[okd]at f;cases f
  |succ n=>
   rw[okd]at f
   exact .lst h2 (h3.dp f)
 |_=>exact Rep.dp f h
theorem Bo{n:Nat}{d:Dat}(h:okd n d=true)(hn:n<=64):SeqAt.shaped d=true:=by
 obtain⟨h1,h2⟩:=Sy n d h
 unfold SeqAt.shaped
 rw[h1,Bool.true_and]
 exact decide_eq_true (aqH h2 hn)
def eqB:Dat->Dat->Out Bool
 |.int i,.int j=>.ok (i==j)
 |.str x,.str y=>.ok (x==y)
 |.bool x,.bool y=>.ok (x==y)
 |.none,.none=>.ok true
 |d,e=>Out.when (okd 12 d&&okd 12 e) (.ok (PyData.eqv d e))
def cC(d e:Dat):Out Dat:=(eqB d e).bind fun b=>.ok (.bool b)
def u9(d e:Dat):Out Dat:=(eqB d e).bind fun b=>.ok (.bool (!b))
def ajh(K:aqf):R2:=fun x y H Q=>rEq x y H Q∨rEqD K x y H Q
def ajY(K:aqf):R2:=fun x y H Q=>rNe x y H Q∨rNeD K x y H Q
theorem ahG{X:Cx}(hu:X.A.units+64 < cLine):OpR X (compareOp .Eq) (ajh X.K):=fun pins s σ H x y v u Q I rx ry h=>h.elim (fun h=>op_eq pins s σ H x y v u Q I rx ry h) (fun h=>op_eqD hu pins s σ H x y v u Q I rx ry h)
theorem ai2{X:Cx}(hu:X.A.units+64 < cLine):OpR X (compareOp .NotEq) (ajY X.K):=fun pins s σ H x y v u Q I rx ry h=>h.elim (fun h=>op_ne pins s σ H x y v u Q I rx ry h) (fun h=>op_neD hu pins s σ H x y v u Q I rx ry h)
section
variable{K:aqf}{aj:aQ}{W:WX}{g:Gh}{H:Hp}
theorem ac3{x y:V}{d e:Dat}{P:Bool->Prop}{E:dN->Prop}(rx:dZ K g H x d)(ry:dZ K g H y e)(h:(eqB d e).sat P E):(scal x y=true/\P (decide (x=y)))∨(∃d e,Dp K H x d/\Dp K H y e/\SeqAt.shaped d=true/\SeqAt.shaped e=true/\P (PyData.eqv d e)):=by
 unfold eqB at h
 split at h
 ·cases cG rx;cases cG ry
  rw[dec_int]
  exact .inl ⟨rfl,h⟩
 ·cases jO rx;cases jO ry
  rw[dec_str]
  exact .inl ⟨rfl,h⟩
 ·cases DK rx;cases DK ry
  rw[dec_bl]
  exact .inl ⟨rfl,h⟩
 ·cases Et rx;cases Et ry
  exact .inl ⟨rfl,h⟩
 ·obtain⟨hz,h⟩:=h.pY
  rw[aqg]at hz
  exact .inr ⟨_,_,rx.dp hz.1,ry.dp hz.2,Bo hz.1 (by decide),Bo hz.2 (by decide),h⟩
theorem akG:qb aj K W cC (ajh K):=fun σ g H x y d e Q k rx ry h=>by
 rcases ac3 rx ry h.bnd with⟨h1,h2⟩|⟨d,e,h1,h2,h3,h4,h5⟩
 ·exact .inl ⟨h1,h2 _ H (Ex.refl H) (.bl _)⟩
 ·exact .inr ⟨d,e,h1,h2,h3,h4,h5 _ H (Ex.refl H) (.bl _)⟩
theorem akW:qb aj K W u9 (ajY K):=fun σ g H x y d e Q k rx ry h=>by
 rcases ac3 rx ry h.bnd with⟨h1,h2⟩|⟨d,e,h1,h2,h3,h4,h5⟩
 ·exact .inl ⟨h1,h2 _ H (Ex.refl H) (.bl _)⟩
 ·exact .inr ⟨d,e,h1,h2,h3,h4,h5 _ H (Ex.refl H) (.bl _)⟩
end
def Qy:Dat->Dat->Out Dat
 |.int i,.int j=>.ok (.bool (decide (i < j)))
 |.tuple ds,.tuple es=>Out.when (okd 12 (.tuple ds)&&okd 12 (.tuple es)&&PySem.W.alike (.tuple ds) (.tuple es)) (.ok (.bool (PySem.W.dataLt (.tuple ds) (.tuple es))))
 |_,_=>.bad
def uZ:Dat->Dat->Out Dat
 |.int i,.int j=>.ok (.bool (decide (i<=j)))
 |_,_=>.bad
def Xp:Dat->Dat->Out Dat
 |.int i,.int j=>.ok (.bool (decide (j < i)))
 |_,_=>.bad
def geD:Dat->Dat->Out Dat
 |.int i,.int j=>.ok (.bool (decide (j<=i)))
 |_,_=>.bad
def ahS(K:aqf):R2:=fun x y H Q=>rI0 (fun i j=>.bl (decide (i < j))) x y H Q∨Ear.Ra K x y H Q
theorem aiO{X:Cx}(hu:X.A.units+65 < cLine):OpR X (compareOp .Lt) (ahS X.K):=fun pins s σ H x y v u Q I rx ry h=>h.elim (fun h=>op_lt pins s σ H x y v u Q I rx ry h) (fun h=>Ear.aeR hu pins s σ H x y v u Q I rx ry h)
section
variable{K:aqf}{aj:aQ}{W:WX}{g:Gh}{H:Hp}
theorem alm:qb aj K W Qy (ahS K):=fun σ g H x y d e Q k rx ry h=>by
 unfold Qy at h
 split at h
 ·exact .inl ⟨_,_,cG rx,cG ry,h _ H (Ex.refl H) (.bl _)⟩
 ·obtain⟨hz,h⟩:=h.pY
  simp only[aqg]at hz
  refine .inr ?_
  unfold Ear.Ra
  exact⟨_,_,rx.dp hz.1.1,ry.dp hz.1.2,hz.2,(fun z=>nomatch z),aqH (Sy _ _ hz.1.1).2 (by decide),h _ H (Ex.refl H) (.bl _)⟩
 ·exact False.elim h
theorem akT:qb aj K W uZ (rI0 fun i j=>.bl (decide (i<=j))):=fun σ g H x y d e Q k rx ry h=>by
 unfold uZ at h
 split at h
 ·exact⟨_,_,cG rx,cG ry,h _ H (Ex.refl H) (.bl _)⟩
 ·exact False.elim h
theorem akM:qb aj K W Xp (rI0 fun i j=>.bl (decide (j < i))):=fun σ g H x y d e Q k rx ry h=>by
 unfold Xp at h
 split at h
 ·exact⟨_,_,cG rx,cG ry,h _ H (Ex.refl H) (.bl _)⟩
 ·exact False.elim h
theorem akX:qb aj K W geD (rI0 fun i j=>.bl (decide (j<=i))):=fun σ g H x y d e Q k rx ry h=>by
 unfold geD at h
 split at h
 ·exact⟨_,_,cG rx,cG ry,h _ H (Ex.refl H) (.bl _)⟩
 ·exact False.elim h
end
def lM(c:Dat):Dat->Bool
 |.none=>match c with
  |.none=>true
  |_=>false
 |.bool b=>match c with
  |.bool b'=>b==b'
  |_=>false
 |_=>false
def scD:Dat->Option V
 |.none=>some .non
 |.bool b=>some (.bl b)
 |_=>none
theorem aaR{K:aqf}{g:Gh}{H:Hp}{x:V}{d c:Dat}{v:V}(h:dZ K g H x d)(hc:scD c=some v):decide (x=v)=lM c d:=by
 cases c with
 |none=>
  cases hc
  cases d with
  |none=>cases Et h;rfl
  |bool b=>cases DK h;rfl
  |int b=>cases cG h;rfl
  |str b=>cases jO h;rfl
  |list b=>obtain⟨a,us,rfl,_⟩:=jd h;rfl
  |tuple b=>obtain⟨a,us,rfl,_⟩:=lE h;rfl
  |dict b=>cases h;rfl
 |bool c=>
  cases hc
  cases d with
  |none=>cases Et h;rfl
  |bool b=>cases DK h;exact dec_bl
  |int b=>cases cG h;rfl
  |str b=>cases jO h;rfl
  |list b=>obtain⟨a,us,rfl,_⟩:=jd h;rfl
  |tuple b=>obtain⟨a,us,rfl,_⟩:=lE h;rfl
  |dict b=>cases h;rfl
 |_=>cases hc
def Zg(neg:Bool)(v:V):R2:=fun x y H Q=>y=v/\Q (.bl (neg ^^ decide (x=v))) H
theorem acf{x v:V}{u w:Value}(hv:v=.non∨∃b,v=.bl b)(rx:RelV x u)(rv:RelV v w):(u==w)=decide (x=v):=by
 rcases hv with rfl|⟨b,rfl⟩
 ·cases rv
  exact rx.none_iff
 ·cases rv
  rw[aq7,beq_iff_eq,decide_eq_true_eq]
  constructor
  ·rintro rfl
   cases x with
   |bl c=>cases rx;rfl
   |non=>cases rx
   |ref _=>cases rx
   |ty _=>cases rx
   |_=>obtain⟨t,z⟩:=rx;cases z
  ·rintro rfl
   exact rx
theorem Uv{x v:V}{u w:Value}(hv:v=.non∨∃b,v=.bl b)(rx:RelV x u)(rv:RelV v w):plainIs u w=true:=by
 rcases hv with rfl | ⟨b,rfl⟩ <;> (cases rv;cases x <;> first | (cases rx;rfl) | (obtain⟨t,rfl⟩:=rx;rfl))
theorem akl{X:Cx}{v:V}(hv:v=.non∨∃b,v=.bl b):OpR X (compareOp .Is) (Zg false v):=by
 intro pins s σ H x y u w Q I rx ry h
 obtain⟨rfl,q⟩:=h
 refine wpAny_is_plain (Uv hv rx ry) ?_
 rw[acf hv rx ry]
 rw[Bool.false_xor]at q
 exact⟨.bl _,H,I,rfl,q⟩
theorem acL{X:Cx}{v:V}(hv:v=.non∨∃b,v=.bl b):OpR X (compareOp .IsNot) (Zg true v):=by
 intro pins s σ H x y u w Q I rx ry h
 obtain⟨rfl,q⟩:=h
 refine wpAny_isNot_plain (Uv hv rx ry) ?_
 rw[acf hv rx ry]
 rw[Bool.true_xor]at q
 exact⟨.bl _,H,I,rfl,q⟩
def yd(neg:Bool)(c:Dat)(a:QF):QF:=fun M ρ=>(a M ρ).bind fun d=>.ok (.bool (neg ^^ lM c d))
section
variable{X:Cx}{aj:aQ}{W:WX}{a b c:Expr}{fa fb fc:QF}{pos:Pos}
theorem akC{op:CmpOp}{neg:Bool}{d:Dat}{v:V}(hc:scD d=some v)(hr:OpR X (compareOp op) (Zg neg v))(ha:QW aj X W a fa)(hb:PE X b (tC v))(hm:behindInMarks op b=false):QE aj X W (.Compare a [op] [b] pos) (yd neg d fa):=
 PE.weak (pe_cmpR hr ha hb hm) fun σ H Q ⟨g,ρ,M,I,h⟩=>by
  refine tW.go I h.bnd fun e x H1 h1 e1 r1=>?_
  refine⟨rfl,?_⟩
  rw[aaR r1 hc]
  exact h1 _ H1 e1 (.bl _)
end
def Jj:Dat->Bool
 |.none=>true
 |.bool _=>true
 |.int _=>true
 |.str _=>true
 |_=>false
def inB:Dat->Dat->Out Bool
 |d,.list ds=>Out.when (okd 12 d&&mU 12 ds) (.ok (ds.any fun z=>PyData.eqv z d))
 |d,.tuple ds=>Out.when (Jj d&&ds.all Jj) (.ok (ds.any fun z=>PyData.eqv z d))
 |.str x,.str z=>match x.cps.toList with
  |[c]=>.ok (decide (c∈z.cps.toList))
  |_=>.bad
 |_,_=>.bad
def inD(neg:Bool)(d e:Dat):Out Dat:=(inB d e).bind fun b=>.ok (.bool (neg ^^ b))
section
variable{K:aqf}{g:Gh}{H:Hp}
theorem Xw{v:V}{d:Dat}(f:Jj d=true)(h:Rep K g H v d):flatV v=true:=by
 cases h with
 |tup _ _=>cases f
 |lst _ _=>cases f
 |obj _=>cases f
 |_=>rfl
theorem Va:∀{vs:List V} {ds:List Dat},ds.all Jj=true->aJ K g H vs ds->vs.all flatV=true
 |_,_,_,.nil=>rfl
 |_,_,f,.cons h t=>by
  rw[aqV,aqg]at f
  rw[aqV,Xw f.1 h,Va f.2 t]
  rfl
theorem agD{v w:V}{d e:Dat}(f1:Jj d=true)(f2:Jj e=true)(h1:Rep K g H v d)(h2:Rep K g H w e):eqV v w=PyData.eqv d e:=by
 cases h1 with
 |tup _ _=>cases f1
 |lst _ _=>cases f1
 |obj _=>cases f1
 |non=>cases h2 with
  |tup _ _=>cases f2
  |lst _ _=>cases f2
  |obj _=>cases f2
  |_=>simp[eqV,PyData.eqv]
 |bl b=>cases h2 with
  |tup _ _=>cases f2
  |lst _ _=>cases f2
  |obj _=>cases f2
  |_=>simp[eqV,PyData.eqv]
 |int b=>cases h2 with
  |tup _ _=>cases f2
  |lst _ _=>cases f2
  |obj _=>cases f2
  |_=>simp[eqV,PyData.eqv]
 |str b=>cases h2 with
  |tup _ _=>cases f2
  |lst _ _=>cases f2
  |obj _=>cases f2
  |_=>simp[eqV,PyData.eqv]
theorem aaf{w:V}{e:Dat}(f2:Jj e=true)(h2:Rep K g H w e):∀{vs:List V} {ds:List Dat},ds.all Jj=true->aJ K g H vs ds->inV w vs=ds.any fun z=>PyData.eqv z e
 |_,_,_,.nil=>rfl
 |v::vs,d::ds,f,.cons h t=>by
  rw[aqV,aqg]at f
  have ih:=aaf f2 h2 f.2 t
  unfold inV at ih ⊢
  rw[aq9,aq9,ih,agD f.1 f2 h h2]
theorem agK{v:V}{d:Dat}(f:Jj d=true)(h:dZ K g H v d):Rep K g H v d:=by
 cases d with
 |list _=>cases f
 |_=>exact h
end
def Xf(K:aqf)(neg:Bool):R2:=fun x y H Q=>(∃d ds,Dp K H x d/\Dp K H y (.list ds)/\SeqAt.shaped d=true/\SeqAt.shaped (.list ds)=true/\Q (.bl (neg ^^ (ds.any fun z=>PyData.eqv z d))) H)∨
 (∃p xs,y=.ref p/\(SqL K H p xs∨SqT K H p xs)/\flatV x=true/\xs.all flatV=true/\Q (.bl (neg ^^ inV x xs)) H)∨∃(c:Nat) (z:Str),x=.str ⟨#[c]⟩/\y=.str z/\Q (.bl (neg ^^ decide (c∈z.cps.toList))) H
theorem aiu{X:Cx}(hu:X.A.units+65 < cLine):OpR X (compareOp .In) (Xf X.K false):=fun pins s σ H x y v u Q I rx ry h=>by
 unfold Xf at h
 simp only[Bool.false_xor]at h
 rcases h with⟨d,ds,h⟩|⟨p,xs,h⟩|h
 ·exact op_inD hu pins s σ H x y v u Q I rx ry ⟨d,ds,h⟩
 ·exact op_in_seq pins s σ H x y v u Q I rx ry ⟨p,xs,h⟩
 ·exact op_in_sign pins s σ H x y v u Q I rx ry h
theorem ab6{X:Cx}(hu:X.A.units+65 < cLine):OpR X (compareOp .NotIn) (Xf X.K true):=fun pins s σ H x y v u Q I rx ry h=>by
 unfold Xf at h
 simp only[Bool.true_xor]at h
 rcases h with⟨d,ds,h⟩|⟨p,xs,h⟩|h
 ·exact op_notInD hu pins s σ H x y v u Q I rx ry ⟨d,ds,h⟩
 ·exact op_notIn_seq pins s σ H x y v u Q I rx ry ⟨p,xs,h⟩
 ·exact op_notIn_sign pins s σ H x y v u Q I rx ry h
theorem afs{K:aqf}{aj:aQ}{W:WX}{neg:Bool}:qb aj K W (inD neg) (Xf K neg):=fun σ g H x y d e Q k rx ry h=>by
 replace h:=Out.sat.bnd h
 unfold inB at h
 split at h
 ·next ds=>
  obtain⟨hz,h⟩:=h.pY
  rw[aqg]at hz
  have e2:okd 13 (.list ds)=true:=by rw[okd];exact hz.2
  exact .inl ⟨_,ds,rx.dp hz.1,ry.dp e2,Bo hz.1 (by decide),Bo e2 (by decide),h _ H (Ex.refl H) (.bl _)⟩
 ·next ds=>
  obtain⟨hz,h⟩:=h.pY
  rw[aqg]at hz
  obtain⟨p,us,rfl,h1,h2⟩:=lE ry
  have rx':=agK hz.1 rx
  refine .inr (.inl ⟨p,us,rfl,.inr h1,Xw hz.1 rx',Va hz.2 h2,?_⟩)
  rw[aaf hz.1 rx' hz.2 h2]
  exact h _ H (Ex.refl H) (.bl _)
 ·next xs z=>
  split at h
  ·next c e=>
   refine .inr (.inr ⟨c,z,?_,jO ry,h _ H (Ex.refl H) (.bl _)⟩)
   rw[jO rx]
   congr 1
   have:xs.cps=#[c]:=by
    apply Array.toList_inj.mp
    rw[e]
   cases xs
   simp only at this
   rw[this]
  ·exact False.elim h
 ·exact False.elim h
def O4:Dat->Out Dat
 |.int i=>.ok (.int (-i))
 |_=>.bad
def Ig:Dat->Out Bool
 |.none=>.ok false
 |.bool b=>.ok b
 |.int i=>.ok (i != 0)
 |.str x=>Out.when (decide (x.length<=100000)) (.ok (!x.cps.toList.isEmpty))
 |.list ds=>.ok (!ds.isEmpty)
 |.tuple ds=>.ok (!ds.isEmpty)
 |_=>.bad
def iD(a:QF):QT:=fun M ρ=>(a M ρ).bind Ig
def Bg:Dat->Out Bool
 |.bool b=>.ok b
 |_=>.bad
def bx(a:QF):QT:=fun M ρ=>(a M ρ).bind Bg
def jJ(a:QT):QT:=fun M ρ=>(a M ρ).bind fun b=>.ok (!b)
def jY(a b:QT):QT:=fun M ρ=>(a M ρ).bind fun x=>if x=true then b M ρ else .ok false
def Ef(a b:QT):QT:=fun M ρ=>(a M ρ).bind fun x=>if x=true then .ok true else b M ρ
def VH(a:QT):QF:=fun M ρ=>(a M ρ).bind fun b=>.ok (.bool b)
def Rp(t:QT)(a b:QF):QF:=fun M ρ=>(t M ρ).bind fun x=>if x=true then a M ρ else b M ρ
theorem Rb{K:aqf}{g:Gh}{H:Hp}{us:List V}{ds:List Dat}(h:aJ K g H us ds):(!ds.isEmpty)=!us.isEmpty:=by cases h <;> rfl
section
variable{X:Cx}{aj:aQ}{W:WX}{a b c:Expr}{fa fb fc:QF}{ta tb:QT}{pos:Pos}
theorem aiI(ha:QW aj X W a fa):QE aj X W (.UnaryOp .USub a pos) (eX O4 fa):=
 PE.weak (pe_un un_neg ha) fun σ H Q ⟨g,ρ,M,I,h⟩=>by
  refine tW.go I h.bnd fun d v H1 h1 e1 r1=>?_
  unfold O4 at h1
  split at h1
  ·exact⟨_,cG r1,h1 _ H1 e1 (.int _)⟩
  ·exact False.elim h1
theorem aiF{g:Gh}{H:Hp}{v:V}{d:Dat}{P:Bool->Prop}{E:dN->Prop}(r:dZ X.K g H v d)(h:(Ig d).sat P E):∃k,TruV X.K v H k/\P k:=by
 unfold Ig at h
 split at h
 ·cases Et r;exact⟨_,rfl,h⟩
 ·cases DK r;exact⟨_,rfl,h⟩
 ·cases cG r;exact⟨_,rfl,h⟩
 ·next x=>
  obtain⟨hz,h⟩:=h.pY
  cases jO r
  refine⟨_,⟨sz_of (of_decide_eq_true hz),?_⟩,h⟩
  have e:x.length=x.cps.toList.length:=by
   rw[aqP]
   rfl
  rw[e]
  cases x.cps.toList with
  |nil=>rfl
  |cons y ys=>
   refine Eq.symm (bne_iff_ne.mpr ?_)
   simp
   omega
 ·obtain⟨p,us,rfl,h1,h2⟩:=jd r
  rw[Rb h2]at h
  exact⟨_,.inl ⟨us,h1,rfl⟩,h⟩
 ·obtain⟨p,us,rfl,h1,h2⟩:=lE r
  rw[Rb h2]at h
  exact⟨_,.inr (.inl ⟨us,h1,rfl⟩),h⟩
 ·exact False.elim h
theorem ajN(ha:QW aj X W a fa)(he:∀whole,isTrue a X.env whole=(do let v ←whole;standAt a.pos;holding [v] (truthy v))):rR aj X W a (iD fa):=
 PT.weak (pt_truth ha he) fun σ H Q ⟨g,ρ,M,I,h⟩=>by
  refine tW.go I h.bnd fun d v H1 h1 e1 r1=>?_
  obtain⟨k,h2,h3⟩:=aiF r1 h1
  exact⟨k,h2,h3 H1 e1⟩
theorem Dt{g:Gh}{H:Hp}{v:V}{d:Dat}{P:Bool->Prop}{E:dN->Prop}(r:dZ X.K g H v d)(h:(Bg d).sat P E):∃k,v=.bl k/\P k:=by
 unfold Bg at h
 split at h
 ·cases DK r;exact⟨_,rfl,h⟩
 ·exact False.elim h
theorem aj0{op:CmpOp}{r:R2}{o:Dat->Dat->Out Dat}(hr:OpR X (compareOp op) r)(ho:qb aj X.K W o r)(ha:QW aj X W a fa)(hb:QW aj X W b fb)(hm:behindInMarks op b=false):rR aj X W (.Compare a [op] [b] pos) (bx (aA o fa fb)):=
 PT.weak (pt_cmpR hr ha hb hm) fun σ H Q ⟨g,ρ,M,I,h⟩=>by
  refine QL ho σ H _ ⟨g,ρ,M,I,h.bnd.mono (fun d h1 v H' e' r'=>?_) fun _ z=>z⟩
  obtain⟨k,h2,h3⟩:=Dt r'.weak h1
  exact⟨k,h2,h3 H' e'⟩
theorem akZ{op:CmpOp}{neg:Bool}{d:Dat}{v:V}(hc:scD d=some v)(hr:OpR X (compareOp op) (Zg neg v))(ha:QW aj X W a fa)(hb:PE X b (tC v))(hm:behindInMarks op b=false):rR aj X W (.Compare a [op] [b] pos) (bx (yd neg d fa)):=
 PT.weak (pt_cmpR hr ha hb hm) fun σ H Q ⟨g,ρ,M,I,h⟩=>by
  refine tW.go I h.bnd.bnd fun e x H1 h1 e1 r1=>?_
  refine⟨rfl,_,rfl,?_⟩
  rw[aaR r1 hc]
  exact h1 H1 e1
theorem ajj(ha:rR aj X W a ta):rR aj X W (.UnaryOp .Not a pos) (jJ ta):=
 PT.weak (pt_not ha) fun σ H Q ⟨g,ρ,M,I,h⟩=>j9.go I h.bnd fun b H1 h1 e1=>h1 H1 e1
def QWt(aj:aQ)(X:Cx)(W:WX)(e:Expr)(f:QT):Prop:=PW X e (j9 X.K aj W f)
theorem PW.weak{X:Cx}{e:Expr}{t t':TT}(h:PW X e t)(k:∀σ H Q,t' σ H Q->t σ H Q):PW X e t':=⟨fun wh pins s σ H Q I q=>h.run wh pins s σ H Q I (k σ H Q q)⟩
theorem ajO{rest:List Expr}(ha:rR aj X W a ta)(hb:QWt aj X W (.BoolOp .And (b::rest) pos) tb):QWt aj X W (.BoolOp .And (a::b::rest) pos) (jY ta tb):=
 PW.weak (pw_and ha hb) fun σ H Q ⟨g,ρ,M,I,h⟩=>by
  refine j9.go I h.bnd fun x H1 h1 e1=>?_
  cases x with
  |true=>exact⟨g,ρ,M,I.ex e1,h1.mono (fun b k H' e'=>k H' (e1.trans e')) fun _ z=>z.ex e1⟩
  |false=>exact h1 H1 e1
theorem alz{rest:List Expr}(ha:rR aj X W a ta)(hb:QWt aj X W (.BoolOp .Or (b::rest) pos) tb):QWt aj X W (.BoolOp .Or (a::b::rest) pos) (Ef ta tb):=
 PW.weak (pw_or ha hb) fun σ H Q ⟨g,ρ,M,I,h⟩=>by
  refine j9.go I h.bnd fun x H1 h1 e1=>?_
  cases x with
  |true=>exact h1 H1 e1
  |false=>exact⟨g,ρ,M,I.ex e1,h1.mono (fun b k H' e'=>k H' (e1.trans e')) fun _ z=>z.ex e1⟩
def Qq(a:QF):QF:=VH (jJ (bx a))
def zp(a b:QF):QF:=fun M ρ=>(a M ρ).bind fun d=>(Bg d).bind fun x=>if x=true then b M ρ else .ok (.bool false)
def afl(a b:QF):QF:=fun M ρ=>(a M ρ).bind fun d=>(Bg d).bind fun x=>if x=true then .ok (.bool true) else b M ρ
theorem ag5(ha:QW aj X W a fa):QE aj X W (.UnaryOp .Not a pos) (Qq fa):=
 PE.weak (pe_not ha) fun σ H Q ⟨g,ρ,M,I,h⟩=>by
  refine tW.go I h.bnd.bnd.bnd fun d v H1 h1 e1 r1=>?_
  obtain⟨k,h2,h3⟩:=Dt r1 h1
  exact⟨k,h2,h3 _ H1 e1 (.bl _)⟩
theorem ahu{rest:List Expr}(ha:QE aj X W a fa)(hb:QE aj X W (.BoolOp .And (b::rest) pos) fb):QE aj X W (.BoolOp .And (a::b::rest) pos) (zp fa fb):=
 PE.weak (pe_and ha hb) fun σ H Q ⟨g,ρ,M,I,h⟩=>by
  refine tQ.go I h.bnd fun d v H1 h1 e1 r1=>?_
  obtain⟨k,h2,h3⟩:=Dt r1.weak h1.bnd
  refine⟨k,h2,?_⟩
  cases k with
  |true=>exact⟨g,ρ,M,I.ex e1,h3.mono (fun b k v' H' e' r'=>k v' H' (e1.trans e') r') fun _ z=>z.ex e1⟩
  |false=>exact h3 _ H1 e1 (.bl false)
theorem ajH{rest:List Expr}(ha:QE aj X W a fa)(hb:QE aj X W (.BoolOp .Or (b::rest) pos) fb):QE aj X W (.BoolOp .Or (a::b::rest) pos) (afl fa fb):=
 PE.weak (pe_or ha hb) fun σ H Q ⟨g,ρ,M,I,h⟩=>by
  refine tQ.go I h.bnd fun d v H1 h1 e1 r1=>?_
  obtain⟨k,h2,h3⟩:=Dt r1.weak h1.bnd
  refine⟨k,h2,?_⟩
  cases k with
  |false=>exact⟨g,ρ,M,I.ex e1,h3.mono (fun b k v' H' e' r'=>k v' H' (e1.trans e') r') fun _ z=>z.ex e1⟩
  |true=>exact h3 _ H1 e1 (.bl true)
theorem aeK(hc:rR aj X W c ta)(ha:QE aj X W a fa)(hb:QE aj X W b fb):QE aj X W (.IfExp c a b pos) (Rp ta fa fb):=
 PE.weak (pe_ifExp hc ha hb) fun σ H Q ⟨g,ρ,M,I,h⟩=>by
  refine j9.go I h.bnd fun x H1 h1 e1=>?_
  cases x with
  |true=>exact⟨g,ρ,M,I.ex e1,h1.mono (fun b k v' H' e' r'=>k v' H' (e1.trans e') r') fun _ z=>z.ex e1⟩
  |false=>exact⟨g,ρ,M,I.ex e1,h1.mono (fun b k v' H' e' r'=>k v' H' (e1.trans e') r') fun _ z=>z.ex e1⟩
def oA(o o':Dat->Dat->Out Dat)(a b c:QF):QT:=fun M ρ=>(a M ρ).bind fun x=>(b M ρ).bind fun y=>(o x y).bind fun z=>(Bg z).bind fun k=>if k=true then(c M ρ).bind fun w=>(o' y w).bind Bg else .ok false
theorem YX{r r':R2}{o o':Dat->Dat->Out Dat}(ho:qb aj X.K W o r)(ho':qb aj X.K W o' r'){σ:L2.St}{H:Hp}{Q:VK}{P:Bool->Hp->Prop}(hP:∀k H',P k H'->Q (.bl k) H')(h:j9 X.K aj W (oA o o' fa fb fc) σ H P):tChain r r' (tW X.K aj W fa) (tW X.K aj W fb) (tW X.K aj W fc) σ H Q:=by
 obtain⟨g,ρ,M,I,h⟩:=h
 refine tW.go I h.bnd fun d v H1 h1 e1 r1=>?_
 have I1:=I.ex e1
 refine tW.go I1 (h1.bnd.mono (fun _ z=>z) fun _ z=>z.ex e1) fun d2 v2 H2 h2 e2 r2=>?_
 have I2:=I1.ex e2
 have r1':=r1.ex e2 I1.kd
 refine ho σ g H2 v v2 d d2 _ I2.kd r1' r2 (h2.bnd.mono (fun z hz u H3 e3 r3=>?_) fun _ z=>(z.ex e1).ex e2)
 obtain⟨k,h4,h5⟩:=Dt r3.weak hz.bnd
 refine⟨k,h4,?_⟩
 have I3:=I2.ex e3
 have e13:=(e1.trans e2).trans e3
 cases k with
 |false=>exact hP _ _ (h5 H3 e13)
 |true=>
  refine tW.go I3 (h5.bnd.mono (fun _ z=>z) fun _ z=>z.ex e13) fun d4 v4 H4 h6 e4 r4=>?_
  refine ho' σ g H4 v2 v4 d2 d4 _ (I3.ex e4).kd ((r2.ex e3 I2.kd).ex e4 I3.kd) r4 (h6.bnd.mono (fun z hz u H5 e5 r5=>?_) fun _ z=>(z.ex e13).ex e4)
  obtain⟨k,rfl,h8⟩:=Dt r5.weak hz
  exact hP _ _ (h8 H5 ((e13.trans e4).trans e5))
theorem aeG{op op':CmpOp}{r r':R2}{o o':Dat->Dat->Out Dat}(hr:OpR X (compareOp op) r)(hr':OpR X (compareOp op') r')(ho:qb aj X.K W o r)(ho':qb aj X.K W o' r')(ha:QW aj X W a fa)(hb:QW aj X W b fb)(hc:QW aj X W c fc)(hm:lastMarks [op,op'] [b,c]=false) :
  rR aj X W (.Compare a [op,op'] [b,c] pos) (oA o o' fa fb fc):=
 PT.weak (pt_chain hr hr' ha hb hc hm) fun σ H Q h=>YX ho ho' (fun k H' z=>⟨k,rfl,z⟩) h
theorem aeH{op op':CmpOp}{r r':R2}{o o':Dat->Dat->Out Dat}(hr:OpR X (compareOp op) r)(hr':OpR X (compareOp op') r')(ho:qb aj X.K W o r)(ho':qb aj X.K W o' r')(ha:QW aj X W a fa)(hb:QW aj X W b fb)(hc:QW aj X W c fc)(hm:lastMarks [op,op'] [b,c]=false) :
  QE aj X W (.Compare a [op,op'] [b,c] pos) (VH (oA o o' fa fb fc)):=
 PE.weak (pe_chain hr hr' ha hb hc hm) fun σ H Q ⟨g,ρ,M,I,h⟩=>YX (P:=fun b H1=>Q (.bl b) H1) ho ho' (fun k H' z=>z) ⟨g,ρ,M,I,h.bnd.mono (fun b h1 H' e'=>h1 _ H' e' (.bl b)) fun _ z=>z⟩
end
def aV:Dat->Dat->Out Dat
 |.list ds,.int i=>match atI ds i with
  |some d=>.ok d
  |none=>.bad
 |.tuple ds,.int i=>match atI ds i with
  |some d=>.ok d
  |none=>.bad
 |.str z,.int i=>Out.when (decide (z.length<=100000)) (match atI z.cps.toList i with
  |some c=>.ok (.str ⟨#[c]⟩)
  |none=>.bad)
 |_,_=>.bad
theorem aaK{K:aqf}{g:Gh}{H:Hp}{us:List V}{ds:List Dat}{i:Int}{d:Dat}(h:aJ K g H us ds)(e:atI ds i=some d):∃v,atI us i=some v/\Rep K g H v d:=by
 unfold atI at e ⊢
 rw[h.length]
 cases hj:ixN ds.length i with
 |none=>rw[hj]at e;cases e
 |some j=>
  rw[hj]at e
  obtain⟨v,h1,h2⟩:=h.get (i:=j) e
  exact⟨v,h1,h2⟩
def ahL(K:aqf):R2:=fun x y H Q=>rIxL K x y H Q∨rIxT K x y H Q∨rIxS x y H Q
theorem alU{X:Cx}:IxR X (ahL X.K):=fun value slice pins s σ H x y v u Q I rx ry h hs=>by
 rcases h with h|h|h
 ·exact ix_list value slice pins s σ H x y v u Q I rx ry h hs
 ·exact ix_tup value slice pins s σ H x y v u Q I rx ry h hs
 ·exact ix_str value slice pins s σ H x y v u Q I rx ry h hs
theorem alv{K:aqf}{aj:aQ}{W:WX}:qb aj K W aV (ahL K):=fun σ g H x y d e Q k rx ry h=>by
 unfold aV at h
 split at h
 ·split at h
  ·next z hz=>
   obtain⟨p,us,rfl,h1,h2⟩:=jd rx
   obtain⟨v,h3,h4⟩:=aaK h2 hz
   exact .inl ⟨p,us,_,v,rfl,cG ry,h1,h3,h v H (Ex.refl H) h4⟩
  ·exact False.elim h
 ·split at h
  ·next z hz=>
   obtain⟨p,us,rfl,h1,h2⟩:=lE rx
   obtain⟨v,h3,h4⟩:=aaK h2 hz
   exact .inr (.inl ⟨p,us,_,v,rfl,cG ry,h1,h3,h v H (Ex.refl H) h4⟩)
  ·exact False.elim h
 ·obtain⟨hl,h⟩:=h.pY
  split at h
  ·next c hz=>exact .inr (.inr ⟨_,_,c,jO rx,cG ry,sz_of (of_decide_eq_true hl),hz,h _ H (Ex.refl H) (.str _)⟩)
  ·exact False.elim h
 ·exact False.elim h
def cutD{α:Type}(xs:List α)(lo hi:Option Int):List α:=(xs.drop (HT.sIx xs.length 0 lo)).take (HT.sIx xs.length xs.length hi - HT.sIx xs.length 0 lo)
abbrev QO:=Mo->Env->Out (Option Int)
def Ab:QO:=fun _ _=>.ok none
def Ar:Dat->Out Int
 |.int i=>.ok i
 |_=>.bad
def qW(a:QF):QO:=fun M ρ=>(a M ρ).bind fun d=>(Ar d).bind fun i=>.ok (some i)
def slD(d:Dat)(lo hi:Option Int):Out Dat:=
 match d with
 |.list ds=>.ok (.list (cutD ds lo hi))
 |.tuple ds=>.ok (.tuple (cutD ds lo hi))
 |.str z=>Out.when (decide (z.length<=100000)) (.ok (.str (cutS z lo hi)))
 |_=>.bad
def M6(a:QF)(lo hi:QO):QF:=fun M ρ=>(a M ρ).bind fun d=>(lo M ρ).bind fun l=>(hi M ρ).bind fun h=>slD d l h
def tQO(K:aqf)(aj:aQ)(W:WX)(f:QO):TO:=fun σ H Q=>∃g ρ M,SInv K aj σ H g ρ M/\(f M ρ).sat (fun o=>∀H',Ex H H'->Q o H') (qM K aj W g H σ)
def QOe(aj:aQ)(X:Cx)(W:WX)(e:Option Expr)(f:QO):Prop:=PO X e (tQO X.K aj W f)
def ajU(K:aqf):V->Option Int->Option Int->Hp->VK->Prop:=fun x lo hi H Q=>rSlL K x lo hi H Q∨rSlA K x lo hi H Q∨rSlS x lo hi H Q
theorem alV{X:Cx}:SlR X (ajU X.K):=fun pins s σ H x v vl vu lo hi sl Q I rx hs pl pu h=>by
 rcases h with h|h|h
 ·exact sl_list pins s σ H x v vl vu lo hi sl Q I rx hs pl pu h
 ·exact sl_tupA pins s σ H x v vl vu lo hi sl Q I rx hs pl pu h
 ·exact sl_str pins s σ H x v vl vu lo hi sl Q I rx hs pl pu h
theorem alr{K:aqf}{g:Gh}{H:Hp}{x:V}{d:Dat}{lo hi:Option Int}{Q:VK}{E:dN->Prop}(k:Kd g H)(rx:dZ K g H x d)(h:(slD d lo hi).sat (fun z=>∀v H',Ex H H'->Rep K g H' v z->Q v H') E):ajU K x lo hi H Q:=by
 unfold slD at h
 have hc:∀{us:List V} {ds:List Dat},aJ K g H us ds->aJ K g H (cutV us lo hi) (cutD ds lo hi):=fun {us ds} t=>by
  unfold cutV cutD
  rw[t.length]
  exact(t.drop _).take _
 split at h
 ·obtain⟨p,us,rfl,h1,h2⟩:=jd rx
  exact .inl ⟨p,us,rfl,h1,fun q nq=>h _ _ (Ex.new nq) (.lst (.inl ⟨.inl upd_same,k.fresh nq⟩) ((hc h2).ex (Ex.new nq) k))⟩
 ·next ds=>
  obtain⟨p,us,rfl,h1,h2⟩:=lE rx
  refine .inr (.inl ⟨p,us,rfl,h1,fun z=>?_,fun _ q nq=>h _ _ (Ex.new nq) (.tup (st_of upd_same) ((hc h2).ex (Ex.new nq) k))⟩)
  have e:cutD ds lo hi=ds:=by
   unfold cutD
   rw[←h2.length,z.1,z.2,h2.length]
   simp
  rw[e]at h
  exact h _ H (Ex.refl H) (.tup h1 h2)
 ·obtain⟨hz,h⟩:=h.pY
  exact .inr (.inr ⟨_,jO rx,sz_of (of_decide_eq_true hz),h _ H (Ex.refl H) (.str _)⟩)
 ·exact False.elim h
section
variable{X:Cx}{aj:aQ}{W:WX}{a b:Expr}{fa fb:QF}{pos p2:Pos}
theorem akJ(ha:QW aj X W a fa)(hb:QW aj X W b fb)(hs:PlainIx b):QE aj X W (.Subscript a b pos) (aA aV fa fb):=
 PE.weak (pe_ix alU ha hb hs) fun σ H Q h=>QL alv σ H Q h
theorem PO.weak{X:Cx}{e:Option Expr}{t t':TO}(h:PO X e t)(k:∀σ H Q,t' σ H Q->t σ H Q):PO X e t':=⟨fun pins s σ H Q I q=>h.run pins s σ H Q I (k σ H Q q)⟩
theorem agB:QOe aj X W none Ab:=PO.weak po_none fun σ H Q ⟨g,ρ,M,I,h⟩=>h H (Ex.refl H)
theorem agZ(ha:QW aj X W a fa):QOe aj X W (some a) (qW fa):=PO.weak (po_some ha) fun σ H Q ⟨g,ρ,M,I,h⟩=>by
 refine tW.go I h.bnd fun d v H1 h1 e1 r1=>?_
 have h1:=h1.bnd
 unfold Ar at h1
 split at h1
 ·exact⟨_,cG r1,h1 H1 e1⟩
 ·exact False.elim h1
theorem akv{lo hi:Option Expr}{fl fh:QO}(ha:QW aj X W a fa)(hl:QOe aj X W lo fl)(hh:QOe aj X W hi fh):QE aj X W (.Subscript a (.Slice lo hi none p2) pos) (M6 fa fl fh):=
 PE.weak (pe_slice alV ha hl hh) fun σ H Q ⟨g,ρ,M,I,h⟩=>by
  refine tW.go I h.bnd fun d v H1 h1 e1 r1=>?_
  have I1:=I.ex e1
  refine⟨g,ρ,M,I1,h1.bnd.mono (fun l h2 H2 e2=>?_) fun _ z=>z.ex e1⟩
  have I2:=I1.ex e2
  refine⟨g,ρ,M,I2,h2.bnd.mono (fun u h3 H3 e3=>?_) fun _ z=>(z.ex e1).ex e2⟩
  exact alr (I2.ex e3).kd ((r1.ex e2 I1.kd).ex e3 I2.kd) (h3.mono (fun z hz v' H' e' r'=>hz v' H' (((e1.trans e2).trans e3).trans e') r') fun _ z=>z)
end
def Jr(aj:aQ)(K:aqf)(W:WX)(o:Dat->Out Dat)(r:List V->Hp->VK->Prop):Prop:=∀(σ:L2.St) (g:Gh) (H:Hp) (x:V) (d:Dat) (Q:VK),Kd g H->dZ K g H x d->
 (o d).sat (fun z=>∀v H',Ex H H'->Rep K g H' v z->Q v H') (qM K aj W g H σ)->r [x] H Q
def Fn2(aj:aQ)(K:aqf)(W:WX)(o:Dat->Dat->Out Dat)(r:List V->Hp->VK->Prop):Prop:=∀(σ:L2.St) (g:Gh) (H:Hp) (x y:V) (d e:Dat) (Q:VK),Kd g H->dZ K g H x d->dZ K g H y e->
 (o d e).sat (fun z=>∀v H',Ex H H'->Rep K g H' v z->Q v H') (qM K aj W g H σ)->r [x,y] H Q
def BV(f:Value)(x:Str):Prop:=bootBuiltins x=some f/\x≠"__name__"/\(x==("__debug__" : Str))=false
def nst:Expr->Bool
 |.Starred _ _=>false
 |_=>true
section
variable{X:Cx}{aj:aQ}{W:WX}{a b c:Expr}{fa fb fc:QF}{pos p:Pos}{x:Str}
theorem cO{env:PySem.Env}{a:Expr}(h:nst a=true)(es:List Expr):starEach (a::es) env=(false,eval a env)::starEach es env:=by
 cases a <;> first | rfl | cases h
theorem star_any{env:PySem.Env}{pos:Pos}:∀(es:List Expr),es.all nst=true->(backTo pos (starEach es env)).any (·.1)=false
 |[],_=>by with_unfolding_all rfl
 |a::es,h=>by
  rw[aqV,aqg]at h
  rw[cO h.1]
  have ih:=star_any (env:=env) (pos:=pos) es h.2
  unfold backTo at ih ⊢
  rw[aqj,aq9,ih]
  rfl
theorem afB{f:Value}{id:String}{r:List V->Hp->VK->Prop}{o:Dat->Out Dat}(hf:f=.builtin id∨f=.type id)(hc:CallR X f r)(ho:Jr aj X.K W o r)(hg:Gl X x)(hm:X.mg x=none)(hv:BV f x)(ha:QW aj X W a fa)(hs:nst a=true):QE aj X W (.Call (.Name x p) [a] [] pos) (eX o fa):=by
 have h1:=pa_cons ha pa_nil (cO hs [])
 have key:PE X (.Call (.Name x p) [a] [] pos) (tCB r (tCons (tW X.K aj W fa) tNil)):=by
  rcases hf with rfl|rfl
  ·exact pe_callB hc hg hm hv.1 h1 hv.2.1 hv.2.2 (cO hs []) (by with_unfolding_all rfl)
  ·exact pe_callTy hc hg hm hv.1 h1 hv.2.1 hv.2.2 (cO hs []) (by with_unfolding_all rfl)
 refine PE.weak key fun σ H Q ⟨g,ρ,M,I,h⟩=>?_
 refine tW.go I h.bnd fun d v H1 h1 e1 r1=>?_
 exact ho σ g H1 v d Q (I.kd.ex e1) r1 (h1.mono (fun z hz u H' e' r'=>hz u H' (e1.trans e') r') fun _ z=>z.ex e1)
theorem akx{f:Value}{id:String}{r:List V->Hp->VK->Prop}{o:Dat->Dat->Out Dat}(hf:f=.builtin id∨f=.type id)(hc:CallR X f r)(ho:Fn2 aj X.K W o r)(hg:Gl X x)(hm:X.mg x=none)(hv:BV f x)(ha:QW aj X W a fa)(hb:QW aj X W b fb)(hs:nst a=true)(hs2:nst b=true):QE aj X W (.Call (.Name x p) [a,b] [] pos) (aA o fa fb):=by
 have h1:=pa_cons ha (pa_cons hb pa_nil (cO hs2 [])) (cO hs [b])
 have key:PE X (.Call (.Name x p) [a,b] [] pos) (tCB r (tCons (tW X.K aj W fa) (tCons (tW X.K aj W fb) tNil))):=by
  rcases hf with rfl|rfl
  ·exact pe_callB hc hg hm hv.1 h1 hv.2.1 hv.2.2 (cO hs [b]) (star_any [b] (by simp[hs2]))
  ·exact pe_callTy hc hg hm hv.1 h1 hv.2.1 hv.2.2 (cO hs [b]) (star_any [b] (by simp[hs2]))
 refine PE.weak key fun σ H Q ⟨g,ρ,M,I,h⟩=>?_
 refine tW.go I h.bnd fun d v H1 h1 e1 r1=>?_
 have I1:=I.ex e1
 refine tW.go I1 (h1.bnd.mono (fun _ z=>z) fun _ z=>z.ex e1) fun d2 v2 H2 h2 e2 r2=>?_
 exact ho σ g H2 v v2 d d2 Q (I1.ex e2).kd (r1.ex e2 I1.kd) r2 (h2.mono (fun z hz u H' e' r'=>hz u H' ((e1.trans e2).trans e') r') fun _ z=>(z.ex e1).ex e2)
end
def pB:Dat->Out Dat
 |.list ds=>.ok (.int ds.length)
 |.tuple ds=>.ok (.int ds.length)
 |.str x=>Out.when (decide (x.length<=100000)) (.ok (.int x.length))
 |_=>.bad
def Uh:Dat->Out Dat
 |.int i=>.ok (.int (if i < 0 then -i else i))
 |_=>.bad
def qD:Dat->Dat->Out Dat
 |.int i,.int j=>.ok (.int (if j > i then j else i))
 |_,_=>.bad
def HX:Dat->Dat->Out Dat
 |.int i,.int j=>.ok (.int (if j < i then j else i))
 |_,_=>.bad
def intsOf:List Dat->Option (List Int)
 |[]=>some []
 |.int i::r=>(intsOf r).map (i::·)
 |_::_=>none
def uG:List Dat->Option (List Bool)
 |[]=>some []
 |.bool i::r=>(uG r).map (i::·)
 |_::_=>none
theorem Ip{K:aqf}{g:Gh}{H:Hp}:∀{us:List V} {ds:List Dat} {ns:List Int},aJ K g H us ds->intsOf ds=some ns->us=ns.map V.int
 |_,_,ns,.nil,e=>by cases e;rfl
 |_,_,ns,.cons (d:=d) (ds:=ds) h t,e=>by
  cases d with
  |int i=>
   rw[intsOf]at e
   cases hr:intsOf ds with
   |none=>rw[hr]at e;cases e
   |some r=>
    rw[hr]at e
    cases e
    cases h
    rw[Ip t hr]
    rfl
  |_=>cases e
theorem JF{K:aqf}{g:Gh}{H:Hp}:∀{us:List V} {ds:List Dat} {ns:List Bool},aJ K g H us ds->uG ds=some ns->us=ns.map V.bl
 |_,_,ns,.nil,e=>by cases e;rfl
 |_,_,ns,.cons (d:=d) (ds:=ds) h t,e=>by
  cases d with
  |bool i=>
   rw[uG]at e
   cases hr:uG ds with
   |none=>rw[hr]at e;cases e
   |some r=>
    rw[hr]at e
    cases e
    cases h
    rw[JF t hr]
    rfl
  |_=>cases e
@[simp]theorem Br (ns:List Int):intsOf (ns.map PyData.int)=some ns:=by
 induction ns with
 |nil=>rfl
 |cons n ns ih=>rw[aqj,intsOf,ih];rfl
@[simp]theorem Du (ns:List Bool):uG (ns.map PyData.bool)=some ns:=by
 induction ns with
 |nil=>rfl
 |cons n ns ih=>rw[aqj,uG,ih];rfl
def Ue:Dat->Out Dat
 |.list ds=>match intsOf ds with
  |some ns=>.ok (.int ns.sum)
  |none=>.bad
 |_=>.bad
def Ed:Int->List Int->Int
 |m,[]=>m
 |m,n::ns=>Ed (if n > m then n else m) ns
theorem DW:∀(ns:List Int) (m:Int),(Ed m ns∈m::ns)/\∀y∈m::ns,y<=Ed m ns
 |[],m=>⟨by simp[Ed],fun y h=>by simp at h;subst h;exact Int.le_refl _⟩
 |n::ns,m=>by
  obtain⟨h1,h2⟩:=DW ns (if n > m then n else m)
  have hm:m<=(if n > m then n else m):=by split <;> omega
  have hn:n<=(if n > m then n else m):=by split <;> omega
  have h3:=h2 _ aql
  refine⟨?_,fun y hy=>?_⟩
  ·show Ed (if n > m then n else m) ns∈_
   rcases aqv.mp h1 with e|e
   ·rw[e]
    split
    ·exact aqk _ aql
    ·exact aql
   ·exact aqk _ (aqk _ e)
  ·show y<=Ed (if n > m then n else m) ns
   rcases aqv.mp hy with e|hy
   ·omega
   ·rcases aqv.mp hy with e|hy
    ·omega
    ·exact h2 y (aqk _ hy)
def maxD:Dat->Out Dat
 |.list ds=>match intsOf ds with
  |some (n::ns)=>.ok (.int (Ed n ns))
  |_=>.bad
 |_=>.bad
def N8:Dat->Out Dat
 |.list ds=>match uG ds with
  |some bs=>.ok (.bool (bs.all id))
  |none=>.bad
 |_=>.bad
def N5:Dat->Out Dat
 |.list ds=>match uG ds with
  |some bs=>.ok (.bool (bs.any id))
  |none=>.bad
 |_=>.bad
def mJ:Dat->Out Dat
 |.list ds=>.ok (.tuple ds)
 |.tuple ds=>.ok (.tuple ds)
 |_=>.bad
def Mj:Dat->Out Dat
 |.list ds=>.ok (.list ds)
 |.tuple ds=>.ok (.list ds)
 |_=>.bad
def intD:Dat->Out Dat
 |.int i=>.ok (.int i)
 |.bool k=>.ok (.int (if k then 1 else 0))
 |.str x=>Out.when (decide (x.length<=640)) (match PySem.intText? x with
  |some n=>.ok (.int n)
  |none=>.bad)
 |_=>.bad
def afI(K:aqf):List V->Hp->VK->Prop:=fun xs H Q=>(∃p ys,xs=[.ref p]/\(SqL K H p ys∨SqT K H p ys)/\Q (.int ys.length) H)∨∃z,xs=[.str z]/\z.length<=sizeLine/\Q (.int z.length) H
theorem aje{X:Cx}:CallR X (.builtin "len") (afI X.K):=fun pins s σ H xs us Q I r h=>h.elim (fun h=>call_len_seq pins s σ H xs us Q I r h) fun h=>call_len_str pins s σ H xs us Q I r h
def afA:List V->Hp->VK->Prop:=fun xs H Q=>((∃i,xs=[.int i]/\Q (.int i) H)∨∃k,xs=[.bl k]/\Q (.int (if k then 1 else 0)) H)∨∃a n,xs=[.str a]/\PySem.intText? a=some n/\a.length<=640/\Q (.int n) H
theorem aj2{X:Cx}:CallR X (.type "int") afA:=fun pins s σ H xs us Q I r h=>h.elim (fun h=>call_int1 pins s σ H xs us Q I r h) fun h=>call_int_str pins s σ H xs us Q I r h
section
variable{K:aqf}{aj:aQ}{W:WX}
theorem ais:Jr aj K W pB (afI K):=fun σ g H x d Q k rx h=>by
 unfold pB at h
 split at h
 ·obtain⟨p,us,rfl,h1,h2⟩:=jd rx
  rw[←h2.length]at h
  exact .inl ⟨p,us,rfl,.inl h1,h _ H (Ex.refl H) (.int _)⟩
 ·obtain⟨p,us,rfl,h1,h2⟩:=lE rx
  rw[←h2.length]at h
  exact .inl ⟨p,us,rfl,.inr h1,h _ H (Ex.refl H) (.int _)⟩
 ·obtain⟨hz,h⟩:=h.pY
  cases jO rx
  exact .inr ⟨_,rfl,sz_of (of_decide_eq_true hz),h _ H (Ex.refl H) (.int _)⟩
 ·exact False.elim h
theorem akm:Jr aj K W Uh (fun xs H Q=>∃i,xs=[.int i]/\Q (.int (if i < 0 then -i else i)) H):=fun σ g H x d Q k rx h=>by
 unfold Uh at h
 split at h
 ·cases cG rx
  exact⟨_,rfl,h _ H (Ex.refl H) (.int _)⟩
 ·exact False.elim h
theorem ahq:Fn2 aj K W qD (fun xs H Q=>∃i j,xs=[.int i,.int j]/\Q (.int (if j > i then j else i)) H):=fun σ g H x y d e Q k rx ry h=>by
 unfold qD at h
 split at h
 ·cases cG rx;cases cG ry
  exact⟨_,_,rfl,h _ H (Ex.refl H) (.int _)⟩
 ·exact False.elim h
theorem agE:Fn2 aj K W HX (fun xs H Q=>∃i j,xs=[.int i,.int j]/\Q (.int (if j < i then j else i)) H):=fun σ g H x y d e Q k rx ry h=>by
 unfold HX at h
 split at h
 ·cases cG rx;cases cG ry
  exact⟨_,_,rfl,h _ H (Ex.refl H) (.int _)⟩
 ·exact False.elim h
theorem aio:Jr aj K W Ue (rSum K):=fun σ g H x d Q k rx h=>by
 unfold Ue at h
 split at h
 ·split at h
  ·next ns e=>
   obtain⟨p,us,rfl,h1,h2⟩:=jd rx
   have:=Ip h2 e
   subst this
   exact⟨p,ns,rfl,h1,h _ H (Ex.refl H) (.int _)⟩
  ·exact False.elim h
 ·exact False.elim h
theorem ajc:Jr aj K W maxD (rMax K):=fun σ g H x d Q k rx h=>by
 unfold maxD at h
 split at h
 ·split at h
  ·next n ns e=>
   obtain⟨p,us,rfl,h1,h2⟩:=jd rx
   have:=Ip h2 e
   subst this
   obtain⟨m1,m2⟩:=DW ns n
   refine⟨p,n::ns,rfl,h1,by simp,fun m hm hy=>?_⟩
   have e2:m=Ed n ns:=Int.le_antisymm (m2 m hm) (hy _ m1)
   rw[e2]
   exact h _ H (Ex.refl H) (.int _)
  ·exact False.elim h
 ·exact False.elim h
theorem akg:Jr aj K W N8 (rAll K):=fun σ g H x d Q k rx h=>by
 unfold N8 at h
 split at h
 ·split at h
  ·next ns e=>
   obtain⟨p,us,rfl,h1,h2⟩:=jd rx
   have:=JF h2 e
   subst this
   exact⟨p,ns,rfl,h1,h _ H (Ex.refl H) (.bl _)⟩
  ·exact False.elim h
 ·exact False.elim h
theorem ai7:Jr aj K W N5 (rAny K):=fun σ g H x d Q k rx h=>by
 unfold N5 at h
 split at h
 ·split at h
  ·next ns e=>
   obtain⟨p,us,rfl,h1,h2⟩:=jd rx
   have:=JF h2 e
   subst this
   exact⟨p,ns,rfl,h1,h _ H (Ex.refl H) (.bl _)⟩
  ·exact False.elim h
 ·exact False.elim h
theorem aeM:Jr aj K W mJ (fun xs H Q=>∃p ys,xs=[.ref p]/\((SqL K H p ys/\∀l,H l=none->Q (.ref l) (upd H l (.tup ys)))∨(SqT K H p ys/\Q (.ref p) H))):=fun σ g H x d Q k rx h=>by
 unfold mJ at h
 split at h
 ·obtain⟨p,us,rfl,h1,h2⟩:=jd rx
  exact⟨p,us,rfl,.inl ⟨h1,fun l nl=>h _ _ (Ex.new nl) (.tup (st_of upd_same) (h2.ex (Ex.new nl) k))⟩⟩
 ·obtain⟨p,us,rfl,h1,h2⟩:=lE rx
  exact⟨p,us,rfl,.inr ⟨h1,h _ H (Ex.refl H) (.tup h1 h2)⟩⟩
 ·exact False.elim h
theorem agb:Jr aj K W Mj (fun xs H Q=>∃p ys,xs=[.ref p]/\(SqL K H p ys∨SqT K H p ys)/\∀l,H l=none->Q (.ref l) (upd H l (.lst ys))):=fun σ g H x d Q k rx h=>by
 unfold Mj at h
 split at h
 ·obtain⟨p,us,rfl,h1,h2⟩:=jd rx
  exact⟨p,us,rfl,.inl h1,fun l nl=>h _ _ (Ex.new nl) (.lst (.inl ⟨.inl upd_same,k.fresh nl⟩) (h2.ex (Ex.new nl) k))⟩
 ·obtain⟨p,us,rfl,h1,h2⟩:=lE rx
  exact⟨p,us,rfl,.inr h1,fun l nl=>h _ _ (Ex.new nl) (.lst (.inl ⟨.inl upd_same,k.fresh nl⟩) (h2.ex (Ex.new nl) k))⟩
 ·exact False.elim h
theorem aiq:Jr aj K W intD afA:=fun σ g H x d Q k rx h=>by
 unfold intD at h
 split at h
 ·cases cG rx
  exact .inl (.inl ⟨_,rfl,h _ H (Ex.refl H) (.int _)⟩)
 ·cases DK rx
  exact .inl (.inr ⟨_,rfl,h _ H (Ex.refl H) (.int _)⟩)
 ·obtain⟨hz,h⟩:=h.pY
  split at h
  ·next n e=>
   cases jO rx
   exact .inr ⟨_,n,rfl,e,of_decide_eq_true hz,h _ H (Ex.refl H) (.int _)⟩
  ·exact False.elim h
 ·exact False.elim h
end
inductive M9 where
 |int|bool|str|tuple|list
def M9.name:M9->String
 |.int=>"int"
 |.bool=>"bool"
 |.str=>"str"
 |.tuple=>"tuple"
 |.list=>"list"
def Ax(t:M9):Dat->Option Bool
 |.none=>some false
 |.int _=>some (match t with
  |.int=>true
  |_=>false)
 |.bool _=>some (match t with
  |.int=>true
  |.bool=>true
  |_=>false)
 |.str _=>some (match t with
  |.str=>true
  |_=>false)
 |.tuple _=>some (match t with
  |.tuple=>true
  |_=>false)
 |.list _=>some (match t with
  |.list=>true
  |_=>false)
 |.dict _=>none
def yM(t:M9)(d:Dat):Out Dat:=match Ax t d with
 |some b=>.ok (.bool b)
 |none=>.bad
def ajn:Dat->String
 |.none=>"NoneType"
 |.int _=>"int"
 |.bool _=>"bool"
 |.str _=>"str"
 |.tuple _=>"tuple"
 |.list _=>"list"
 |.dict _=>"dict"
theorem ait{K:aqf}{H:Hp}{a:Addr}{xs:List V}(h:SqL K H a xs):TyX K H (.ref a) (.type "list"):=by
 rcases h with(h|⟨o,h⟩)|⟨o,its,n,h1,h2,_⟩
 ·exact .base (.lst h)
 ·exact .base (.frz h)
 ·exact .kList h1 h2
theorem ah6{K:aqf}{H:Hp}{a:Addr}{xs:List V}(h:SqT K H a xs):TyX K H (.ref a) (.type "tuple"):=by
 rcases h with(h|⟨o,h⟩)|⟨o,its,n,h1,h2,_⟩
 ·exact .base (.tup h)
 ·exact .fTuple h
 ·exact .kTuple h1 h2
theorem alq{K:aqf}{g:Gh}{H:Hp}{x:V}{d:Dat}(h:dZ K g H x d)(hd:∀kv,d≠.dict kv):TyX K H x (.type (ajn d)):=by
 cases d with
 |none=>cases Et h;exact .base .non
 |bool b=>cases DK h;exact .base (.bl _)
 |int b=>cases cG h;exact .base (.int _)
 |str b=>cases jO h;exact .base (.str _)
 |list b=>obtain⟨a,us,rfl,h1,_⟩:=jd h;exact ait h1
 |tuple b=>obtain⟨a,us,rfl,h1,_⟩:=lE h;exact ah6 h1
 |dict kv=>exact absurd rfl (hd kv)
theorem Zx{K:aqf}:PySem.W.kitOne K (.type "int") (.type "int")=some true:=kit_ty (by decide +kernel)
theorem Xi{K:aqf}:PySem.W.kitOne K (.type "int") (.type "bool")=some false:=kit_ty (by decide +kernel)
theorem ZR{K:aqf}:PySem.W.kitOne K (.type "int") (.type "str")=some false:=kit_ty (by decide +kernel)
theorem V6{K:aqf}:PySem.W.kitOne K (.type "int") (.type "tuple")=some false:=kit_ty (by decide +kernel)
theorem YM{K:aqf}:PySem.W.kitOne K (.type "int") (.type "list")=some false:=kit_ty (by decide +kernel)
theorem YW{K:aqf}:PySem.W.kitOne K (.type "bool") (.type "int")=some true:=kit_ty (by decide +kernel)
theorem Wy{K:aqf}:PySem.W.kitOne K (.type "bool") (.type "bool")=some true:=kit_ty (by decide +kernel)
theorem Zr{K:aqf}:PySem.W.kitOne K (.type "bool") (.type "str")=some false:=kit_ty (by decide +kernel)
theorem Td{K:aqf}:PySem.W.kitOne K (.type "bool") (.type "tuple")=some false:=kit_ty (by decide +kernel)
theorem V5{K:aqf}:PySem.W.kitOne K (.type "bool") (.type "list")=some false:=kit_ty (by decide +kernel)
theorem Z8{K:aqf}:PySem.W.kitOne K (.type "str") (.type "int")=some false:=kit_ty (by decide +kernel)
theorem Yk{K:aqf}:PySem.W.kitOne K (.type "str") (.type "bool")=some false:=kit_ty (by decide +kernel)
theorem ZM{K:aqf}:PySem.W.kitOne K (.type "str") (.type "str")=some true:=kit_ty (by decide +kernel)
theorem Wf{K:aqf}:PySem.W.kitOne K (.type "str") (.type "tuple")=some false:=kit_ty (by decide +kernel)
theorem Ze{K:aqf}:PySem.W.kitOne K (.type "str") (.type "list")=some false:=kit_ty (by decide +kernel)
theorem Wu{K:aqf}:PySem.W.kitOne K (.type "tuple") (.type "int")=some false:=kit_ty (by decide +kernel)
theorem R6{K:aqf}:PySem.W.kitOne K (.type "tuple") (.type "bool")=some false:=kit_ty (by decide +kernel)
theorem Wj{K:aqf}:PySem.W.kitOne K (.type "tuple") (.type "str")=some false:=kit_ty (by decide +kernel)
theorem Rk{K:aqf}:PySem.W.kitOne K (.type "tuple") (.type "tuple")=some true:=kit_ty (by decide +kernel)
theorem TV{K:aqf}:PySem.W.kitOne K (.type "tuple") (.type "list")=some false:=kit_ty (by decide +kernel)
theorem Yt{K:aqf}:PySem.W.kitOne K (.type "list") (.type "int")=some false:=kit_ty (by decide +kernel)
theorem Wr{K:aqf}:PySem.W.kitOne K (.type "list") (.type "bool")=some false:=kit_ty (by decide +kernel)
theorem Yz{K:aqf}:PySem.W.kitOne K (.type "list") (.type "str")=some false:=kit_ty (by decide +kernel)
theorem S8{K:aqf}:PySem.W.kitOne K (.type "list") (.type "tuple")=some false:=kit_ty (by decide +kernel)
theorem Wm{K:aqf}:PySem.W.kitOne K (.type "list") (.type "list")=some true:=kit_ty (by decide +kernel)
theorem N7{K:aqf}:PySem.W.kitOne K (.type "NoneType") (.type "int")=some false:=kit_ty (by decide +kernel)
theorem MP{K:aqf}:PySem.W.kitOne K (.type "NoneType") (.type "bool")=some false:=kit_ty (by decide +kernel)
theorem Nv{K:aqf}:PySem.W.kitOne K (.type "NoneType") (.type "str")=some false:=kit_ty (by decide +kernel)
theorem Kf{K:aqf}:PySem.W.kitOne K (.type "NoneType") (.type "tuple")=some false:=kit_ty (by decide +kernel)
theorem MJ{K:aqf}:PySem.W.kitOne K (.type "NoneType") (.type "list")=some false:=kit_ty (by decide +kernel)
theorem ahr{K:aqf}{t:M9}{d:Dat}{b:Bool}(h:Ax t d=some b):PySem.W.kitOne K (.type (ajn d)) (.type t.name)=some b/\∀kv,d≠.dict kv:=by
 cases d with
 |dict kv=>cases h
 |none=>
  refine⟨?_,fun _ z=>nomatch z⟩
  cases t <;> cases h
  ·exact N7
  ·exact MP
  ·exact Nv
  ·exact Kf
  ·exact MJ
 |bool x=>
  refine⟨?_,fun _ z=>nomatch z⟩
  cases t <;> cases h
  ·exact YW
  ·exact Wy
  ·exact Zr
  ·exact Td
  ·exact V5
 |int x=>
  refine⟨?_,fun _ z=>nomatch z⟩
  cases t <;> cases h
  ·exact Zx
  ·exact Xi
  ·exact ZR
  ·exact V6
  ·exact YM
 |str x=>
  refine⟨?_,fun _ z=>nomatch z⟩
  cases t <;> cases h
  ·exact Z8
  ·exact Yk
  ·exact ZM
  ·exact Wf
  ·exact Ze
 |list x=>
  refine⟨?_,fun _ z=>nomatch z⟩
  cases t <;> cases h
  ·exact Yt
  ·exact Wr
  ·exact Yz
  ·exact S8
  ·exact Wm
 |tuple x=>
  refine⟨?_,fun _ z=>nomatch z⟩
  cases t <;> cases h
  ·exact Wu
  ·exact R6
  ·exact Wj
  ·exact Rk
  ·exact TV
def xO(t:M9)(a:QF):QF:=eX (yM t) a
section
variable{X:Cx}{aj:aQ}{W:WX}{a b:Expr}{fa:QF}{pos p p2:Pos}{x y:Str}
theorem aiK{t:M9}(hg:Gl X x)(hm:X.mg x=none)(hv:BV (.builtin "isinstance") x)(hg2:Gl X y)(hm2:X.mg y=none)(hv2:BV (.type t.name) y)(ha:QW aj X W a fa)(hs:nst a=true):QE aj X W (.Call (.Name x p) [a,.Name y p2] [] pos) (xO t fa):=by
 have hb:PE X (.Name y p2) (tC (.ty t.name)):=pe_bltn hg2 hm2 hv2.1 rfl hv2.2.1 hv2.2.2
 have h1:=pa_cons ha (pa_cons hb pa_nil (cO (a:=.Name y p2) rfl [])) (cO hs [.Name y p2])
 have key:=pe_callB (pos:=pos) (p:=p) call_isi hg hm hv.1 h1 hv.2.1 hv.2.2 (cO hs [.Name y p2]) (star_any [.Name y p2] rfl)
 refine PE.weak key fun σ H Q ⟨g,ρ,M,I,h⟩=>?_
 refine tW.go I h.bnd fun d v H1 h1 e1 r1=>?_
 unfold yM at h1
 split at h1
 ·next bb e=>
  obtain⟨k1,k2⟩:=ahr (K:=X.K) e
  exact⟨v,_,_,_,bb,rfl,.ty _,alq r1 k2,k1,h1 _ H1 e1 (.bl _)⟩
 ·exact False.elim h1
end
inductive Src where
 |lst (a:Addr)|tup (a:Addr)|str (x:Str)
def chars(x:Str):List V:=x.cps.toList.map fun c=>V.str ⟨#[c]⟩
def Src.sq(K:aqf)(H:Hp)(us:List V):Src->Prop
 |.lst a=>SqL K H a us
 |.tup a=>SqT K H a us
 |.str x=>us=chars x
def Src.it(h:Heap)(i:Addr)(n:Nat):Src->Prop
 |.lst a=>h.IsListIter i a n
 |.tup a=>h.IsTupleIter i a n
 |.str x=>∃t,h.IsStrIter i (strIterType x) x t n
def Src.ad:Src->List Addr
 |.lst a=>[a]
 |.tup a=>[a]
 |.str _=>[]
section
variable{X:Cx}{pins:List (Addr×Obj)}{σ:L2.St}{H:Hp}{s:Shared}
theorem Src.inj{S:Src}{us ws:List V}(I:L2.Inv X pins σ H s)(h:S.sq X.K H us)(h':S.sq X.K H ws):us=ws:=by
 cases S with
 |lst a=>exact I.list_inj h h'
 |tup a=>exact I.tuple_inj h h'
 |str x=>exact Eq.trans h (Eq.symm h')
theorem Src.draws{S:Src}{us:List V}{i:Addr}{n:Nat}(I:L2.Inv X pins σ H s)(hA:X.A.handled=none)(hs:S.sq X.K H us)(hi:S.it s.heap i n)(hne:∀a∈S.ad,a≠i) :
  ∃(P:Nat->Value->Prop) (St:Nat->Heap->Prop),Draws X.prog X.w X.A.in1 i (i::S.ad) us.length P St/\St n s.heap/\(∀m h,St m h->S.it h i m)/\∀(m:Nat) (v:Value) (x:V),P m v->us[m]?=some x->RelV x v:=by
 cases S with
 |lst a=>
  obtain⟨its,rv,p,hz⟩:=I.list hs
  have hl:=rv.length
  have D:=Draws.list (prog:=X.prog) (w:=X.w) (A:=X.A.in1) hA i a (hne a (by simp[Src.ad])) its.toArray
  rw[List.size_toArray,←hl]at D
  refine⟨_,_,D,⟨hi,p.isList⟩,fun m h z=>z.1,fun m v x hv hx=>?_⟩
  obtain⟨u,hu,ru⟩:=rv.get hx
  have:v=u:=aqA (hv.symm.trans (by simpa using hu))
  rw[this]
  exact ru
 |tup a=>
  obtain⟨its,rv,p,hz⟩:=I.tuple hs
  have hl:=rv.length
  have D:=Draws.tuple (prog:=X.prog) (w:=X.w) (A:=X.A.in1) hA i a (hne a (by simp[Src.ad])) its.toArray
  rw[List.size_toArray,←hl]at D
  refine⟨_,_,D,⟨hi,p⟩,fun m h z=>z.1,fun m v x hv hx=>?_⟩
  obtain⟨u,hu,ru⟩:=rv.get hx
  have:v=u:=aqA (hv.symm.trans (by simpa using hu))
  rw[this]
  exact ru
 |str x=>
  obtain⟨t,hi⟩:=hi
  have hl:us.length=x.cps.size:=by
   rw[show us=chars x from hs]
   unfold chars
   rw[aqr,aqP]
  have D:=Draws.text (prog:=X.prog) (w:=X.w) (A:=X.A.in1) hA i x t
  rw[←hl]at D
  refine⟨_,_,D,hi,fun m h z=>⟨t,z⟩,fun m v y hv hy=>?_⟩
  obtain⟨c,u,hc,rfl⟩:=hv
  rw[show us=chars x from hs]at hy
  unfold chars at hy
  rw[aqs,aqX,hc]at hy
  cases hy
  exact⟨u,rfl⟩
theorem Src.Lz{S:Src}{h:Heap}{i:Addr}{n:Nat}(hi:S.it h i n):∃o,h.get? i=some o/\∀v,o.data≠.cell v:=by
 cases S with
 |lst a=>obtain⟨o,e,_,d⟩:=hi;exact⟨o,e,fun v q=>by rw[d]at q;cases q⟩
 |tup a=>obtain⟨o,e,_,d⟩:=hi;exact⟨o,e,fun v q=>by rw[d]at q;cases q⟩
 |str x=>obtain⟨t,o,e,_,d⟩:=hi;exact⟨o,e,fun v q=>by rw[d]at q;cases q⟩
theorem Src.Mz{S:Src}{h h':Heap}{i:Addr}{n:Nat}(hi:S.it h i n)(k:∀o,h.get? i=some o->h'.get? i=some o):S.it h' i n:=by
 cases S with
 |lst a=>exact hi.at k
 |tup a=>exact hi.at k
 |str x=>obtain⟨t,o,e,r⟩:=hi;exact⟨t,o,k o e,r⟩
end
def ItE(K:aqf)(S:Src)(k₀:Int):It:=
 ⟨fun i H=>∃(us:List V) (x:V),S.sq K H us/\us[i]?=some x,fun i H v H'=>∃T x,v=.ref T/\H T=none/\H'=upd H T (.tup [.int (k₀+(i:Int)),x])/\∀us,S.sq K H us->us[i]?=some x,fun i H=>∃us:List V,S.sq K H us/\us.length=i⟩
theorem aln{P:Program}{w:World}{K:aqf}{elts:List Expr}{kk:Nat}{tpos:Pos}(S:Src)(e i0:Addr)(k₀:Int)(hne:e≠i0)(ha:∀a∈S.ad,e≠a/\a≠i0) :
  Turn P w K (.Tuple elts kk tpos) (ItE K S k₀) [e,i0] e (fun i h=>(∃old,IsEnum h e i0 (k₀+(i:Int)) old)/\S.it h i0 i) where
 mem:=by simp
 obj:=fun i h st b hb=>by
  obtain⟨⟨old,he⟩,hi⟩:=st
  have e':b=e∨b=i0:=by simpa using hb
  rcases e' with z|z
  ·rw[z];exact⟨_,he,fun v q=>nomatch q⟩
  ·rw[z];exact Src.Lz hi
 keep:=fun i h h' st k=>let ⟨⟨old,he⟩,hi⟩:=st;⟨⟨old,k e (by simp) _ he⟩,Src.Mz hi fun o q=>k i0 (by simp) o q⟩
 item:=by
  intro X hP hw hK hc i pins s σ H E I hf st hg
  subst hP hw hK
  obtain⟨⟨old,he⟩,hit⟩:=st
  obtain⟨us,x,hq,hx⟩:=hg
  obtain⟨PP,St,D,st0,stI,rel⟩:=Src.draws I (I.ok.hd hc) hq hit fun a z=>(ha a z).2
  have hel:e < s.heap.objs.size:=Heap.lt_size he
  have hil:i0 < s.heap.objs.size:=by obtain⟨_,q,_⟩:=Src.Lz hit;exact Heap.lt_size q
  have hin:i < us.length:=(aqh.mp hx).1
  refine wpAny_pyNext_enum_itemC D he st0 hin hne (fun z=>?_) fun v h' tk hP ho hst' hT hsz hk=>?_
  ·rcases aqv.mp z with z|z
   ·exact hne z
   ·exact(ha e z).1 rfl
  have ru:=rel i v x hP hx
  refine⟨_,rfl,wpAny_letOwnedTupleGo_enum (s:={ s with heap:=h',toks:=tk+1 }) ho fun h'' he' sb=>?_⟩
  have hT2:h''.get? s.heap.objs.size=some { cls:=.type "tuple",data:=.seq #[.int (k₀+(i:Int)) tk,v] }:=(sb.2 _ (Nat.ne_of_gt hel)).trans hT
  have new:ObjOk X.prog X.w (upd H s.heap.objs.size (.tup [.int (k₀+(i:Int)),x])) h'' s.heap.objs.size (.tup [.int (k₀+(i:Int)),x]):=
   ⟨by show 2<=sizeLine;decide,[.int (k₀+(i:Int)) tk,v],.cons ⟨_,rfl⟩ (.cons ru .nil),⟨_,hT2,rfl,_,rfl⟩⟩
  have I1:L2.Inv X pins σ (upd H s.heap.objs.size (.tup [.int (k₀+(i:Int)),x])) { s with heap:=h'',toks:=tk+1 }:=
   I.turnedNew (ch:=[e,i0]) (fun b ob hb q=>(sb.2 b (fun z=>hb (by simp[z]))).trans (hk b ob (fun z=>hb (by simp[z])) (fun z=>hb (by simp[z])) q)) hf (aqF _) new
  refine⟨.ref s.heap.objs.size,_,I1,rfl,⟨_,x,rfl,I.hok.fresh (aqF _),rfl,fun ys hy=>by rw[Src.inj I hy hq];exact hx⟩,⟨⟨v,?_⟩,Src.Mz (stI _ _ hst') fun o q=>(sb.2 i0 (Ne.symm hne)).trans q⟩,fun b hb=>?_⟩
  ·have e1:k₀+((i+1:Nat):Int)=k₀+(i:Int)+1:=by omega
   rw[e1];exact he'
  ·have hb':b < s.heap.objs.size:=by
    have e':b=e∨b=i0:=by simpa using hb
    rcases e' with z|z
    ·rw[z];exact hel
    ·rw[z];exact hil
   rw[upd_ne (aqN hb')]
   exact(hf b hb).1
 done:=by
  intro X hP hw hK hc i pins s σ H E I hf st hg
  subst hP hw hK
  obtain⟨⟨old,he⟩,hit⟩:=st
  obtain⟨us,hq,hx⟩:=hg
  obtain⟨PP,St,D,st0,stI,rel⟩:=Src.draws I (I.ok.hd hc) hq hit fun a z=>(ha a z).2
  obtain⟨f0,f1,f2,f3,f4,f5⟩:=hf i0 (by simp)
  rw[←hx]at st0
  exact wpAny_pyNext_enum_endD D he st0 fun h' eb=>⟨rfl,I.turned (t':=s.toks) (fun b o hb q=>eb b o hb q) f0 f1 f3 f4 f5⟩
 self:=fun A i s Q E st h=>let ⟨⟨_,he⟩,_⟩:=st;wpAny_pyIter_enum he h
theorem Src.begins{X:Cx}{pins:List (Addr×Obj)}{σ:L2.St}{H:Hp}{s:Shared}{S:Src}{us:List V}{x:V}{v:Value}(I:L2.Inv X pins σ H s)(hs:S.sq X.K H us)(hx:(∃a,x=.ref a/\S.ad=[a]/\(S=.lst a∨S=.tup a))∨∃y,S=.str y/\x=.str y)(r:RelV x v) :
  ∃(o:Obj) (B:Heap->Prop),Begins v o B/\B s.heap/\(∀h i,h.get? i=some o->S.it h i 0)/\∀a∈S.ad,a < s.heap.objs.size:=by
 rcases hx with⟨a,rfl,ha,h|h⟩|⟨y,h,rfl⟩
 ·subst h
  cases r
  obtain⟨its,rv,p,_⟩:=I.list hs
  obtain⟨o1,ho1,_⟩:=id p.isList
  refine⟨_,_,begins_list a its.toArray,p.isList,fun h i e=>⟨_,e,rfl,rfl⟩,fun b hb=>?_⟩
  rw[ha]at hb
  rw[aqm.mp hb]
  exact Heap.lt_size ho1
 ·subst h
  cases r
  obtain⟨its,rv,p,_⟩:=I.tuple hs
  obtain⟨o1,ho1,_⟩:=id p
  refine⟨_,_,begins_tuple a its.toArray,p,fun h i e=>⟨_,e,rfl,rfl⟩,fun b hb=>?_⟩
  rw[ha]at hb
  rw[aqm.mp hb]
  exact Heap.lt_size ho1
 ·subst h
  obtain⟨t,rfl⟩:=r
  exact⟨_,_,begins_text y t,trivial,fun h i e=>⟨t,_,e,rfl,rfl⟩,fun b hb=>nomatch hb⟩
def srcOf(x:V)(S:Src):Prop:=(∃a,x=.ref a/\S.ad=[a]/\(S=.lst a∨S=.tup a))∨∃y,S=.str y/\x=.str y
def iEn(K:aqf)(ta:TA)(k₀:Int):TI:=fun σ H R=>ta σ H fun vs H1=>∃x S us,vs=[x]/\srcOf x S/\S.sq K H1 us/\R (ItE K S k₀) H1
section
variable{X:Cx}{a b:Expr}{ta tb:TA}{p pos tpos:Pos}{elts:List Expr}{kk:Nat}
theorem ajR{pins:List (Addr×Obj)}{σ:L2.St}{H:Hp}{s:Shared}(I:L2.Inv X pins σ H s):∀b∈[s.heap.objs.size+1,s.heap.objs.size],FpOk X pins H b:=fun b hb=>by
 have e':b=s.heap.objs.size+1∨b=s.heap.objs.size:=by simpa using hb
 have hle:s.heap.objs.size<=b:=by
  rcases e' with z|z
  ·rw[z];exact Nat.le_add_right _ _
  ·rw[z];exact aqF _
 exact I.fpOk hle (I.hok.fresh hle)
theorem afr{pins:List (Addr×Obj)}{σ:L2.St}{H:Hp}{s:Shared}{S:Src}{us:List V}{x:V}{v:Value}{o:Obj}{k₀:Int}{R:It->Hp->Prop}{h':Heap}(I:L2.Inv X pins σ H s)(hlt:∀a∈S.ad,a < s.heap.objs.size)(hit:∀h i,h.get? i=some o->S.it h i 0)
  (he:IsEnum h' (s.heap.objs.size+1) s.heap.objs.size k₀ .none) (ho:h'.get? s.heap.objs.size=some o) (hk:∀b o,s.heap.get? b=some o->h'.get? b=some o) (q:R (ItE X.K S k₀) H) :
  wpAny (model X.prog X.w) X.A (pyIter (.ref (s.heap.objs.size+1))) (PIE X pins σ (.Tuple elts kk tpos) R) X.xe { s with heap:=h' }:=by
 refine wpAny_pyIter_enum he ?_
 have I2:L2.Inv X pins σ H { s with heap:=h' }:=I.kept (t':=s.toks) hk
 refine⟨s.heap.objs.size+1,[s.heap.objs.size+1,s.heap.objs.size],_,_,H,rfl,I2,aln S (s.heap.objs.size+1) s.heap.objs.size k₀ (Nat.succ_ne_self _) (fun a z=>?_),⟨⟨.none,?_⟩,hit _ _ ho⟩,ajR I,q⟩
 ·have:=hlt a z
  exact⟨Nat.ne_of_gt (ara this),aqN this⟩
 ·rw[show k₀+((0:Nat):Int)=k₀ by simp]
  exact he
theorem afq{v:Value}{o:Obj}{B:Heap->Prop}(hB:Begins v o B) :
  Meets (Builtin.«enumerate.__new__» ⟨[.type "enumerate",v],[]⟩) (fun _ R s=>B s.heap/\
   R (.ok (.ret (.ref (s.heap.push o).objs.size))) { s with heap:=(s.heap.push o).push { cls:=.type "enumerate",data:=.fields #[.none,.bool false,.ref s.heap.objs.size,rawInt 0,.none,.none] } }):=
 .of_wp fun prog w A R s hh=>by
  obtain⟨hp,gs,dr,tk,os⟩:=s
  obtain⟨hb,hr⟩:=hh
  have hsub:=sub_enumerate
  have qi:∀{A':Around} {E:Value->Shared->Prop} {Q:Value->Shared->Prop},Q (.ref hp.objs.size) ⟨hp.push o,gs,dr,tk,os⟩->wpAny (model prog w) A' (pyIter v) Q E ⟨hp,gs,dr,tk,os⟩:=fun z=>hB.iter prog w _ _ ⟨hp,gs,dr,tk,os⟩ _ hb z
  wp_walk using qi
  refine wpAny_stack_any fun st=>wpAny_pure ?_
  split
  ·next c _ _ _ _ _=>
   cases(c==Value.type "enumerate") <;> (wp_walk using qi;exact⟨_,rfl,hr⟩)
  ·wp_walk using qi
   exact⟨_,rfl,hr⟩
theorem acd{prog:Program}{w:World}{A:Around}{E:Value->Shared->Prop}{s:Shared}{v:Value}{o:Obj}{B:Heap->Prop}{Q:Value->Shared->Prop}(hB:Begins v o B)(hb:B s.heap)
  (h:∀h',IsEnum h' (s.heap.objs.size+1) s.heap.objs.size 0 .none->h'.get? s.heap.objs.size=some o->(∀b o,s.heap.get? b=some o->h'.get? b=some o)->Q (.ref (s.heap.objs.size+1)) { s with heap:=h' }) :
  wpAny (model prog w) A (call (.type "enumerate") [v]) Q E s:=by
 refine callType_new F.called_enumerate (by decide) (F.typeCall_enumerate_1 _) (F.newCall_enumerate_1 _) (fun ob=>F.args_object_init_2 ob _) F.entry_enumerate_new (afq hB) ⟨hb,?_⟩
 have hz:(s.heap.push o).objs.size=s.heap.objs.size+1:=Heap.size_push ..
 have he:=Heap.get?_push_size (s.heap.push o) (o:={ cls:=.type "enumerate",data:=.fields #[.none,.bool false,.ref s.heap.objs.size,rawInt 0,.none,.none] }) rfl
 show _/\_
 rw[hz]at he ⊢
 exact⟨⟨_,he,rfl⟩,h _ he (Heap.get?_push_of_some _ (Heap.get?_push_size _ hB.free)) fun b u z=>Heap.get?_push_of_some _ (Heap.get?_push_of_some _ z)⟩
theorem alx(hg:Gl X "enumerate")(hm:X.mg "enumerate"=none)(ha:PA X [a] ta)(hs:nst a=true):PI X (.Tuple elts kk tpos) (.Call (.Name "enumerate" p) [a] [] pos) (iEn X.K ta 0):=by
 refine⟨fun pins s σ H R I h=>?_⟩
 refine Call_ (ld_blt I hg hm boot_enumerate (PyProof.Rows.callWith_type1 (thn (ha.run pos pins s σ H _ I h) fun us s1 ⟨vs,H1,I1,r1,x,S,us',ev,hx,hq,q⟩=>?_) (cO hs []) (by with_unfolding_all rfl)))
 subst ev
 obtain⟨v,rfl,r⟩:=vals1 r1
 obtain⟨o,B,hB,hb,hit,hlt⟩:=Src.begins I1 hq hx r
 exact acd hB hb fun h' he ho hk=>afr (x:=x) (v:=v) (us:=us') I1 hlt hit he ho hk q
theorem aci{M:Model}{A:Around}{E:Value->Shared->Prop}{s:Shared}{pos:Pos}{T:String}{args:List (Bool×Sem Value)}{kws:List (Option Str×Sem Value)}{Q:Value->Shared->Prop}(h1:args.any (·.1)=false)(h2:kws.any (·.1.isNone)=false)
  (h:wpAny M A (evalArgs (.type T) true args kws) (fun z s₁=>wpAny M A (call (.type T) z.pos z.kw) Q E s₁) E s):wpAny M A (callWith pos (.type T) [] args kws) Q E s:=by
 unfold callWith
 refine wpAny_bind (wpAny_holding (wpAny_mono h (fun z s₁ hz=>wpAny_bind (wpAny_standAt ?_)) fun _ _ y=>y))
 rw[h1,h2]
 refine wpAny_bind (wpAny_pure ?_)
 exact wpAny_bind (wpAny_mono hz (fun r s₂ hr=>wpAny_bind (wpAny_holding (wpAny_point (wpAny_pure hr)))) fun _ _ y=>y)
theorem ah2{k₀:Int}{j:Nat}{kp kp2:Pos}(hk0 : -(2 ^ 63)<=k₀)(hk1:k₀ < 2 ^ 63)(hg:Gl X "enumerate")(hm:X.mg "enumerate"=none)(ha:PA X [a] ta)(hs:nst a=true) :
  PI X (.Tuple elts kk tpos) (.Call (.Name "enumerate" p) [a] [⟨some "start",.Constant (.int k₀) j kp,kp2⟩] pos) (iEn X.K ta k₀):=by
 refine⟨fun pins s σ H R I h=>?_⟩
 have hpk:PK X [⟨some "start",.Constant (.int k₀) j kp,kp2⟩] (tCons (tC (.int k₀)) tNil):=pk_cons pe_int pk_nil
 refine wpAny_Call_Name_kw (ld_blt I hg hm boot_enumerate (aci (star_any [a] (by simp[hs])) (by with_unfolding_all rfl) ?_))
 refine PyProof.Rows.evalArgs_kw2 (by with_unfolding_all rfl) (thn (ha.run pos pins s σ H _ I h) fun us s1 ⟨vs,H1,I1,r1,x,S,us',ev,hx,hq,q⟩=>?_) (by first | (rw[cO hs];done) | (rw[cO hs];rfl) | rw[cO hs])
 refine thn (hpk.run pos pins s1 σ H1 (fun zs H2=>zs=[.int k₀]/\H2=H1) I1 ⟨rfl,rfl⟩) fun ws s2 ⟨zs,H2,I2,r2,e1,e2⟩=>?_
 subst ev e1 e2
 obtain⟨v,rfl,r⟩:=vals1 r1
 obtain⟨w,rfl,t,rfl⟩:=vals1 r2
 obtain⟨o,B,hB,hb,hit,hlt⟩:=Src.begins I2 hq hx r
 exact enum_begins_start hB hb hk0 hk1 fun h' he ho _ hk=>afr (x:=x) (v:=v) (us:=us') I2 hlt hit he ho hk q
def ItZ(K:aqf)(S T:Src):It:=
 ⟨fun i H=>∃(us ws:List V) (x y:V),S.sq K H us/\T.sq K H ws/\us[i]?=some x/\ws[i]?=some y,fun i H v H'=>∃U x y,v=.ref U/\H U=none/\H'=upd H U (.tup [x,y])/\(∀us,S.sq K H us->us[i]?=some x)/\∀ws,T.sq K H ws->ws[i]?=some y,
  fun i H=>∃us ws:List V,S.sq K H us/\T.sq K H ws/\i=min us.length ws.length⟩
theorem alA{P:Program}{w:World}{K:aqf}{S T:Src}{N:Addr}(h1:∀a∈S.ad,a < N)(h2:∀a∈T.ad,a < N) :
  Turn P w K (.Tuple elts kk tpos) (ItZ K S T) [N+4,N+2,N+3,N,N+1] (N+4) (fun n h=>IsZip h (N+4) (N+2) (N+3) .none/\IsPair h (N+2) (.ref N) (.ref (N+1))/\(∃x y,IsPair h (N+3) x y)/\S.it h N n/\T.it h (N+1) n) where
 mem:=by simp
 obj:=fun n h q c hc=>by
  obtain⟨gz,gI,⟨x,y,gO⟩,i1,i2⟩:=q
  simp only[aqv,aqO,or_false]at hc
  rcases hc with rfl|rfl|rfl|rfl|rfl
  ·exact⟨_,gz,fun v q=>nomatch q⟩
  ·exact⟨_,gI,fun v q=>nomatch q⟩
  ·exact⟨_,gO,fun v q=>nomatch q⟩
  ·exact Src.Lz i1
  ·exact Src.Lz i2
 keep:=fun n h h' q k=>by
  obtain⟨gz,gI,⟨x,y,gO⟩,i1,i2⟩:=q
  exact⟨k _ (by simp) _ gz,k _ (by simp) _ gI,⟨x,y,k _ (by simp) _ gO⟩,Src.Mz i1 fun o e=>k _ (by simp) o e,Src.Mz i2 fun o e=>k _ (by simp) o e⟩
 item:=by
  intro X hP hw hK hc n pins s σ H E I hf q hg
  subst hP hw hK
  obtain⟨gz,gI,⟨x0,y0,gO⟩,i1,i2⟩:=q
  obtain⟨us,ws,x,y,qx,qy,hx,hy⟩:=hg
  obtain⟨P1,St1,D1,st1,b1,rel1⟩:=Src.draws I (I.ok.hd hc) qx i1 fun a z=>aqN (h1 a z)
  obtain⟨P2,St2,D2,st2,b2,rel2⟩:=Src.draws I (I.ok.hd hc) qy i2 fun a z=>aqN (ara (h2 a z))
  have hzl:N+4 < s.heap.objs.size:=Heap.lt_size gz
  refine wpAny_pyNext_zipD2_item (zip_sep2 h1 h2) D1 D2 gz gI gO st1 st2 (aqh.mp hx).1 (aqh.mp hy).1 fun v1 v2 h' tk p1 p2 z' o' s1 s2 hT hsz hk=>?_
  refine⟨_,rfl,wpAny_letOwnedTupleGo_zip (s:={ s with heap:=h',toks:=tk }) z' fun h'' z'' sb=>?_⟩
  have hT2:=(sb.2 _ (Nat.ne_of_gt hzl)).trans hT
  have new:ObjOk X.prog X.w (upd H s.heap.objs.size (.tup [x,y])) h'' s.heap.objs.size (.tup [x,y]):=⟨by show 2<=sizeLine;decide,[v1,v2],.cons (rel1 n v1 x p1 hx) (.cons (rel2 n v2 y p2 hy) .nil),⟨_,hT2,rfl,_,rfl⟩⟩
  have I1:L2.Inv X pins σ (upd H s.heap.objs.size (.tup [x,y])) { s with heap:=h'',toks:=tk }:=by
   refine I.turnedNew (t':=tk) (ch:=[N+4,N+2,N+3,N,N+1]) (fun c o hb e=>?_) hf (aqF _) new
   simp only[aqv,aqO,or_false,not_or]at hb
   exact(sb.2 c hb.1).trans (hk c o hb.1 hb.2.2.1 hb.2.2.2.1 hb.2.2.2.2 e)
  have ne4:∀k,k≠4->N+k≠N+4:=fun k hk z=>hk (ark z)
  refine⟨.ref s.heap.objs.size,_,I1,rfl,⟨_,x,y,rfl,I.hok.fresh (aqF _),rfl,fun l hl=>by rw[Src.inj I hl qx];exact hx,fun l hl=>by rw[Src.inj I hl qy];exact hy⟩,⟨z'',?_,⟨v1,v2,?_⟩,?_,?_⟩,fun c hcm=>?_⟩
  ·exact(sb.2 _ (ne4 2 (by decide))).trans (hk _ _ (ne4 2 (by decide)) (fun z=>absurd (ark z) (by decide)) (fun z=>absurd (ark (z.trans (Nat.add_zero N).symm)) (by decide)) (fun z=>absurd (ark z) (by decide)) gI)
  ·exact(sb.2 _ (ne4 3 (by decide))).trans o'
  ·exact Src.Mz (b1 _ _ s1) fun o e=>(sb.2 _ (ne4 0 (by decide))).trans e
  ·exact Src.Mz (b2 _ _ s2) fun o e=>(sb.2 _ (ne4 1 (by decide))).trans e
  ·have hlt:c < s.heap.objs.size:=by
    simp only[aqv,aqO,or_false]at hcm
    rcases hcm with rfl|rfl|rfl|rfl|rfl
    ·exact hzl
    ·exact Heap.lt_size gI
    ·exact Heap.lt_size gO
    ·obtain⟨_,e1,_⟩:=Src.Lz i1
     exact Heap.lt_size e1
    ·obtain⟨_,e2,_⟩:=Src.Lz i2
     exact Heap.lt_size e2
   rw[upd_ne (aqN hlt)]
   exact(hf c hcm).1
 done:=by
  intro X hP hw hK hc n pins s σ H E I hf q hg
  subst hP hw hK
  obtain⟨gz,gI,⟨x0,y0,gO⟩,i1,i2⟩:=q
  obtain⟨us,ws,qx,qy,hn⟩:=hg
  obtain⟨P1,St1,D1,st1,b1,rel1⟩:=Src.draws I (I.ok.hd hc) qx i1 fun a z=>aqN (h1 a z)
  obtain⟨P2,St2,D2,st2,b2,rel2⟩:=Src.draws I (I.ok.hd hc) qy i2 fun a z=>aqN (ara (h2 a z))
  refine wpAny_pyNext_zipD2_end (zip_sep2 h1 h2) D1 D2 gz gI gO st1 st2 (by omega) (by omega) (by omega) fun h' tk hk=>⟨rfl,?_⟩
  refine I.turnedL (t':=tk) (ch:=[N+4,N+2,N+3,N,N+1]) (fun c o hb e=>?_) hf
  simp only[aqv,aqO,or_false,not_or]at hb
  exact hk c o hb.1 hb.2.2.1 hb.2.2.2.1 hb.2.2.2.2 e
 self:=fun A n s Q E q h=>wpAny_pyIter_zip q.1 h
def iZp(K:aqf)(ta:TA):TI:=fun σ H R=>ta σ H fun vs H1=>∃x y S T us ws,vs=[x,y]/\srcOf x S/\srcOf y T/\S.sq K H1 us/\T.sq K H1 ws/\R (ItZ K S T) H1
theorem ak0(hg:Gl X "zip")(hm:X.mg "zip"=none)(ha:PA X [a,b] ta)(hs:nst a=true)(hs2:nst b=true):PI X (.Tuple elts kk tpos) (.Call (.Name "zip" p) [a,b] [] pos) (iZp X.K ta):=by
 refine⟨fun pins s σ H R I h=>?_⟩
 refine Call_ (ld_blt I hg hm PyProof.Rows.boot_zip (PyProof.Rows.callWith_type1 (thn (ha.run pos pins s σ H _ I h) fun us s1 ⟨vs,H1,I1,r1,x,y,S,T,us',ws',ev,hx,hy,hq,hq2,q⟩=>?_) (cO hs [b]) (star_any [b] (by simp[hs2]))))
 subst ev
 obtain⟨v1,v2,rfl,rv1,rv2⟩:=vals2 r1
 obtain⟨o1,B1,hB1,hb1,hit1,hlt1⟩:=Src.begins I1 hq hx rv1
 obtain⟨o2,B2,hB2,hb2,hit2,hlt2⟩:=Src.begins I1 hq2 hy rv2
 refine zip_begins2 hB1 hB2 hb1 hb2 fun h' hz hTI hTO e1 e2 hsz hk=>wpAny_pyIter_zip hz ?_
 have I2:L2.Inv X pins σ H1 { s1 with heap:=h' }:=I1.kept (t':=s1.toks) hk
 refine⟨s1.heap.objs.size+4,_,_,_,H1,rfl,I2,alA hlt1 hlt2,⟨hz,hTI,⟨_,_,hTO⟩,hit1 _ _ e1,hit2 _ _ e2⟩,fun c hcm=>?_,q⟩
 have hle:s1.heap.objs.size<=c:=by
  simp only[aqv,aqO,or_false]at hcm
  rcases hcm with rfl | rfl | rfl | rfl | rfl <;> first | exact aqF _ | exact Nat.le_add_right _ _
 exact I1.fpOk hle (I1.hok.fresh hle)
end
section
variable{K:aqf}{aj:aQ}{q:Bool}{g g':Gh}{H H':Hp}{v:V}{d:Dat}{σ:L2.St}{ρ:Env}{M:Mo}
theorem ju.up{l:Addr}:∀{n:Bool} {kvs:List (Dat×Dat)} (r:Gr true g g' H H') (e:Ex H H') (k:Kd g H) (h:ju K aj g H l n kvs),ju K aj g' H' l n kvs
 |false,_,r,e,k,⟨kv,h1,h2,h3⟩=>⟨kv,e _ _ h1,h2,h3.gr r k⟩
 |true,_,r,e,k,⟨o,xs,vs,h1,h2,h3,h4,h5,h6⟩=>⟨o,xs,vs,e _ _ h1,h2,h3,h4.gr r k,h5,h6.gr r k⟩
theorem dY.up{h:Nat}{f:Str}(r:Gr true g g' H H')(e:Ex H H')(k:Kd g H):∀{fl:iW},dY K aj g H h f v fl->dY K aj g' H' h f v fl
 |.dat _,z=>Rep.gr r k z
 |.lst _ _,⟨l,us,h1,h2,h3,h4,h5⟩=>⟨l,us,h1,e _ _ h2,by rw[(r.qg rfl).2];exact h3,h4.gr r k,r.tb h5⟩
 |.dic _ _,⟨l,h1,h2,h3⟩=>⟨l,h1,by rw[(r.qg rfl).2];exact h2,h3.up r e k⟩
theorem cI.up{h:Nat}(r:Gr true g g' H H')(e:Ex H H')(k:Kd g H):∀{fs:List (Str×V)} {gs:List (Str×iW)},cI K aj g H h fs gs->cI K aj g' H' h fs gs
 |_,_,.nil=>.nil
 |_,_,.cons z t=>.cons (dY.up r e k z) (cI.up r e k t)
theorem fV.up(r:Gr true g g' H H')(e:Ex H H')(k:Kd g H)(w:fV K aj g H M):fV K aj g' H' M where
 len:=by rw[(r.qg rfl).1];exact w.len
 inj:=by rw[(r.qg rfl).1];exact w.inj
 ins:=fun h a i ha hi hc=>by
  rw[(r.qg rfl).1]at ha
  obtain⟨C,dx,fs,c1,c2,c3⟩:=w.ins h a i ha hi hc
  exact⟨C,dx,fs,c1,e _ _ c2,c3.up r e k⟩
 nd:=w.nd
 fd:=w.fd
 tw:=by rw[(r.qg rfl).1,(r.qg rfl).2];exact w.tw
 dm:=w.dm
 nc:=w.nc
theorem SInv.up(r:Gr true g g' H H')(e:Ex H H')(k':Kd g' H')(I:SInv K aj σ H g ρ M):SInv K aj σ H' g' ρ M where
 kd:=k'
 wok:=I.wok.up r e I.kd
 len:=I.len
 dat:=fun i d h=>by
  obtain⟨v,h1,h2⟩:=I.dat i d h
  exact⟨v,h1,h2.gr r I.kd⟩
 own:=fun i xs h=>by
  obtain⟨l,us,h1,h2,h3,h4⟩:=I.own i xs h
  exact⟨l,us,h1,e _ _ h2,r.Lo l h3,h4.gr r I.kd⟩
 sep:=I.sep
def Gh.add(g:Gh)(D:Addr):Gh:={ g with Lo:=fun a=>g.Lo a∨a=D }
theorem Gh.Gg{D:Addr}(n:H D=none)(e:Ex H H'):Gr true g (g.add D) H H' where
 keep:=fun a o h _ _=>e a o h
 keepW:=fun _ a o h _=>e a o h
 dom:=CJ e
 tbl:=⟨[],by simp[Gh.add]⟩
 W:=fun _ h=>h
 nW:=fun _ h=>.inl h
 qg:=fun _=>⟨rfl,rfl⟩
 Lc:=rfl
 Lo:=fun _ h=>.inl h
 nLo:=fun a h=>h.elim .inl fun z=>.inr (by rw[z];exact n)
theorem Gh.aju{D:Addr}{o:HO}(k:Kd g H)(n:H D=none)(e:Ex H H')(hD:H' D=some o)(m:Jd o):Kd (g.add D) H' where
 ob:=fun a z=>by
  rcases z with z|z|z|z
  ·obtain⟨o,h,m⟩:=k.ob a (.inl z);exact⟨o,e a o h,m⟩
  ·obtain⟨o,h,m⟩:=k.ob a (.inr (.inl z));exact⟨o,e a o h,m⟩
  ·obtain⟨o,h,m⟩:=k.ob a (.inr (.inr z));exact⟨o,e a o h,m⟩
  ·rw[z];exact⟨o,hD,m⟩
 lo:=fun a z=>by
  rcases z with z|z
  ·exact k.lo a z
  ·intro w
   subst z
   exact k.fresh n (.inl w)
 lc:=fun a z=>⟨(k.lc a z).1,fun y=>y.elim (k.lc a z).2 fun y=>by subst y;exact k.fresh n (.inr (.inl z))⟩
theorem SInv.add{D:Addr}{o:HO}(I:SInv K aj σ H g ρ M)(n:H D=none)(e:Ex H H')(hD:H' D=some o)(m:Jd o):SInv K aj σ H' (g.add D) ρ M:=
 I.up (Gh.Gg n e) e (Gh.aju I.kd n e hD m)
theorem SInv.set{j:Nat}(I:SInv K aj σ H g ρ M)(r:Rep K g H v d):SInv K aj (σ.set j (some v)) H g (ρ.set j (some (.dat d))) M where
 kd:=I.kd
 wok:=I.wok
 len:=by rw[aqG,aqG];exact I.len
 dat:=fun i e h=>by
  by_cases z:j=i
  ·subst z
   have hj:j < ρ.length:=by
    have:=(aqh.mp h).1
    rw[aqG]at this
    exact this
   rw[aqx hj]at h
   cases h
   exact⟨v,by rw[aqx (by rw[I.len];exact hj)],r⟩
  ·rw[aqo z]at h
   obtain⟨u,h1,h2⟩:=I.dat i e h
   exact⟨u,by rw[aqo z];exact h1,h2⟩
 own:=fun i xs h=>by
  by_cases z:j=i
  ·subst z
   have hj:j < ρ.length:=by
    have:=(aqh.mp h).1
    rw[aqG]at this
    exact this
   rw[aqx hj]at h
   cases h
  ·rw[aqo z]at h
   obtain⟨l,us,h1,h2⟩:=I.own i xs h
   exact⟨l,us,by rw[aqo z];exact h1,h2⟩
 sep:=fun i k xs ys l ne h1 h2 h3=>by
  have nj:∀{i:Nat} {xs:List Dat},(ρ.set j (some (.dat d)))[i]?=some (some (.mut xs))->j≠i:=fun {i xs} h z=>by
   subst z
   have hj:j < ρ.length:=by
    have:=(aqh.mp h).1
    rw[aqG]at this
    exact this
   rw[aqx hj]at h
   cases h
  have n1:=nj h1
  have n2:=nj h2
  rw[aqo n1]at h1 h3
  rw[aqo n2]at h2
  rw[aqo n2]
  exact I.sep i k xs ys l ne h1 h2 h3
theorem SInv.forget{j:Nat}(I:SInv K aj σ H g ρ M):SInv K aj (σ.set j none) H g (ρ.set j none) M where
 kd:=I.kd
 wok:=I.wok
 len:=by rw[aqG,aqG];exact I.len
 dat:=fun i e h=>by
  by_cases z:j=i
  ·subst z
   have hj:j < ρ.length:=by
    have:=(aqh.mp h).1
    rw[aqG]at this
    exact this
   rw[aqx hj]at h
   cases h
  ·rw[aqo z]at h ⊢
   exact I.dat i e h
 own:=fun i xs h=>by
  by_cases z:j=i
  ·subst z
   have hj:j < ρ.length:=by
    have:=(aqh.mp h).1
    rw[aqG]at this
    exact this
   rw[aqx hj]at h
   cases h
  ·rw[aqo z]at h ⊢
   exact I.own i xs h
 sep:=fun i k xs ys l ne h1 h2 h3=>by
  have nj:∀{i:Nat} {xs:List Dat},(ρ.set j none)[i]?=some (some (.mut xs))->j≠i:=fun {i xs} h z=>by
   subst z
   have hj:j < ρ.length:=by
    have:=(aqh.mp h).1
    rw[aqG]at this
    exact this
   rw[aqx hj]at h
   cases h
  have n1:=nj h1
  have n2:=nj h2
  rw[aqo n1]at h1 h3
  rw[aqo n2]at h2
  rw[aqo n2]
  exact I.sep i k xs ys l ne h1 h2 h3
def bZ(ρ:Env):List Nat->Env
 |[]=>ρ
 |j::js=>(bZ ρ js).set j none
theorem SInv.wipe(I:SInv K aj σ H g ρ M):∀vs:List Nat,SInv K aj (L2.wipe σ vs) H g (bZ ρ vs) M
 |[]=>I
 |j::js=>(SInv.wipe I js).forget
end
abbrev fL:=Dat->Env->Option Env
def aG(j:Nat):fL:=fun d ρ=>some (ρ.set j (some (.dat d)))
def tO:List Nat->List Dat->Env->Option Env
 |[],[],ρ=>some ρ
 |j::js,d::ds,ρ=>tO js ds (ρ.set j (some (.dat d)))
 |_,_,_=>none
def bA(js:List Nat):fL:=fun d ρ=>match d with
 |.tuple ds=>tO js ds ρ
 |_=>none
def sets(σ:L2.St):List Nat->List V->L2.St
 |j::js,v::vs=>sets (σ.set j (some v)) js vs
 |_,_=>σ
def zQ(K:aqf)(aj:aQ)(js:List Nat)(f:fL):TG:=fun v σ H Q=>∃g ρ M d ρ',SInv K aj σ H g ρ M/\Rep K g H v d/\f d ρ=some ρ'/\∀vs,SInv K aj (sets σ js vs) H g ρ' M->Q (sets σ js vs) H
def QG(aj:aQ)(X:Cx)(tg:Expr)(js:List Nat)(f:fL):Prop:=PG X tg (zQ X.K aj js f)
theorem PG.weak{X:Cx}{e:Expr}{t t':TG}(h:PG X e t)(k:∀v σ H Q,t' v σ H Q->t v σ H Q):PG X e t':=⟨fun pins s σ H v u Q I r q=>h.run pins s σ H v u Q I r (k v σ H Q q)⟩
section
variable{X:Cx}{aj:aQ}{pos:Pos}
theorem R4{j:Nat}{x:Str}(hN:X.N.Nodup)(hi:X.N[j]?=some x)(hx:Loc X.env.scope x)(hf:X.fn x=true∨X.env.scope.names.lookup x=some .local):QG aj X (.Name x pos) [j] (aG j):=
 PG.weak (pg_name hN hi hx hf) fun v σ H Q ⟨g,ρ,M,d,ρ',I,r,e,q⟩=>by
  cases e
  exact q [v] (I.set r)
def QC(X:Cx):List Expr->List Nat->Prop
 |[],[]=>True
 |.Name x _::es,j::js=>X.N[j]?=some x/\Loc X.env.scope x/\(X.fn x=true∨X.env.scope.names.lookup x=some .local)/\QC X es js
 |_,_=>False
theorem aeN{es:List Expr}{js:List Nat}(h:QC X es js):(assignEach es X.env).length=js.length/\(assignEach es X.env).findIdx? (·.1)=none:=by
 induction es generalizing js with
 |nil=>
  cases js with
  |nil=>exact⟨by with_unfolding_all rfl,by with_unfolding_all rfl⟩
  |cons j js=>exact False.elim h
 |cons e es ih=>
  cases js with
  |nil=>cases e <;> exact False.elim h
  |cons j js=>
   cases e with
   |Name x p=>
    obtain⟨h1,h2⟩:=ih h.2.2.2
    have e1:assignEach (.Name x p::es) X.env=(false,assign (.Name x p) X.env)::assignEach es X.env:=by with_unfolding_all rfl
    rw[e1]
    refine⟨by simp[h1],?_⟩
    rw[List.findIdx?_cons,h2]
    rfl
   |_=>exact False.elim h
def gNs(js:List Nat):TGs:=fun vs σ H Q=>vs.length=js.length/\Q (sets σ js vs) H
theorem UW(hN:X.N.Nodup):∀{es:List Expr} {js:List Nat},QC X es js->PGs X es (gNs js)
 |[],[],_=>⟨fun pins s σ H vs us Q I r h=>by
  obtain⟨e,h⟩:=h
  have:vs=[]:=List.length_eq_zero_iff.mp e
  subst this
  exact pgs_nil.run pins s σ H [] us Q I r ⟨rfl,h⟩⟩
 |.Name x p::es,j::js,h=>by
  have hp:=pgs_cons (pg_name (pos:=p) hN h.1 h.2.1 h.2.2.1) (UW hN h.2.2.2) (by with_unfolding_all rfl)
  refine⟨fun pins s σ H vs us Q I r hq=>?_⟩
  obtain⟨e,hq⟩:=hq
  cases vs with
  |nil=>cases e
  |cons v vs=>exact hp.run pins s σ H (v::vs) us Q I r ⟨v,vs,rfl,aro e,hq⟩
 |[],_::_,h=>False.elim h
 |.Name _ _::_,[],h=>False.elim h
theorem Q9{K:aqf}{g:Gh}{H:Hp}{M:Mo}:∀{js:List Nat} {ds:List Dat} {vs:List V} {σ:L2.St} {ρ ρ':Env},SInv K aj σ H g ρ M->aJ K g H vs ds->tO js ds ρ=some ρ'->vs.length=js.length/\SInv K aj (sets σ js vs) H g ρ' M
 |[],_,_,_,_,_,I,.nil,e=>by cases e;exact⟨rfl,I⟩
 |[],_,_,_,_,_,I,.cons _ _,e=>by cases e
 |j::js,_,_,_,_,_,I,.nil,e=>by cases e
 |j::js,_,_,_,_,_,I,.cons r t,e=>by
  obtain⟨h1,h2⟩:=Q9 (js:=js) (I.set (j:=j) r) t e
  exact⟨by simp[h1],h2⟩
theorem adD{es:List Expr}{js:List Nat}{k:Nat}(hc:X.calm=true)(hN:X.N.Nodup)(h:QC X es js):QG aj X (.Tuple es k pos) js (bA js):=by
 obtain⟨h1,h2⟩:=aeN h
 refine PG.weak (pg_tup (n:=js.length) hc (UW hN h) h1 h2) fun v σ H Q ⟨g,ρ,M,d,ρ',I,r,e,q⟩=>?_
 unfold bA at e
 split at e
 ·obtain⟨a,us,rfl,s1,t1⟩:=lE r.weak
  obtain⟨l1,I1⟩:=Q9 I t1 e
  exact⟨a,us,rfl,s1,l1,l1,q us I1⟩
 ·cases e
theorem zF:∀(js:List Nat) (vs:List V) (σ:L2.St) (ws:List Nat),(∀j∈js,j∈ws)->L2.wipe (sets σ js vs) ws=L2.wipe σ ws
 |[],_,_,_,_=>by unfold sets;rfl
 |_::_,[],_,_,_=>by unfold sets;rfl
 |j::js,v::vs,σ,ws,h=>by
  show L2.wipe (sets (σ.set j (some v)) js vs) ws=_
  rw[zF js vs _ ws fun k hk=>h k (aqk _ hk)]
  have hj:j∈ws:=h j aql
  have key:∀(ws:List Nat) (σ:L2.St),j∈ws->L2.wipe (σ.set j (some v)) ws=L2.wipe σ ws:=by
   intro ws
   induction ws with
   |nil=>intro σ z;cases z
   |cons k ws ih=>
    intro σ z
    show(L2.wipe (σ.set j (some v)) ws).set k none=(L2.wipe σ ws).set k none
    by_cases hk:j∈ws
    ·rw[ih σ hk]
    ·have e:j=k:=by
      rcases aqv.mp z with z|z
      ·exact z
      ·exact absurd z hk
     subst e
     have comm:∀(ws:List Nat),j∉ws->L2.wipe (σ.set j (some v)) ws=(L2.wipe σ ws).set j (some v):=by
      intro ws
      induction ws with
      |nil=>intro _;rfl
      |cons m ws ih2=>
       intro hm
       show(L2.wipe (σ.set j (some v)) ws).set m none=((L2.wipe σ ws).set m none).set j (some v)
       rw[ih2 fun z=>hm (aqk _ z),List.set_comm _ _ (fun z=>hm (by rw[z];exact aql))]
     rw[comm ws hk,List.set_set]
  exact key ws σ hj
end
structure Jm(K:aqf)(J:It)(C:Gh->Hp->Prop)(ds:List Dat):Prop where
 go:∀g i H,C g H->i < ds.length->J.go i H
 yld:∀g i H x H' d,Kd g H->C g H->ds[i]?=some d->J.yld i H x H'->Ex H H'/\Rep K g H' x d
 stop:∀g i H,C g H->i=ds.length->J.stop i H
 ex:∀g H H',Kd g H->C g H->Ex H H'->C g H'
 add:∀g g' H H',Kd g H->C g H->Gr true g g' H H'->Ex H H'->C g' H'
def abJ(C:Gh->Hp->Prop):Prop:=∀q g g' H H',Kd g H->C g H->Gr q g g' H H'->C g' H'
abbrev IF:=Mo->Env->Out (List Dat)
def tI(K:aqf)(aj:aQ)(W:WX)(firm:Bool)(f:IF):TI:=fun σ H R=>∃g ρ M,SInv K aj σ H g ρ M/\(f M ρ).sat (fun ds=>∀J C H',Ex H H'->Jm K J C ds->C g H'->(firm=true->abJ C)->R J H') (qM K aj W g H σ)
def QI(aj:aQ)(X:Cx)(W:WX)(firm:Bool)(tg e:Expr)(f:IF):Prop:=PI X tg e (tI X.K aj W firm f)
def W6(x:Str):List Dat:=x.cps.toList.map fun c=>.str ⟨#[c]⟩
def oN:Dat->Out (List Dat)
 |.list ds=>.ok ds
 |.tuple ds=>.ok ds
 |.str x=>.ok (W6 x)
 |_=>.bad
def cW(a:QF):IF:=fun M ρ=>(a M ρ).bind oN
def Src.cw(K:aqf)(S:Src)(ds:List Dat)(g:Gh)(H:Hp):Prop:=∃us,S.sq K H us/\aJ K g H us ds
def Src.cf(K:aqf)(S:Src)(ds:List Dat)(g:Gh)(H:Hp):Prop:=∃us,(match S with
 |.lst a=>Oo K g H a us
 |.tup a=>SqT K H a us
 |.str x=>us=chars x)/\aJ K g H us ds
section
variable{K:aqf}{g g':Gh}{H H':Hp}{ds es:List Dat}{S T:Src}
theorem Src.akK{us:List V}(e:Ex H H')(h:S.sq K H us):S.sq K H' us:=by
 cases S with
 |lst a=>exact ex_l e h
 |tup a=>exact ex_t e h
 |str x=>exact h
theorem Src.abt(h:S.cf K ds g H):S.cw K ds g H:=by
 obtain⟨us,h1,h2⟩:=h
 refine⟨us,?_,h2⟩
 cases S with
 |lst a=>exact Oo.sq h1
 |tup a=>exact h1
 |str x=>exact h1
theorem Src.uE:abJ (S.cf K ds):=fun q g g' H H' k ⟨us,h1,h2⟩ r=>by
 refine⟨us,?_,h2.gr r k⟩
 cases S with
 |lst a=>exact r.ls h1
 |tup a=>exact r.sqT k h1
 |str x=>exact h1
theorem Src.JQ(k:Kd g H)(h:S.cw K ds g H)(r:Gr true g g' H H')(e:Ex H H'):S.cw K ds g' H':=by
 obtain⟨us,h1,h2⟩:=h
 exact⟨us,Src.akK e h1,h2.gr r k⟩
theorem Src.W3(k:Kd g H)(h:S.cw K ds g H)(e:Ex H H'):S.cw K ds g H':=Src.JQ k h (Gr.ex e) e
end
section
variable{K:aqf}{ds es:List Dat}{S T:Src}
def ItS(K:aqf):Src->It
 |.lst a=>Itl K a
 |.tup a=>Itt K a
 |.str x=>Its x
theorem Dr{g:Gh}{H:Hp}(x:Str):aJ K g H (chars x) (W6 x):=by
 unfold chars W6
 induction x.cps.toList with
 |nil=>exact .nil
 |cons c cs ih=>exact .cons (.str _) ih
theorem Jm.of{J:It}{C C':Gh->Hp->Prop}(w:Jm K J C ds)(h:∀g H,C' g H->C g H)(e:∀g H H',Kd g H->C' g H->Ex H H'->C' g H')(a:∀g g' H H',Kd g H->C' g H->Gr true g g' H H'->Ex H H'->C' g' H'):Jm K J C' ds where
 go:=fun g i H c hi=>w.go g i H (h g H c) hi
 yld:=fun g i H x H' d k c e y=>w.yld g i H x H' d k (h g H c) e y
 stop:=fun g i H c e=>w.stop g i H (h g H c) e
 ex:=e
 add:=a
theorem aaJ:Jm K (ItS K S) (S.cw K ds) ds where
 go:=fun g i H ⟨us,h1,h2⟩ hi=>by
  have hx:us[i]?=some (us[i]'(by rw[h2.length];exact hi)):=aqi _
  cases S with
  |lst a=>exact⟨us,_,h1,hx⟩
  |tup a=>exact⟨us,_,h1,hx⟩
  |str x=>
   show i < x.cps.size
   have:=h2.length
   rw[show us=chars x from h1]at this
   unfold chars at this
   rw[aqr,aqP]at this
   omega
 yld:=fun g i H x H' d k ⟨us,h1,h2⟩ e y=>by
  obtain⟨v,hv,rv⟩:=h2.get e
  cases S with
  |lst a=>
   obtain⟨rfl,y⟩:=y
   have:x=v:=aqA ((y us h1).symm.trans hv)
   rw[this]
   exact⟨Ex.refl _,rv⟩
  |tup a=>
   obtain⟨rfl,y⟩:=y
   have:x=v:=aqA ((y us h1).symm.trans hv)
   rw[this]
   exact⟨Ex.refl _,rv⟩
  |str z=>
   obtain⟨rfl,c,hc,rfl⟩:=y
   rw[show us=chars z from h1]at hv
   unfold chars at hv
   rw[aqs,aqX,hc]at hv
   cases hv
   exact⟨Ex.refl _,rv⟩
 stop:=fun g i H ⟨us,h1,h2⟩ e=>by
  have hl:=h2.length
  cases S with
  |lst a=>exact⟨us,h1,by omega⟩
  |tup a=>exact⟨us,h1,by omega⟩
  |str x=>
   show x.cps.size<=i
   rw[show us=chars x from h1]at hl
   unfold chars at hl
   rw[aqr,aqP]at hl
   omega
 ex:=fun g H H' k h e=>Src.W3 k h e
 add:=fun g g' H H' k h r e=>Src.JQ k h r e
def kW(k₀:Int)(ds:List Dat):List Dat:=ds.mapIdx fun i d=>.tuple [.int (k₀+(i:Int)),d]
theorem aeQ{k₀:Int}:Jm K (ItE K S k₀) (S.cw K ds) (kW k₀ ds) where
 go:=fun g i H ⟨us,h1,h2⟩ hi=>by
  have hl:i < us.length:=by
   rw[h2.length]
   unfold kW at hi
   rw[List.length_mapIdx]at hi
   exact hi
  exact⟨us,us[i],h1,aqi hl⟩
 yld:=fun g i H x H' d k ⟨us,h1,h2⟩ e y=>by
  unfold kW at e
  rw[aqT]at e
  cases hd:ds[i]? with
  |none=>rw[hd]at e;cases e
  |some d0=>
   rw[hd]at e
   cases e
   obtain⟨v,hv,rv⟩:=h2.get hd
   obtain⟨T,x0,rfl,nT,rfl,y⟩:=y
   have:x0=v:=aqA ((y us h1).symm.trans hv)
   subst this
   exact⟨Ex.new nT,.tup (st_of upd_same) (.cons (.int _) (.cons (rv.ex (Ex.new nT) k) .nil))⟩
 stop:=fun g i H ⟨us,h1,h2⟩ e=>by
  unfold kW at e
  rw[List.length_mapIdx,←h2.length]at e
  exact⟨us,h1,e.symm⟩
 ex:=fun g H H' k h e=>Src.W3 k h e
 add:=fun g g' H H' k h r e=>Src.JQ k h r e
def xq(ds es:List Dat):List Dat:=List.zipWith (fun d e=>.tuple [d,e]) ds es
theorem aaA:Jm K (ItZ K S T) (fun g H=>S.cw K ds g H/\T.cw K es g H) (xq ds es) where
 go:=fun g i H ⟨⟨us,h1,h2⟩,⟨ws,h3,h4⟩⟩ hi=>by
  unfold xq at hi
  rw[List.length_zipWith,←h2.length,←h4.length]at hi
  exact⟨us,ws,us[i],ws[i],h1,h3,aqi (by omega),aqi (by omega)⟩
 yld:=fun g i H x H' d k ⟨⟨us,h1,h2⟩,⟨ws,h3,h4⟩⟩ e y=>by
  unfold xq at e
  rw[List.getElem?_zipWith]at e
  cases hd:ds[i]? with
  |none=>rw[hd]at e;cases e
  |some d0=>
   cases he:es[i]? with
   |none=>rw[hd,he]at e;cases e
   |some e0=>
    rw[hd,he]at e
    cases e
    obtain⟨v,hv,rv⟩:=h2.get hd
    obtain⟨u,hu,ru⟩:=h4.get he
    obtain⟨U,x0,y0,rfl,nU,rfl,y1,y2⟩:=y
    have:x0=v:=aqA ((y1 us h1).symm.trans hv)
    subst this
    have:y0=u:=aqA ((y2 ws h3).symm.trans hu)
    subst this
    exact⟨Ex.new nU,.tup (st_of upd_same) (.cons (rv.ex (Ex.new nU) k) (.cons (ru.ex (Ex.new nU) k) .nil))⟩
 stop:=fun g i H ⟨⟨us,h1,h2⟩,⟨ws,h3,h4⟩⟩ e=>by
  unfold xq at e
  rw[List.length_zipWith,←h2.length,←h4.length]at e
  exact⟨us,ws,h1,h3,e⟩
 ex:=fun g H H' k h e=>⟨Src.W3 k h.1 e,Src.W3 k h.2 e⟩
 add:=fun g g' H H' k h r e=>⟨Src.JQ k h.1 r e,Src.JQ k h.2 r e⟩
def jx(lo:Int)(n:Nat):List Dat:=(List.range n).map fun(i:Nat)=>.int (lo+(i:Int))
theorem VN{lo:Int}{n:Nat}:Jm K (Itr lo n) (fun _ _=>True) (jx lo n) where
 go:=fun g i H _ hi=>by
  unfold jx at hi
  rw[aqr,List.length_range]at hi
  exact hi
 yld:=fun g i H x H' d k _ e y=>by
  obtain⟨rfl,rfl⟩:=y
  unfold jx at e
  rw[aqs]at e
  cases hr:(List.range n)[i]? with
  |none=>rw[hr]at e;cases e
  |some j=>
   rw[hr]at e
   cases e
   have:j=i:=by
    obtain⟨h1,h2⟩:=aqh.mp hr
    rw[List.getElem_range]at h2
    exact h2.symm
   subst this
   exact⟨Ex.refl _,.int _⟩
 stop:=fun g i H _ e=>by
  unfold jx at e
  rw[aqr,List.length_range]at e
  show n<=i
  omega
 ex:=fun _ _ _ _ _ _=>trivial
 add:=fun _ _ _ _ _ _ _ _=>trivial
end
section
variable{X:Cx}{aj:aQ}{W:WX}{tg a b:Expr}{fa fb:QF}{pos p tpos:Pos}{elts:List Expr}{kk:Nat}
theorem LR{K:aqf}{g:Gh}{H:Hp}{v:V}{d:Dat}{ds:List Dat}{firm:Bool}(r:if firm=true then Rep K g H v d else dZ K g H v d)(h:oN d=.ok ds):∃S,srcOf v S/\S.cw K ds g H/\(firm=true->S.cf K ds g H):=by
 have rw:dZ K g H v d:=by
  cases firm with
  |true=>exact Rep.weak r
  |false=>exact r
 cases d with
 |list es=>
  cases h
  obtain⟨l,us,rfl,h1,h2⟩:=jd rw
  refine⟨.lst l,.inl ⟨l,rfl,rfl,.inl rfl⟩,⟨us,h1,h2⟩,fun z=>?_⟩
  subst z
  have r:Rep K g H (.ref l) (.list ds):=r
  cases r with
  |lst h3 h4=>exact⟨_,h3,h4⟩
 |tuple es=>
  cases h
  obtain⟨l,us,rfl,h1,h2⟩:=lE rw
  exact⟨.tup l,.inl ⟨l,rfl,rfl,.inr rfl⟩,⟨us,h1,h2⟩,fun _=>⟨us,h1,h2⟩⟩
 |str x=>
  cases h
  cases jO rw
  exact⟨.str x,.inr ⟨x,rfl,rfl⟩,⟨_,rfl,Dr x⟩,fun _=>⟨_,rfl,Dr x⟩⟩
 |_=>cases h
def tF(K:aqf)(aj:aQ)(W:WX)(firm:Bool)(f:QF):TE:=if firm=true then tQ K aj W f else tW K aj W f
def QF'(aj:aQ)(X:Cx)(W:WX)(firm:Bool)(e:Expr)(f:QF):Prop:=PE X e (tF X.K aj W firm f)
theorem tF.go{K:aqf}{firm:Bool}{g:Gh}{H:Hp}{σ:L2.St}{ρ:Env}{M:Mo}{f:QF}{k:Dat->Prop}{Q:VK}(I:SInv K aj σ H g ρ M)(h:(f M ρ).sat k (qM K aj W g H σ))(hk:∀d v H',k d->Ex H H'->(if firm=true then Rep K g H' v d else dZ K g H' v d)->Q v H'):tF K aj W firm f σ H Q:=by
 cases firm with
 |true=>exact tQ.go I h hk
 |false=>exact tW.go I h hk
theorem akP{K:aqf}{firm:Bool}{g:Gh}{H H':Hp}{v:V}{d:Dat}(e:Ex H H')(k:Kd g H)(r:if firm=true then Rep K g H v d else dZ K g H v d):if firm=true then Rep K g H' v d else dZ K g H' v d:=by
 cases firm with
 |true=>exact Rep.ex e k r
 |false=>exact dZ.ex e k r
theorem wf{K:aqf}{S:Src}{firm:Bool}{J:It}{ds es:List Dat}{R:It->Hp->Prop}{g:Gh}{H H1:Hp}(h:∀J C H',Ex H H'->Jm K J C ds->C g H'->(firm=true->abJ C)->R J H')(e1:Ex H H1)(w:Jm K J (S.cw K es) ds)(hw:S.cw K es g H1)(hf:firm=true->S.cf K es g H1):R J H1:=by
 cases firm with
 |true=>exact h J (S.cf K es) H1 e1 (w.of (fun _ _ z=>Src.abt z) (fun g H H' k c e=>Src.uE true g g H H' k c (Gr.ex e)) fun g g' H H' k c r e=>Src.uE true g g' H H' k c r) (hf rfl) fun _=>Src.uE
 |false=>exact h J (S.cw K es) H1 e1 w hw fun z=>nomatch z
theorem Yo{firm:Bool}(ha:QF' aj X W firm a fa):QI aj X W firm tg a (cW fa):=by
 refine⟨fun pins s σ H R I h=>?_⟩
 obtain⟨g,ρ,M,SI,hs⟩:=h
 have hs:=hs.bnd
 have fin:∀(S:Src) (x:V) (H1:Hp) (ds:List Dat),(∀J C H',Ex H H'->Jm X.K J C ds->C g H'->(firm=true->abJ C)->R J H')->Ex H H1->S.cw X.K ds g H1->(firm=true->S.cf X.K ds g H1)->R (ItS X.K S) H1:=fun S x H1 ds h e1 hw hf=>wf h e1 aaJ hw hf
 cases hfa:fa M ρ with
 |bad=>rw[hfa]at hs;exact False.elim hs
 |exc x=>
  rw[hfa]at hs
  exact(pi_list ha).run pins s σ H R I (tF.go (k:=fun _=>False) SI (by rw[hfa];exact hs) fun d v H' z=>False.elim z)
 |ok d=>
  rw[hfa]at hs
  cases d with
  |list ds=>
   refine(pi_list ha).run pins s σ H R I (tF.go (k:=fun z=>z=.list ds) SI (by rw[hfa];rfl) fun d v H' z e1 r=>?_)
   subst z
   obtain⟨S,hS,hw,hf⟩:=LR (firm:=firm) r (ds:=ds) rfl
   have rw:dZ X.K g H' v (.list ds):=by
    cases firm with
    |true=>exact Rep.weak r
    |false=>exact r
   obtain⟨l,us,rfl,h1,h2⟩:=jd rw
   refine⟨l,rfl,⟨us,h1⟩,?_⟩
   rcases hS with⟨a',e,ha',hl|ht⟩|⟨y,_,e⟩
   ·cases e
    subst hl
    exact fin (.lst l) (.ref l) H' ds hs e1 hw hf
   ·cases e
    subst ht
    refine wf (S:=.lst l) hs e1 (aaJ (S:=.lst l)) ⟨us,h1,h2⟩ fun z=>?_
    subst z
    have r:Rep X.K g H' (.ref l) (.list ds):=r
    cases r with
    |lst h3 h4=>exact⟨_,h3,h4⟩
   ·cases e
  |tuple ds=>
   refine(pi_tup ha).run pins s σ H R I (tF.go (k:=fun z=>z=.tuple ds) SI (by rw[hfa];rfl) fun d v H' z e1 r=>?_)
   subst z
   have rw:dZ X.K g H' v (.tuple ds):=by
    cases firm with
    |true=>exact Rep.weak r
    |false=>exact r
   obtain⟨l,us,rfl,h1,h2⟩:=lE rw
   exact⟨l,rfl,⟨us,h1⟩,fin (.tup l) (.ref l) H' ds hs e1 ⟨us,h1,h2⟩ fun _=>⟨us,h1,h2⟩⟩
  |str x=>
   refine(pi_str ha).run pins s σ H R I (tF.go (k:=fun z=>z=.str x) SI (by rw[hfa];rfl) fun d v H' z e1 r=>?_)
   subst z
   have rw:dZ X.K g H' v (.str x):=by
    cases firm with
    |true=>exact Rep.weak r
    |false=>exact r
   cases jO rw
   exact⟨x,rfl,fin (.str x) (.str x) H' _ hs e1 ⟨_,rfl,Dr x⟩ fun _=>⟨_,rfl,Dr x⟩⟩
  |_=>exact False.elim hs
def BJ(a:QF):IF:=fun M ρ=>(a M ρ).bind fun d=>(Ar d).bind fun n=>Out.when (decide (n<=100000/\-100000<=n)) (.ok (jx 0 n.toNat))
def Bu(a b:QF):IF:=fun M ρ=>(a M ρ).bind fun d=>(b M ρ).bind fun e=>(Ar d).bind fun lo=>(Ar e).bind fun n=>Out.when (decide (n<=100000/\-100000<=n/\lo<=100000/\-100000<=lo)) (.ok (jx lo (n - lo).toNat))
def uo(k₀:Int)(a:QF):IF:=fun M ρ=>(a M ρ).bind fun d=>(oN d).bind fun ds=>.ok (kW k₀ ds)
def Hr(a b:QF):IF:=fun M ρ=>(a M ρ).bind fun d=>(b M ρ).bind fun e=>(oN d).bind fun ds=>(oN e).bind fun es=>.ok (xq ds es)
theorem ady{firm:Bool}(hg:Gl X "range")(hm:X.mg "range"=none)(ha:QW aj X W a fa)(hs:nst a=true):QI aj X W firm tg (.Call (.Name "range" p) [a] [] pos) (BJ fa):=by
 refine⟨fun pins s σ H R I h=>?_⟩
 refine(pi_range1 hg hm (pa_cons ha pa_nil (cO hs [])) (cO hs [])).run pins s σ H R I ?_
 obtain⟨g,ρ,M,SI,h⟩:=h
 refine tW.go SI h.bnd fun d v H1 h1 e1 r1=>?_
 have h1:=h1.bnd
 unfold Ar at h1
 split at h1
 ·obtain⟨hz,h1⟩:=h1.pY
  have hz:=of_decide_eq_true hz
  cases cG r1
  exact⟨_,rfl,by omega,by omega,h1 _ _ H1 e1 VN trivial fun _=>fun _ _ _ _ _ _ _ _=>trivial⟩
 ·exact False.elim h1
theorem adF{firm:Bool}(hg:Gl X "range")(hm:X.mg "range"=none)(ha:QW aj X W a fa)(hb:QW aj X W b fb)(hs:nst a=true)(hs2:nst b=true):QI aj X W firm tg (.Call (.Name "range" p) [a,b] [] pos) (Bu fa fb):=by
 refine⟨fun pins s σ H R I h=>?_⟩
 refine(pi_range2 hg hm (pa_cons ha (pa_cons hb pa_nil (cO hs2 [])) (cO hs [b])) (by rw[cO hs,cO hs2];rfl) (cO hs2 [])).run pins s σ H R I ?_
 obtain⟨g,ρ,M,SI,h⟩:=h
 refine tW.go SI h.bnd fun d v H1 h1 e1 r1=>?_
 refine tW.go (SI.ex e1) (h1.bnd.mono (fun _ z=>z) fun _ z=>z.ex e1) fun d2 v2 H2 h2 e2 r2=>?_
 have h2:=h2.bnd
 unfold Ar at h2
 split at h2
 ·have h2:=Out.sat.bnd h2
  split at h2
  ·obtain⟨hz,h2⟩:=Out.sat.pY h2
   have hz:=of_decide_eq_true hz
   cases cG r1
   cases cG r2
   exact⟨_,_,rfl,⟨by omega,by omega,by omega,by omega⟩,h2 _ _ H2 (e1.trans e2) VN trivial fun _=>fun _ _ _ _ _ _ _ _=>trivial⟩
  ·exact False.elim h2
 ·exact False.elim h2
theorem afu{firm:Bool}{k₀:Int}(σ:L2.St)(H:Hp)(R:It->Hp->Prop)(h:tI X.K aj W firm (uo k₀ fa) σ H R):iEn X.K (tCons (tF X.K aj W firm fa) tNil) k₀ σ H R:=by
 obtain⟨g,ρ,M,SI,h⟩:=h
 refine tF.go SI h.bnd fun d v H1 h1 e1 r1=>?_
 cases hd:oN d with
 |bad=>rw[hd]at h1;exact False.elim h1
 |exc x=>cases d <;> cases hd
 |ok ds=>
  rw[hd]at h1
  obtain⟨S,hS,hw,hf⟩:=LR r1 hd
  exact⟨v,S,_,rfl,hS,hw.choose_spec.1,wf h1 e1 aeQ hw hf⟩
theorem agu{firm:Bool}(hg:Gl X "enumerate")(hm:X.mg "enumerate"=none)(ha:QF' aj X W firm a fa)(hs:nst a=true):QI aj X W firm (.Tuple elts kk tpos) (.Call (.Name "enumerate" p) [a] [] pos) (uo 0 fa):=
 ⟨fun pins s σ H R I h=>(alx hg hm (pa_cons ha pa_nil (cO hs [])) hs).run pins s σ H R I (afu σ H R h)⟩
theorem afe{firm:Bool}{k₀:Int}{j:Nat}{kp kp2:Pos}(hk0 : -(2 ^ 63)<=k₀)(hk1:k₀ < 2 ^ 63)(hg:Gl X "enumerate")(hm:X.mg "enumerate"=none)(ha:QF' aj X W firm a fa)(hs:nst a=true):QI aj X W firm (.Tuple elts kk tpos) (.Call (.Name "enumerate" p) [a] [⟨some "start",.Constant (.int k₀) j kp,kp2⟩] pos) (uo k₀ fa):=
 ⟨fun pins s σ H R I h=>(ah2 hk0 hk1 hg hm (pa_cons ha pa_nil (cO hs [])) hs).run pins s σ H R I (afu σ H R h)⟩
theorem ajD{firm:Bool}(hg:Gl X "zip")(hm:X.mg "zip"=none)(ha:QF' aj X W firm a fa)(hb:QF' aj X W firm b fb)(hs:nst a=true)(hs2:nst b=true):QI aj X W firm (.Tuple elts kk tpos) (.Call (.Name "zip" p) [a,b] [] pos) (Hr fa fb):=by
 refine⟨fun pins s σ H R I h=>(ak0 hg hm (pa_cons ha (pa_cons hb pa_nil (cO hs2 [])) (cO hs [b])) hs hs2).run pins s σ H R I ?_⟩
 obtain⟨g,ρ,M,SI,h⟩:=h
 refine tF.go SI h.bnd fun d v H1 h1 e1 r1=>?_
 refine tF.go (SI.ex e1) (h1.bnd.mono (fun _ z=>z) fun _ z=>z.ex e1) fun d2 v2 H2 h2 e2 r2=>?_
 cases hd:oN d with
 |bad=>rw[hd]at h2;exact False.elim h2
 |exc x=>cases d <;> cases hd
 |ok ds=>
  cases he:oN d2 with
  |bad=>rw[hd,he]at h2;exact False.elim h2
  |exc x=>cases d2 <;> cases he
  |ok es=>
   rw[hd,he]at h2
   obtain⟨S,hS,hw,hf⟩:=LR (akP e2 (SI.ex e1).kd r1) hd
   obtain⟨T,hT,hw2,hf2⟩:=LR r2 he
   refine⟨v,v2,S,T,_,_,rfl,hS,hT,hw.choose_spec.1,hw2.choose_spec.1,?_⟩
   cases firm with
   |true=>exact h2 _ (fun g H=>S.cf X.K ds g H/\T.cf X.K es g H) H2 (e1.trans e2) (aaA.of (fun _ _ z=>⟨Src.abt z.1,Src.abt z.2⟩) (fun g H H' k c e=>⟨Src.uE true g g H H' k c.1 (Gr.ex e),Src.uE true g g H H' k c.2 (Gr.ex e)⟩) fun g g' H H' k c r e=>⟨Src.uE true g g' H H' k c.1 r,Src.uE true g g' H H' k c.2 r⟩) ⟨hf rfl,hf2 rfl⟩ fun _=>fun q g g' H H' k c r=>⟨Src.uE q g g' H H' k c.1 r,Src.uE q g g' H H' k c.2 r⟩
   |false=>exact h2 _ _ H2 (e1.trans e2) aaA ⟨hw,hw2⟩ fun z=>nomatch z
end
def WF:WX:=fun _ _ _ _=>False
def xV{α:Type}:Out α->Out α
 |.ok a=>.ok a
 |_=>.bad
@[simp]theorem Yb {α:Type} (a:α):xV (.ok a)=.ok a:=rfl
theorem Bw{α:Type}{o:Out α}{P:α->Prop}{E E':dN->Prop}(h:(xV o).sat P E):o.sat P E':=by
 cases o
 ·exact h
 ·exact False.elim h
 ·exact h
def dD(tg:fL)(tt:QT)(te:QF)(M:Mo)(ρ:Env):List Dat->Out (List Dat)
 |[]=>.ok []
 |d::ds=>match tg d ρ with
  |none=>.bad
  |some ρ1=>(xV (tt M ρ1)).bind fun b=>if b=true then(xV (te M ρ1)).bind fun y=>(dD tg tt te M ρ ds).bind fun r=>.ok (y::r) else dD tg tt te M ρ ds
def eU(it:IF)(tg:fL)(vs:List Nat)(tt:QT)(te:QF):QF:=fun M ρ=>(it M ρ).bind fun ds=>Out.when (decide (ds.length<=50000)) ((dD tg tt te M (bZ ρ vs) ds).bind fun r=>.ok (.list r))
def iJ:QT:=fun _ _=>.ok true
def tFr(K:aqf)(aj:aQ)(W:WX)(f:IF):TE:=fun σ H Q=>∃g ρ M,SInv K aj σ H g ρ M/\(f M ρ).sat (fun xs=>∀l us H',H l=none->Ex H H'->H' l=some (.lst us)->aJ K (g.add l) H' us xs->Q (.ref l) H') (qM K aj W g H σ)
def Ad(it:IF)(tg:fL)(vs:List Nat)(tt:QT)(te:QF):IF:=fun M ρ=>(it M ρ).bind fun ds=>Out.when (decide (ds.length<=50000)) (dD tg tt te M (bZ ρ vs) ds)
section
variable{K:aqf}{aj:aQ}{W:WX}
theorem XC{g:Gh}{H:Hp}{D:Addr}{o o':HO}{vs:List V}{ds:List Dat}(k:Kd g H)(h:H D=some o)(l:g.Lo D)(r:aJ K g H vs ds):aJ K g (upd H D o') vs ds:=r.gr (Gr.upd (q:=true) k h (.inr l)) k
theorem ahj{g:Gh}{H:Hp}{D:Addr}{o o':HO}{v:V}{d:Dat}(k:Kd g H)(h:H D=some o)(l:g.Lo D)(r:Rep K g H v d):Rep K g (upd H D o') v d:=r.gr (Gr.upd (q:=true) k h (.inr l)) k
theorem rA{tg:fL}{tt:QT}{te:QF}{M:Mo}{ρ:Env}:∀{ds:List Dat} {x:dN},dD tg tt te M ρ ds≠.exc x
 |[],_,h=>nomatch h
 |d::ds,x,h=>by
  rw[dD]at h
  split at h
  ·cases h
  ·next ρ1 e=>
   cases h1:tt M ρ1 with
   |bad=>rw[h1]at h;cases h
   |exc y=>rw[h1]at h;cases h
   |ok b=>
    rw[h1]at h
    cases b with
    |false=>exact rA h
    |true=>
     have h:((xV (te M ρ1)).bind fun y=>(dD tg tt te M ρ ds).bind fun r=>Out.ok (y::r))=.exc x:=h
     cases h2:te M ρ1 with
     |bad=>rw[h2]at h;cases h
     |exc y=>rw[h2]at h;cases h
     |ok y=>
      rw[h2]at h
      cases h3:dD tg tt te M ρ ds with
      |bad=>rw[h3]at h;cases h
      |exc z=>exact rA h3
      |ok r=>rw[h3]at h;cases h
theorem Oz(σ:L2.St)(i:Nat):∀vs:List Nat,(L2.wipe σ vs)[i]?=if i∈vs then(σ[i]?).map (fun _=>none) else σ[i]?
 |[]=>by simp[L2.wipe]
 |v::vs=>by
  show((L2.wipe σ vs).set v none)[i]?=_
  by_cases h:v=i
  ·subst h
   by_cases hl:v < σ.length
   ·rw[aqx (by rw[wipe_length];exact hl),if_pos aql,aqi hl]
    rfl
   ·have h1:σ[v]?=none:=List.getElem?_eq_none_iff.mpr (by omega)
    rw[if_pos aql,h1,List.getElem?_eq_none_iff.mpr (by rw[aqG,wipe_length];omega)]
    rfl
  ·rw[aqo h,Oz σ i vs]
   have:i∈v::vs↔i∈vs:=⟨fun z=>by
    rcases aqv.mp z with z|z
    ·exact absurd z.symm h
    ·exact z,aqk _⟩
   simp only[this]
theorem Di(σ:L2.St)(vs:List Nat):L2.wipe (L2.wipe σ vs) vs=L2.wipe σ vs:=by
 apply aqE
 intro i
 rw[Oz (L2.wipe σ vs) i vs,Oz σ i vs]
 split
 ·cases σ[i]? <;> rfl
 ·rfl
theorem Xd{it:IF}{tg:fL}{js vs:List Nat}{tt:QT}{te:QF}(hj:∀j∈js,j∈vs)(σ:L2.St)(H:Hp)(Q:VK)(h:tFr K aj W (Ad it tg vs tt te) σ H Q) :
  tLc (tI K aj W false it) (zQ K aj js tg) (j9 K aj WF tt) (tQ K aj WF te) vs σ H Q:=by
 obtain⟨g,ρ,M,I,h⟩:=h
 refine⟨g,ρ,M,I,h.bnd.mono (fun ds hk J C H1 e1 w c _ D nD=>?_) fun _ z=>z⟩
 obtain⟨hz,hk⟩:=hk.pY
 have hlen:=of_decide_eq_true hz
 obtain⟨total,htot,hQ⟩:∃total,dD tg tt te M (bZ ρ vs) ds=.ok total/\∀l us H',H l=none->Ex H H'->H' l=some (.lst us)->aJ K (g.add l) H' us total->Q (.ref l) H':=by
  cases hc:dD tg tt te M (bZ ρ vs) ds with
  |bad=>rw[hc]at hk;exact False.elim hk
  |exc x=>exact absurd hc rA
  |ok total=>
   rw[hc]at hk
   exact⟨total,rfl,hk⟩
 have I1:=(I.ex e1).wipe vs
 have kD:∀{Ha:Hp} {us:List V},Ex H1 Ha->Ha D=some (.lst us)->SInv K aj (L2.wipe σ vs) Ha (g.add D) (bZ ρ vs) M:=fun ea hu=>I1.add nD ea hu trivial
 let Pv:Nat->Hp->Prop:=fun i Ha=>Ex H1 Ha/\i<=ds.length/\∃us ys,Ha D=some (.lst us)/\aJ K (g.add D) Ha us ys/\ys.length<=i/\(dD tg tt te M (bZ ρ vs) (ds.drop i)).sat (fun r=>total=ys++r) fun _=>False
 refine⟨fun i m Ha=>m=ds.length - i/\Pv i Ha,⟨ds.length,rfl,Ex.new nD,aqW _,[],[],upd_same,.nil,aqF _,?_⟩,?_⟩
 ·rw[arp,htot]
  rfl
 ·rintro i m Ha ⟨rfl,ea,hi,us,ys,hu,hU,hy,hs⟩
  have Ia:=kD ea hu
  have Ca:=w.add g (g.add D) H1 Ha (I.kd.ex e1) c (Gh.Gg nD ea) ea
  by_cases hlt:i < ds.length
  ·refine .inr ⟨w.go _ i Ha Ca hlt,Pv (i+1),fun H' p=>⟨ds.length - (i+1),by omega,rfl,p⟩,fun x H' y=>?_⟩
   have hd:ds[i]?=some ds[i]:=aqi hlt
   obtain⟨e2,rx⟩:=w.yld _ i Ha x H' _ Ia.kd Ca hd y
   have I2:=Ia.ex e2
   rw[aq1 hlt,dD]at hs
   split at hs
   ·exact False.elim hs
   ·next ρ1 he=>
    refine⟨g.add D,_,M,_,ρ1,I2,rx,he,fun ws I3=>⟨zF js ws _ vs hj |>.trans (Di σ vs),?_⟩⟩
    refine j9.go I3 (Bw hs.bnd) fun b H3 hb e3=>?_
    have I4:=I3.ex e3
    have hu3:=e3 _ _ (e2 _ _ hu)
    have hU3:=(hU.ex e2 Ia.kd).ex e3 I2.kd
    cases b with
    |false=>
     have hb:(dD tg tt te M (bZ ρ vs) (ds.drop (i+1))).sat (fun r=>total=ys++r) fun _=>False:=hb
     exact⟨(ea.trans e2).trans e3,hlt,us,ys,hu3,hU3,Nat.le_succ_of_le hy,hb⟩
    |true=>
     have hb:((xV (te M ρ1)).bind fun y=>(dD tg tt te M (bZ ρ vs) (ds.drop (i+1))).bind fun r=>Out.ok (y::r)).sat (fun r=>total=ys++r) fun _=>False:=hb
     refine tQ.go I4 (Bw hb.bnd) fun y v H4 hyv e4 ry=>?_
     have I5:=I4.ex e4
     have hu4:=e4 _ _ hu3
     have hU4:=hU3.ex e4 I4.kd
     have lD:(g.add D).Lo D:=.inr rfl
     refine⟨us,hu4,sz_lt (by rw[hU.length];omega),Ex.mut (((ea.trans e2).trans e3).trans e4) nD,hlt,us++[v],ys++[y],upd_same,?_,by simp;omega,hyv.bnd.mono (fun r hr=>?_) fun _ z=>z⟩
     ·exact XC I5.kd hu4 lD (hU4.append (.cons ry .nil))
     ·have hr:total=ys++y::r:=hr
      rw[hr]
      simp
  ·have e:i=ds.length:=by omega
   refine .inl ⟨w.stop _ i Ha Ca e,?_⟩
   rw[e,aq5]at hs
   have hs:total=ys++[]:=hs
   rw[aq0]at hs
   subst hs
   exact hQ D us Ha (CJ e1 D nD) (e1.trans ea) hu hU
theorem afS{it:IF}{tg:fL}{js vs:List Nat}{tt:QT}{te:QF}(hj:∀j∈js,j∈vs)(σ:L2.St)(H:Hp)(Q:VK)(h:tQ K aj W (eU it tg vs tt te) σ H Q) :
  tLc (tI K aj W false it) (zQ K aj js tg) (j9 K aj WF tt) (tQ K aj WF te) vs σ H Q:=by
 obtain⟨g,ρ,M,I,h⟩:=h
 refine Xd hj σ H Q ⟨g,ρ,M,I,?_⟩
 unfold Ad
 unfold eU at h
 cases hi:it M ρ with
 |bad=>rw[hi]at h;exact False.elim h
 |exc x=>rw[hi]at h;exact h
 |ok ds=>
  rw[hi]at h
  obtain⟨hz,h⟩:=Out.sat.pY h
  have h:=h.bnd
  show(Out.when (decide (ds.length<=50000)) (dD tg tt te M (bZ ρ vs) ds)).sat _ _
  rw[hz,Out.VD]
  exact h.mono (fun xs z l us H' n e hl r=>z _ H' e (.lst (.inl ⟨.inl hl,I.kd.fresh n⟩) (aJ.less (g:=g.add l) (g':=g) rfl (fun a z=>z.elim .inl fun z=>.inr (z.elim .inl fun z=>.inr (.inl z))) r))) fun _ z=>z
end
section
variable{X:Cx}{aj:aQ}{W:WX}{elt tg iter:Expr}{pos p tpos:Pos}
theorem aji{X:Cx}:Takes X WF:=fun u s' ⟨a,B,sI,pins,σ,H,cls,d,e,I,nb,up,sky,na,os,ag,w⟩=>False.elim w
theorem alw{scope:Scope}{own:List (Str×Nat)}{it:IF}{tgf:fL}{js:List Nat}{tt:QT}{te:QF}{ifs:List Expr}(hc:X.calm=true)(hN:X.N.Nodup)(hi:QI aj X W false tg iter it)(ok:blkC X.N X.env.scope scope own=true)(hj:∀j∈js,j∈own.map (·.2))
  (hg:∀(s:Shared) (H:Hp) (C:Addr) (cl:List (Str×Addr)) (fp:List Addr),QG aj (X.blk s H scope (compEnvC scope cl C X.env) fp) tg js tgf)
  (ht:∀(s:Shared) (H:Hp) (C:Addr) (cl:List (Str×Addr)) (fp:List Addr),PTs (X.blk s H scope (compEnvC scope cl C X.env) fp) ifs (j9 X.K aj WF tt))
  (he:∀(s:Shared) (H:Hp) (C:Addr) (cl:List (Str×Addr)) (fp:List Addr),QE aj (X.blk s H scope (compEnvC scope cl C X.env) fp) WF elt te) (hs:∀x,foldedSetIterable iter X.env x=pure x) :
  QE aj X W (.ListComp elt [⟨tg,iter,ifs,0⟩] scope pos) (eU it tgf (own.map (·.2)) tt te):=
 PE.weak (pe_lc (g:=zQ X.K aj js tgf) (tt:=j9 X.K aj WF tt) (te:=tQ X.K aj WF te) hc hN hi (blkOk_by ok) (fun s H C cl fp=>hg s H C cl fp) ht (fun s H C cl fp=>he s H C cl fp) hs) fun σ H Q h=>afS hj σ H Q h
theorem akz{scope:Scope}{own:List (Str×Nat)}{it:IF}{tgf:fL}{js:List Nat}{tt:QT}{te:QF}{ifs:List Expr}(hc:X.calm=true)(hN:X.N.Nodup)(hi:QI aj X W false tg iter it)(ok:blkC X.N X.env.scope scope own=true)(hj:∀j∈js,j∈own.map (·.2))
  (hg:∀(s:Shared) (H:Hp) (C:Addr) (cl:List (Str×Addr)) (fp:List Addr),QG aj (X.blk s H scope (compEnvC scope cl C X.env) fp) tg js tgf)
  (ht:∀(s:Shared) (H:Hp) (C:Addr) (cl:List (Str×Addr)) (fp:List Addr),PTs (X.blk s H scope (compEnvC scope cl C X.env) fp) ifs (j9 X.K aj WF tt))
  (he:∀(s:Shared) (H:Hp) (C:Addr) (cl:List (Str×Addr)) (fp:List Addr),QE aj (X.blk s H scope (compEnvC scope cl C X.env) fp) WF elt te) (hs:∀x,foldedSetIterable iter X.env x=pure x) :
  PE X (.ListComp elt [⟨tg,iter,ifs,0⟩] scope pos) (tFr X.K aj W (Ad it tgf (own.map (·.2)) tt te)):=
 PE.weak (pe_lc (g:=zQ X.K aj js tgf) (tt:=j9 X.K aj WF tt) (te:=tQ X.K aj WF te) hc hN hi (blkOk_by ok) (fun s H C cl fp=>hg s H C cl fp) ht (fun s H C cl fp=>he s H C cl fp) hs) fun σ H Q h=>Xd hj σ H Q h
end
def aZ.sat{α:Type}(o:aZ α)(P:α->Mo->Prop)(E:dN->Mo->Prop):Prop:=
 match o with
 |.ok a M=>P a M
 |.exc x M=>E x M
 |.bad=>False
def aZ.bind{α β:Type}(o:aZ α)(k:α->Mo->aZ β):aZ β:=
 match o with
 |.ok a M=>k a M
 |.exc x M=>.exc x M
 |.bad=>.bad
@[simp]theorem aZ.yV {α β:Type} (a:α) (M:Mo) (k:α->Mo->aZ β):(aZ.ok a M).bind k=k a M:=rfl
@[simp]theorem aZ.afh {α β:Type} (x:dN) (M:Mo) (k:α->Mo->aZ β):(aZ.exc x M:aZ α).bind k=.exc x M:=rfl
@[simp]theorem aZ.aeh {α β:Type} (k:α->Mo->aZ β):(aZ.bad:aZ α).bind k=.bad:=rfl
theorem aZ.sat.bnd{α β:Type}{o:aZ α}{k:α->Mo->aZ β}{P:β->Mo->Prop}{E:dN->Mo->Prop}(h:(o.bind k).sat P E):o.sat (fun a M=>(k a M).sat P E) E:=by
 cases o <;> exact h
theorem aZ.sat.mono{α:Type}{o:aZ α}{P P':α->Mo->Prop}{E E':dN->Mo->Prop}(h:o.sat P E)(hp:∀a M,P a M->P' a M)(he:∀x M,E x M->E' x M):o.sat P' E':=by
 cases o
 ·exact hp _ _ h
 ·exact he _ _ h
 ·exact h
def Out.at{α:Type}(o:Out α)(M:Mo):aZ α:=
 match o with
 |.ok a=>.ok a M
 |.exc x=>.exc x M
 |.bad=>.bad
@[simp]theorem Out.apV {α:Type} (a:α) (M:Mo):(Out.ok a).at M=.ok a M:=rfl
@[simp]theorem Out.apr {α:Type} (x:dN) (M:Mo):(Out.exc x:Out α).at M=.exc x M:=rfl
@[simp]theorem Out.aoK {α:Type} (M:Mo):(Out.bad:Out α).at M=.bad:=rfl
theorem Out.iZ{α:Type}{o:Out α}{M:Mo}{P:α->Mo->Prop}{E:dN->Mo->Prop}(h:(o.at M).sat P E):o.sat (fun a=>P a M) fun x=>E x M:=by
 cases o <;> exact h
abbrev GF:=Mo->Env->aZ Dat
abbrev GT:=Mo->Env->aZ Bool
def uL.sat(o:uL)(nx:Env->Mo->Prop)(rt:Dat->Mo->Prop)(bk ct:Env->Mo->Prop)(ex:dN->Env->Mo->Prop):Prop:=
 match o with
 |.next ρ M=>nx ρ M
 |.ret d M=>rt d M
 |.brk ρ M=>bk ρ M
 |.cont ρ M=>ct ρ M
 |.exc x ρ M=>ex x ρ M
 |.bad=>False
theorem uL.sat.mono{o:uL}{nx nx':Env->Mo->Prop}{rt rt':Dat->Mo->Prop}{bk bk' ct ct':Env->Mo->Prop}{ex ex':dN->Env->Mo->Prop}(h:o.sat nx rt bk ct ex)(h1:∀ρ M,nx ρ M->nx' ρ M)(h2:∀d M,rt d M->rt' d M)(h3:∀ρ M,bk ρ M->bk' ρ M)(h4:∀ρ M,ct ρ M->ct' ρ M)(h5:∀x ρ M,ex x ρ M->ex' x ρ M):o.sat nx' rt' bk' ct' ex':=by
 cases o
 ·exact h1 _ _ h
 ·exact h2 _ _ h
 ·exact h3 _ _ h
 ·exact h4 _ _ h
 ·exact h5 _ _ _ h
 ·exact h
abbrev SF:=Mo->Env->uL
def Gh.fr(g:Gh):Gh:={ g with Lo:=fun _=>False }
section
variable(K:aqf)(aj:aQ)(W:WX)(q:Bool)
def gE(g:Gh)(H:Hp)(σ:L2.St)(ρ:Env)(x:dN)(M':Mo):Prop:=∀H' g' c dd,Gr q g g' H H'->SInv K aj σ H' g' ρ M'->ql K aj g' H' x c dd->W c dd σ H'
def tE(f:GF):TE:=fun σ H Q=>∃g ρ M,SInv K aj σ H g ρ M/\(f M ρ).sat (fun d M'=>∀v H' g',Gr q g g' H H'->SInv K aj σ H' g' ρ M'->Rep K g' H' v d->Q v H') (gE K aj W q g H σ ρ)
def tET(f:GT):TT:=fun σ H Q=>∃g ρ M,SInv K aj σ H g ρ M/\(f M ρ).sat (fun b M'=>∀H' g',Gr q g g' H H'->SInv K aj σ H' g' ρ M'->Q b H') (gE K aj W q g H σ ρ)
def sN(k:L2.St->Hp->Prop)(g:Gh)(H:Hp)(ρ':Env)(M':Mo):Prop:=∀σ' H' g',Gr q g g' H H'->SInv K aj σ' H' g' ρ' M'->k σ' H'
def sR(k:VK)(g:Gh)(H:Hp)(d:Dat)(M':Mo):Prop:=∀v H' g',Gr q g g' H H'->Kd g'.fr H'->fV K aj g'.fr H' M'->Rep K g'.fr H' v d->k v H'
def sX(g:Gh)(H:Hp)(x:dN)(ρ':Env)(M':Mo):Prop:=∀σ' H' g' c dd,Gr q g g' H H'->SInv K aj σ' H' g' ρ' M'->ql K aj g'.fr H' x c dd->W c dd σ' H'
def tS(f:SF):TS:=fun D σ H=>∃g ρ M,SInv K aj σ H g ρ M/\(f M ρ).sat (sN K aj q D.nx g H) (sR K aj q D.rt g H) (sN K aj q D.bk g H) (sN K aj q D.ct g H) (sX K aj W q g H)
end
section
variable{K:aqf}{aj:aQ}{W:WX}{q:Bool}{g g1:Gh}{H H1:Hp}{σ:L2.St}{ρ:Env}{M:Mo}
theorem gE.gr{x:dN}{M':Mo}(r:Gr q g g1 H H1)(h:gE K aj W q g H σ ρ x M'):gE K aj W q g1 H1 σ ρ x M':=fun H' g' c dd r' I z=>h H' g' c dd (r.trans r') I z
theorem sN.gr{k:L2.St->Hp->Prop}{ρ':Env}{M':Mo}(r:Gr q g g1 H H1)(h:sN K aj q k g H ρ' M'):sN K aj q k g1 H1 ρ' M':=fun σ' H' g' r' I=>h σ' H' g' (r.trans r') I
theorem sR.gr{k:VK}{d:Dat}{M':Mo}(r:Gr q g g1 H H1)(h:sR K aj q k g H d M'):sR K aj q k g1 H1 d M':=fun v H' g' r' I z y=>h v H' g' (r.trans r') I z y
theorem sX.gr{x:dN}{ρ':Env}{M':Mo}(r:Gr q g g1 H H1)(h:sX K aj W q g H x ρ' M'):sX K aj W q g1 H1 x ρ' M':=fun σ' H' g' c dd r' I z=>h σ' H' g' c dd (r.trans r') I z
theorem tE.go{f:GF}{k:Dat->Mo->Prop}{Q:VK}(I:SInv K aj σ H g ρ M)(h:(f M ρ).sat k (gE K aj W q g H σ ρ))(hk:∀d M' v H' g',k d M'->Gr q g g' H H'->SInv K aj σ H' g' ρ M'->Rep K g' H' v d->Q v H'):tE K aj W q f σ H Q:=
 ⟨g,ρ,M,I,h.mono (fun d M' hd v H' g' e I' r=>hk d M' v H' g' hd e I' r) fun _ _ z=>z⟩
theorem tET.go{f:GT}{k:Bool->Mo->Prop}{Q:Bool->Hp->Prop}(I:SInv K aj σ H g ρ M)(h:(f M ρ).sat k (gE K aj W q g H σ ρ))(hk:∀b M' H' g',k b M'->Gr q g g' H H'->SInv K aj σ H' g' ρ M'->Q b H'):tET K aj W q f σ H Q:=
 ⟨g,ρ,M,I,h.mono (fun d M' hd H' g' e I'=>hk d M' H' g' hd e I') fun _ _ z=>z⟩
theorem tS.go{f:SF}{D:Ends}(I:SInv K aj σ H1 g1 ρ M)(r:Gr q g g1 H H1)(h:(f M ρ).sat (sN K aj q D.nx g H) (sR K aj q D.rt g H) (sN K aj q D.bk g H) (sN K aj q D.ct g H) (sX K aj W q g H)):tS K aj W q f D σ H1:=
 ⟨g1,ρ,M,I,h.mono (fun _ _ z=>z.gr r) (fun _ _ z=>z.gr r) (fun _ _ z=>z.gr r) (fun _ _ z=>z.gr r) (fun _ _ _ z=>z.gr r)⟩
theorem kZ.less{g':Gh}{fs:List (Str×V)}{gs:List (Str×Dat)}(e:g'.tbl=g.tbl)(n:∀a,g'.A a->g.A a)(h:kZ K g H fs gs):kZ K g' H fs gs:=by
 induction h with
 |nil=>exact .nil
 |cons r _ ih=>exact .cons (r.less e n) ih
theorem ql.less{g':Gh}{x:dN}{c:Value}{dd:Option Addr}(e:g'.tbl=g.tbl)(n:∀a,g'.A a->g.A a)(h:ql K aj g H x c dd):ql K aj g' H x c dd:=by
 obtain⟨C,h1,h2,h3⟩:=h
 refine⟨C,h1,h2,h3.imp id fun⟨a,fs,e1,e2,e3⟩=>⟨a,fs,e1,e2,e3.less e n⟩⟩
theorem wj(g:Gh):∀a,g.fr.A a->g.A a:=fun a z=>z.elim .inl fun z=>.inr (z.elim .inl fun z=>False.elim z)
theorem Rep.fr{v:V}{d:Dat}(h:Rep K g H v d):Rep K g.fr H v d:=Rep.less (g:=g) (g':=g.fr) rfl (wj g) h
theorem aJ.fr{v:List V}{d:List Dat}(h:aJ K g H v d):aJ K g.fr H v d:=aJ.less (g:=g) (g':=g.fr) rfl (wj g) h
theorem ql.fr{x:dN}{c:Value}{dd:Option Addr}(h:ql K aj g H x c dd):ql K aj g.fr H x c dd:=ql.less (g:=g) (g':=g.fr) rfl (wj g) h
end
def GE(aj:aQ)(X:Cx)(W:WX)(q:Bool)(e:Expr)(f:GF):Prop:=PE X e (tE X.K aj W q f)
def GTe(aj:aQ)(X:Cx)(W:WX)(q:Bool)(e:Expr)(f:GT):Prop:=PT X e (tET X.K aj W q f)
def SE(aj:aQ)(X:Cx)(W:WX)(q:Bool)(s:Stmt)(f:SF):Prop:=PS X s (tS X.K aj W q f)
def Jp(aj:aQ)(X:Cx)(W:WX)(q:Bool)(s:List Stmt)(f:SF):Prop:=PSs X s (tS X.K aj W q f)
theorem PS.weak{X:Cx}{e:Stmt}{t t':TS}(h:PS X e t)(k:∀D σ H,t' D σ H->t D σ H):PS X e t':=⟨fun pins s σ H D I z=>h.run pins s σ H D I (k D σ H z)⟩
theorem PSs.weak{X:Cx}{e:List Stmt}{t t':TS}(h:PSs X e t)(k:∀D σ H,t' D σ H->t D σ H):PSs X e t':=⟨fun pins s σ H D I z=>h.run pins s σ H D I (k D σ H z)⟩
def gOf(f:QF):GF:=fun M ρ=>(f M ρ).at M
def aer(f:QT):GT:=fun M ρ=>(f M ρ).at M
section
variable{X:Cx}{aj:aQ}{W:WX}{q:Bool}{a b e:Expr}{pos:Pos}
theorem afP{f:QF}(h:QE aj X W e f):GE aj X W q e (gOf f):=PE.weak h fun σ H Q ⟨g,ρ,M,I,z⟩=>
 ⟨g,ρ,M,I,(Out.iZ z).mono (fun d k v H' e r=>k v H' g (Gr.ex e) (I.ex e) r) fun x k H' c dd e r=>k H' g c dd (Gr.ex e) (I.ex e) r⟩
theorem ak7{f:QT}(h:rR aj X W e f):GTe aj X W q e (aer f):=PT.weak h fun σ H Q ⟨g,ρ,M,I,z⟩=>
 ⟨g,ρ,M,I,(Out.iZ z).mono (fun d k H' e=>k H' g (Gr.ex e) (I.ex e)) fun x k H' c dd e r=>k H' g c dd (Gr.ex e) (I.ex e) r⟩
def aU:SF:=fun M ρ=>.next ρ M
def aD(f k:SF):SF:=fun M ρ=>match f M ρ with
 |.next ρ' M'=>k M' ρ'
 |o=>o
theorem akf:Jp aj X W q [] aU:=PSs.weak pss_nil fun D σ H ⟨g,ρ,M,I,z⟩=>z σ H g .refl I
theorem ai8{s:Stmt}{f:SF}(h:SE aj X W q s f):Jp aj X W q [s] f:=pss_one h
theorem agQ{s:Stmt}{ss:List Stmt}{f k:SF}(h:SE aj X W q s f)(hs:Jp aj X W q ss k):Jp aj X W q (s::ss) (aD f k):=by
 refine PSs.weak (pss_cons h hs) fun D σ H ⟨g,ρ,M,I,z⟩=>?_
 refine⟨g,ρ,M,I,?_⟩
 unfold aD at z
 cases hf:f M ρ with
 |next ρ' M'=>
  rw[hf]at z
  exact fun σ' H' g' r I'=>tS.go I' r z
 |ret d M'=>rw[hf]at z;exact z
 |brk ρ' M'=>rw[hf]at z;exact z
 |cont ρ' M'=>rw[hf]at z;exact z
 |exc x ρ' M'=>rw[hf]at z;exact z
 |bad=>rw[hf]at z;exact z
def aZ.then{α:Type}(o:aZ α)(ρ:Env)(k:α->Mo->uL):uL:=
 match o with
 |.ok a M=>k a M
 |.exc x M=>.exc x ρ M
 |.bad=>.bad
@[simp]theorem aZ.amV {α:Type} (a:α) (M:Mo) (ρ:Env) (k:α->Mo->uL):(aZ.ok a M).then ρ k=k a M:=rfl
@[simp]theorem aZ.amk {α:Type} (x:dN) (M:Mo) (ρ:Env) (k:α->Mo->uL):(aZ.exc x M:aZ α).then ρ k=.exc x ρ M:=rfl
@[simp]theorem aZ.amr {α:Type} (ρ:Env) (k:α->Mo->uL):(aZ.bad:aZ α).then ρ k=.bad:=rfl
theorem dw{α:Type}{K:aqf}{g:Gh}{H:Hp}{σ:L2.St}{ρ:Env}{o:aZ α}{k:α->Mo->uL}{nx bk ct:Env->Mo->Prop}{rt:Dat->Mo->Prop}(h:(o.then ρ k).sat nx rt bk ct (sX K aj W q g H)):o.sat (fun a M=>(k a M).sat nx rt bk ct (sX K aj W q g H)) (gE K aj W q g H σ ρ):=by
 cases o with
 |ok a M=>exact h
 |exc x M=>exact fun H' g' c dd r I z=>h σ H' g' c dd r I z.fr
 |bad=>exact h
def bD(tg:fL)(f:GF):SF:=fun M ρ=>(f M ρ).then ρ fun d M'=>match tg d ρ with
 |some ρ'=>.next ρ' M'
 |none=>.bad
theorem X4{tg:Expr}{js:List Nat}{tf:fL}{f:GF}(he:GE aj X W q e f)(hg:QG aj X tg js tf)(hs:swapsWithSole [tg] e pos.line X.env=pure false)(hw:swappedStores [tg] e X.env=pure none)(h1:(assignEach [tg] X.env).map (·.2)=[assign tg X.env]):SE aj X W q (.Assign [tg] e pos) (bD tf f):=by
 refine PS.weak (ps_asg he hg hs hw h1) fun D σ H ⟨g,ρ,M,I,z⟩=>?_
 refine tE.go I (dw (σ:=σ) z) fun d M' v H' g' k r I' rv=>?_
 split at k
 ·next ρ' e'=>exact⟨g',ρ,M',d,ρ',I',rv,e',fun vs I2=>k _ H' g' r I2⟩
 ·exact False.elim k
def cD(f:GF):SF:=fun M ρ=>(f M ρ).then ρ fun _ M'=>.next ρ M'
theorem RM{f:GF}(he:GE aj X W q e f)(hs:swapsWith e none pos.line X.env=pure false):SE aj X W q (.Expr e pos) (cD f):=by
 refine PS.weak (ps_expr he hs) fun D σ H ⟨g,ρ,M,I,z⟩=>?_
 exact tE.go I (dw (σ:=σ) z) fun d M' v H' g' k r I' rv=>k σ H' g' r I'
end
def P0:Cell->Cell
 |.mut xs=>.dat (.list xs)
 |c=>c
def rF(ρ:Env):Env:=ρ.map fun o=>o.map P0
section
variable{K:aqf}{aj:aQ}{W:WX}{q:Bool}{g:Gh}{H:Hp}{σ:L2.St}{ρ:Env}{M:Mo}
theorem ju.less{g':Gh}{l:Addr}(e:g'.tbl=g.tbl)(n:∀a,g'.A a->g.A a):∀{b:Bool} {kvs:List (Dat×Dat)},ju K aj g H l b kvs->ju K aj g' H l b kvs
 |false,_,⟨kv,h1,h2,h3⟩=>⟨kv,h1,h2,h3.less e n⟩
 |true,_,⟨o,xs,vs,h1,h2,h3,h4,h5,h6⟩=>⟨o,xs,vs,h1,h2,h3,h4.less e n,h5,h6.less e n⟩
theorem dY.less{g':Gh}{h:Nat}{f:Str}{v:V}(e:g'.tbl=g.tbl)(e2:g'.ow=g.ow)(n:∀a,g'.A a->g.A a):∀{fl:iW},dY K aj g H h f v fl->dY K aj g' H h f v fl
 |.dat _,z=>Rep.less e n z
 |.lst _ _,⟨l,us,h1,h2,h3,h4,h5⟩=>⟨l,us,h1,h2,by rw[e2];exact h3,h4.less e n,by rw[e];exact h5⟩
 |.dic _ _,⟨l,h1,h2,h3⟩=>⟨l,h1,by rw[e2];exact h2,h3.less e n⟩
theorem cI.less{g':Gh}{h:Nat}(e:g'.tbl=g.tbl)(e2:g'.ow=g.ow)(n:∀a,g'.A a->g.A a):∀{fs:List (Str×V)} {gs:List (Str×iW)},cI K aj g H h fs gs->cI K aj g' H h fs gs
 |_,_,.nil=>.nil
 |_,_,.cons z t=>.cons (dY.less e e2 n z) (cI.less e e2 n t)
theorem fV.less{g':Gh}(e:g'.tbl=g.tbl)(e2:g'.ow=g.ow)(n:∀a,g'.A a->g.A a)(w:fV K aj g H M):fV K aj g' H M where
 len:=by rw[e];exact w.len
 inj:=by rw[e];exact w.inj
 ins:=fun h a i ha hi hc=>by
  rw[e]at ha
  obtain⟨C,dx,fs,c1,c2,c3⟩:=w.ins h a i ha hi hc
  exact⟨C,dx,fs,c1,c2,c3.less e e2 n⟩
 nd:=w.nd
 fd:=w.fd
 tw:=by rw[e,e2];exact w.tw
 dm:=w.dm
 nc:=w.nc
theorem Oe{i:Nat}{c:Cell}(h:(rF ρ)[i]?=some (some c)):∃c',ρ[i]?=some (some c')/\c=P0 c':=by
 unfold rF at h
 rw[aqs]at h
 cases hr:ρ[i]? with
 |none=>rw[hr]at h;cases h
 |some o=>
  rw[hr]at h
  cases o with
  |none=>cases h
  |some c'=>
   cases h
   exact⟨c',rfl,rfl⟩
theorem SInv.rF(I:SInv K aj σ H g ρ M):SInv K aj σ H g.fr (rF ρ) M where
 kd:=⟨fun a z=>I.kd.ob a (wj g a z),fun a z=>False.elim z,fun a z=>⟨(I.kd.lc a z).1,fun y=>y⟩⟩
 wok:=fV.less (g:=g) (g':=g.fr) rfl rfl (wj g) I.wok
 len:=by unfold Rf.rF;rw[aqr];exact I.len
 dat:=fun i d h=>by
  obtain⟨c,h1,h2⟩:=Oe h
  cases c with
  |dat d'=>
   cases h2
   obtain⟨v,e1,e2⟩:=I.dat i _ h1
   exact⟨v,e1,e2.fr⟩
  | «mut» xs=>
   cases h2
   obtain⟨l,us,e1,e2,e3,e4⟩:=I.own i _ h1
   refine⟨_,e1,.lst (.inl ⟨.inl e2,fun z=>?_⟩) e4.fr⟩
   rcases z with z|z|z
   ·exact I.kd.lo l e3 z
   ·exact(I.kd.lc l z).2 e3
   ·exact z
 own:=fun i xs h=>by
  obtain⟨c,h1,h2⟩:=Oe h
  cases c <;> cases h2
 sep:=fun i j xs ys l ne h1=>by
  obtain⟨c,h1,h2⟩:=Oe h1
  cases c <;> cases h2
end
section
variable{K:aqf}{aj:aQ}{W:WX}{q:Bool}{g g':Gh}{H H':Hp}{σ:L2.St}{ρ:Env}{M:Mo}
theorem Kd.fr(k:Kd g H):Kd g.fr H:=⟨fun a z=>k.ob a (wj g a z),fun a z=>False.elim z,fun a z=>⟨(k.lc a z).1,fun y=>y⟩⟩
theorem fV.fr(w:fV K aj g H M):fV K aj g.fr H M:=fV.less (g:=g) (g':=g.fr) rfl rfl (wj g) w
theorem bG{α:Type}{l:List (Option α)}{j i:Nat}{c:α}{o:Option α}(h:(l.set j o)[i]?=some (some c)):(j=i/\o=some c/\j < l.length)∨(j≠i/\l[i]?=some (some c)):=by
 by_cases z:j=i
 ·subst z
  have hj:j < l.length:=by
   have:=(aqh.mp h).1
   rw[aqG]at this
   exact this
  rw[aqx hj]at h
  exact .inl ⟨rfl,aqA h,hj⟩
 ·rw[aqo z]at h
  exact .inr ⟨z,h⟩
theorem SInv.ahW{j:Nat}{l:Addr}{us:List V}{xs:List Dat}(I:SInv K aj σ H g ρ M)(n:H l=none)(e:Ex H H')(hl:H' l=some (.lst us))(r:aJ K (g.add l) H' us xs):SInv K aj (σ.set j (some (.ref l))) H' (g.add l) (ρ.set j (some (.mut xs))) M:=by
 have I1:=I.add n e hl trivial
 have nl:∀(i:Nat) (ys:List Dat),ρ[i]?=some (some (.mut ys))->σ[i]?≠some (some (.ref l)):=fun i ys h z=>by
  obtain⟨l',us',h1,h2,_⟩:=I.own i ys h
  rw[z]at h1
  cases h1
  rw[n]at h2
  cases h2
 refine⟨I1.kd,I1.wok,by rw[aqG,aqG];exact I.len,fun i d h=>?_,fun i ys h=>?_,fun i k ys zs a ne h1 h2 h3 h4=>?_⟩
 ·rcases bG h with⟨_,h,_⟩|⟨ne,h⟩
  ·cases h
  ·rw[aqo ne]
   exact I1.dat i d h
 ·rcases bG h with⟨rfl,h,hj⟩|⟨ne,h⟩
  ·cases h
   exact⟨l,us,by rw[aqx (by rw[I.len];exact hj)],hl,.inr rfl,r⟩
  ·rw[aqo ne]
   exact I1.own i ys h
 ·rcases bG h1 with⟨rfl,h1,hj⟩|⟨n1,h1⟩
  ·rcases bG h2 with⟨rfl,h2,_⟩|⟨n2,h2⟩
   ·exact ne rfl
   ·rw[aqx (by rw[I.len];exact hj)]at h3
    cases h3
    rw[aqo n2]at h4
    exact nl k zs h2 h4
  ·rcases bG h2 with⟨rfl,h2,hj⟩|⟨n2,h2⟩
   ·rw[aqx (by rw[I.len];exact hj)]at h4
    cases h4
    rw[aqo n1]at h3
    exact nl i ys h1 h3
   ·rw[aqo n1]at h3
    rw[aqo n2]at h4
    exact I.sep i k ys zs a ne h1 h2 h3 h4
theorem dY.loc{l:Addr}{us us':List V}{h:Nat}{f:Str}{v:V}(k:Kd g H)(hl:H l=some (.lst us))(lo:g.Lo l):∀{fl:iW},dY K aj g H h f v fl->dY K aj g (upd H l (.lst us')) h f v fl:=fun {fl} z=>by
 have r:Gr true g g H (upd H l (.lst us')):=Gr.upd k hl (.inr lo)
 cases fl with
 |dat d=>exact Rep.gr r k z
 |lst n xs=>
  obtain⟨a,ws,h1,h2,h3,h4,h5⟩:=z
  exact⟨a,ws,h1,by rw[upd_ne (fun z=>by subst z;exact k.lo _ lo (.inr (by rw[h3];exact fun z=>nomatch z)))];exact h2,h3,h4.gr r k,h5⟩
 |dic n kvs=>
  obtain⟨a,h1,h2,h3⟩:=z
  have na:a≠l:=fun z=>by subst z;exact k.lo _ lo (.inr (by rw[h2];exact fun z=>nomatch z))
  refine⟨a,h1,h2,?_⟩
  cases n with
  |false=>
   obtain⟨kv,h3,h4,h5⟩:=h3
   exact⟨kv,by rw[upd_ne na];exact h3,h4,h5.gr r k⟩
  |true=>
   obtain⟨o,xs,vs,h3,h4,h5,h6,h7,h8⟩:=h3
   exact⟨o,xs,vs,by rw[upd_ne na];exact h3,h4,h5,h6.gr r k,h7,h8.gr r k⟩
theorem cI.loc{l:Addr}{us us':List V}{h:Nat}(k:Kd g H)(hl:H l=some (.lst us))(lo:g.Lo l):∀{fs:List (Str×V)} {gs:List (Str×iW)},cI K aj g H h fs gs->cI K aj g (upd H l (.lst us')) h fs gs
 |_,_,.nil=>.nil
 |_,_,.cons z t=>.cons (dY.loc k hl lo z) (cI.loc k hl lo t)
theorem fV.loc{l:Addr}{us us':List V}(k:Kd g H)(hl:H l=some (.lst us))(lo:g.Lo l)(w:fV K aj g H M):fV K aj g (upd H l (.lst us')) M where
 len:=w.len
 inj:=w.inj
 ins:=fun h a i ha hi hc=>by
  obtain⟨C,dx,fs,c1,c2,c3⟩:=w.ins h a i ha hi hc
  exact⟨C,dx,fs,c1,by rw[upd_ne (fun z=>by subst z;exact k.lo _ lo (.inl (aqn ha)))];exact c2,c3.loc k hl lo⟩
 nd:=w.nd
 fd:=w.fd
 tw:=w.tw
 dm:=w.dm
 nc:=w.nc
theorem SInv.change{j:Nat}{xs ys:List Dat}(I:SInv K aj σ H g ρ M)(hj:ρ[j]?=some (some (.mut xs))):∃l us,σ[j]?=some (some (.ref l))/\H l=some (.lst us)/\g.Lo l/\aJ K g H us xs/\∀us',aJ K g H us' ys->SInv K aj σ (upd H l (.lst us')) g (ρ.set j (some (.mut ys))) M:=by
 obtain⟨l,us,h1,h2,h3,h4⟩:=I.own j xs hj
 refine⟨l,us,h1,h2,h3,h4,fun us' r=>?_⟩
 have gr:Gr true g g H (upd H l (.lst us')):=Gr.upd I.kd h2 (.inr h3)
 refine⟨I.kd.upd trivial,I.wok.loc I.kd h2 h3,by rw[aqG];exact I.len,fun i d h=>?_,fun i zs h=>?_,fun i k zs ws a ne e1 e2 e3 e4=>?_⟩
 ·rcases bG h with⟨_,h,_⟩|⟨ne,h⟩
  ·cases h
  ·obtain⟨v,e1,e2⟩:=I.dat i d h
   exact⟨v,e1,e2.gr gr I.kd⟩
 ·rcases bG h with⟨rfl,h,_⟩|⟨ne,h⟩
  ·cases h
   exact⟨l,us',h1,upd_same,h3,r.gr gr I.kd⟩
  ·obtain⟨l',ws,e1,e2,e3,e4⟩:=I.own i zs h
   have nl:l'≠l:=fun z=>by
    subst z
    exact I.sep i j zs xs l' (Ne.symm ne) h hj e1 h1
   exact⟨l',ws,e1,by rw[upd_ne nl];exact e2,e3,e4.gr gr I.kd⟩
 ·have k1:∃xs,ρ[i]?=some (some (.mut xs)):=by
   rcases bG e1 with⟨rfl,_,_⟩|⟨_,h⟩
   ·exact⟨xs,hj⟩
   ·exact⟨zs,h⟩
  have k2:∃xs,ρ[k]?=some (some (.mut xs)):=by
   rcases bG e2 with⟨rfl,_,_⟩|⟨_,h⟩
   ·exact⟨xs,hj⟩
   ·exact⟨ws,h⟩
  obtain⟨x1,k1⟩:=k1
  obtain⟨x2,k2⟩:=k2
  exact I.sep i k x1 x2 a ne k1 k2 e3 e4
end
section
variable{X:Cx}{aj:aQ}{W:WX}{q:Bool}{a b e:Expr}{pos:Pos}
def aR(f:QF):SF:=fun M ρ=>((f M (rF ρ)).at M).then ρ fun d M'=>.ret d M'
def gU(f:GF):SF:=fun M ρ=>(f M ρ).then ρ fun d M'=>.ret d M'
theorem aiT{f:QF}(he:QE aj X W e f):SE aj X W q (.Return (some e) pos) (aR f):=by
 refine PS.weak (ps_ret he) fun D σ H ⟨g,ρ,M,I,z⟩=>?_
 refine⟨g.fr,rF ρ,M,I.rF,?_⟩
 unfold aR at z
 cases hf:f M (rF ρ) with
 |ok d=>
  rw[hf]at z
  exact fun v H' e r=>z v H' g (Gr.ex e) (I.ex e).kd.fr (I.ex e).wok.fr r
 |exc x=>
  rw[hf]at z
  exact fun H' c dd e r=>z σ H' g c dd (Gr.ex e) (I.ex e) r
 |bad=>rw[hf]at z;exact False.elim z
theorem agn{f:GF}(he:GE aj X W q e f):SE aj X W q (.Return (some e) pos) (gU f):=by
 refine PS.weak (ps_ret he) fun D σ H ⟨g,ρ,M,I,z⟩=>?_
 exact tE.go I (dw (σ:=σ) z) fun d M' v H' g' k r I' rv=>k v H' g' r I'.kd.fr I'.wok.fr rv.fr
def bR(t:QT)(f k:SF):SF:=fun M ρ=>((t M (rF ρ)).at M).then ρ fun c M'=>if c=true then f M' ρ else k M' ρ
def amn(t:GT)(f k:SF):SF:=fun M ρ=>(t M ρ).then ρ fun c M'=>if c=true then f M' ρ else k M' ρ
theorem akI{c:Expr}{s1 s2:List Stmt}{t:QT}{f k:SF}(hc:rR aj X W c t)(h1:Jp aj X W q s1 f)(h2:Jp aj X W q s2 k):SE aj X W q (.If c s1 s2 pos) (bR t f k):=by
 refine PS.weak (ps_if hc h1 h2) fun D σ H ⟨g,ρ,M,I,z⟩=>?_
 refine⟨g.fr,rF ρ,M,I.rF,?_⟩
 unfold bR at z
 cases hf:t M (rF ρ) with
 |ok d=>
  rw[hf]at z
  intro H' e
  cases d with
  |true=>exact tS.go (I.ex e) (Gr.ex e) z
  |false=>exact tS.go (I.ex e) (Gr.ex e) z
 |exc x=>
  rw[hf]at z
  exact fun H' c dd e r=>z σ H' g c dd (Gr.ex e) (I.ex e) r
 |bad=>rw[hf]at z;exact False.elim z
def fB(tg:fL)(body:SF):List Dat->Mo->Env->uL
 |[],M,ρ=>.next ρ M
 |d::ds,M,ρ=>match tg d ρ with
  |none=>.bad
  |some ρ1=>match body M ρ1 with
   |.next ρ2 M2=>fB tg body ds M2 ρ2
   |.cont ρ2 M2=>fB tg body ds M2 ρ2
   |.brk ρ2 M2=>.next ρ2 M2
   |.ret d M2=>.ret d M2
   |.exc x ρ2 M2=>.exc x ρ2 M2
   |.bad=>.bad
def oU(it:IF)(tg:fL)(body:SF):SF:=fun M ρ=>((it M ρ).at M).then ρ fun ds M'=>fB tg body ds M' ρ
theorem akb{tg iter:Expr}{body:List Stmt}{it:IF}{js:List Nat}{tf:fL}{f:SF}(hp:PassesOwn (model X.prog X.w) X.A X.env X.xe)(hc:X.calm=true)(hi:QI aj X W true tg iter it)(hg:QG aj X tg js tf)(hb:Jp aj X W q body f)(hs:∀x,foldedSetIterable iter X.env x=pure x) :
  SE aj X W q (.For tg iter body [] pos) (oU it tf f):=by
 refine PS.weak (ps_for hp hc hi hg hb hs) fun D σ H ⟨g,ρ,M,I,z⟩=>?_
 refine⟨g,ρ,M,I,?_⟩
 unfold oU at z
 cases hf:it M ρ with
 |exc x=>
  rw[hf]at z
  exact fun H' c dd e r=>z σ H' g c dd (Gr.ex e) (I.ex e) r.fr
 |bad=>rw[hf]at z;exact False.elim z
 |ok ds=>
  rw[hf]at z
  intro J C H1 e1 w c1 firm
  have firm:=firm rfl
  have z:(fB tf f ds M ρ).sat (sN X.K aj q D.nx g H) (sR X.K aj q D.rt g H) (sN X.K aj q D.bk g H) (sN X.K aj q D.ct g H) (sX X.K aj W q g H):=z
  let Pv:Nat->L2.St->Hp->Prop:=fun i σi Hi=>i<=ds.length/\∃gi ρi Mi,Gr q g gi H Hi/\SInv X.K aj σi Hi gi ρi Mi/\C gi Hi/\(fB tf f (ds.drop i) Mi ρi).sat (sN X.K aj q D.nx g H) (sR X.K aj q D.rt g H) (sN X.K aj q D.bk g H) (sN X.K aj q D.ct g H) (sX X.K aj W q g H)
  refine⟨fun i m σi Hi=>m=ds.length - i/\Pv i σi Hi,⟨ds.length,rfl,aqW _,g,ρ,M,Gr.ex e1,I.ex e1,c1,by rw[arp];exact z⟩,?_⟩
  rintro i m σi Hi ⟨rfl,hi,gi,ρi,Mi,ri,Ii,Ci,zi⟩
  by_cases hlt:i < ds.length
  ·refine .inr ⟨w.go _ i Hi Ci hlt,Pv (i+1),fun σ' H' p=>⟨ds.length - (i+1),by omega,rfl,p⟩,fun x H' y=>?_⟩
   have hd:ds[i]?=some ds[i]:=aqi hlt
   obtain⟨e2,rx⟩:=w.yld _ i Hi x H' _ Ii.kd Ci hd y
   rw[aq1 hlt,fB]at zi
   split at zi
   ·exact False.elim zi
   ·next ρ1 he=>
    have I2:=Ii.ex e2
    refine⟨gi,ρi,Mi,_,ρ1,I2,rx,he,fun vs I3=>⟨gi,ρ1,Mi,I3,?_⟩⟩
    have r2:=ri.trans (Gr.ex e2)
    cases hb':f Mi ρ1 with
    |next ρ2 M2=>
     rw[hb']at zi
     exact fun σ' H2 g2 r I'=>⟨hlt,g2,ρ2,M2,r2.trans r,I',firm q gi g2 H' H2 I2.kd (w.ex _ _ _ Ii.kd Ci e2) r,zi⟩
    |cont ρ2 M2=>
     rw[hb']at zi
     exact fun σ' H2 g2 r I'=>⟨hlt,g2,ρ2,M2,r2.trans r,I',firm q gi g2 H' H2 I2.kd (w.ex _ _ _ Ii.kd Ci e2) r,zi⟩
    |brk ρ2 M2=>
     rw[hb']at zi
     exact sN.gr r2 zi
    |ret d M2=>
     rw[hb']at zi
     exact sR.gr r2 zi
    |exc x ρ2 M2=>
     rw[hb']at zi
     exact sX.gr r2 zi
    |bad=>rw[hb']at zi;exact False.elim zi
  ·have e:i=ds.length:=by omega
   refine .inl ⟨w.stop _ i Hi Ci e,?_⟩
   rw[e,aq5]at zi
   exact zi σi Hi gi ri Ii
def OD(j:Nat)(f:QF):SF:=fun M ρ=>match ρ[j]? with
 |some (some (.dat (.int i)))=>((f M ρ).at M).then ρ fun d M'=>match d with
  |.int k=>.next (ρ.set j (some (.dat (.int (i+k))))) M'
  |_=>.bad
 |_=>.bad
theorem ah0{j:Nat}{x:Str}{f:QF}{pos':Pos}(hN:X.N.Nodup)(hi:X.N[j]?=some x)(hx:Loc X.env.scope x)(hf:X.fn x=true∨X.env.scope.names.lookup x=some .local)(he:QE aj X W e f):SE aj X W q (.AugAssign (.Name x pos') .Add e pos) (OD j f):=by
 refine PS.weak (ps_aug hN hi hx he ip_add hf) fun D σ H ⟨g,ρ,M,I,z⟩=>?_
 unfold OD at z
 split at z
 ·next i hj=>
  obtain⟨v,h1,h2⟩:=I.dat j _ hj
  cases h2
  refine⟨.int i,h1,⟨g,ρ,M,I,?_⟩⟩
  cases hf':f M ρ with
  |exc x=>rw[hf']at z;exact fun H' c dd e r=>z σ H' g c dd (Gr.ex e) (I.ex e) r.fr
  |bad=>rw[hf']at z;exact False.elim z
  |ok d=>
   rw[hf']at z
   intro u H' e r
   cases d with
   |int k=>
    cases r
    exact⟨i,k,rfl,rfl,z _ H' g (Gr.ex e) ((I.ex e).set (.int _))⟩
   |_=>exact False.elim z
 ·exact False.elim z
def FE(aj:aQ)(X:Cx)(W:WX)(e:Expr)(f:IF):Prop:=PE X e (tFr X.K aj W f)
def BZ(j:Nat)(f:IF):SF:=fun M ρ=>((f M ρ).at M).then ρ fun xs M'=>.next (ρ.set j (some (.mut xs))) M'
theorem adB{j:Nat}{f:IF}(D:Ends)(σ:L2.St)(H:Hp)(h:tS X.K aj W q (BZ j f) D σ H):tAsg (tFr X.K aj W f) (gName j) D σ H:=by
 obtain⟨g,ρ,M,I,z⟩:=h
 refine⟨g,ρ,M,I,?_⟩
 unfold BZ at z
 cases hf:f M ρ with
 |exc x=>rw[hf]at z;exact fun H' c dd e r=>z σ H' g c dd (Gr.ex e) (I.ex e) r.fr
 |bad=>rw[hf]at z;exact False.elim z
 |ok xs=>
  rw[hf]at z
  intro l us H' n e hl r
  have gr:Gr true g (g.add l) H H':=Gh.Gg n e
  refine z _ H' (g.add l) ?_ (I.ahW n e hl r)
  cases q with
  |true=>exact gr
  |false=>exact gr.loud
theorem adY{j:Nat}{x:Str}{f:IF}{pos':Pos}(hN:X.N.Nodup)(hi:X.N[j]?=some x)(hx:Loc X.env.scope x)(hf:X.fn x=true∨X.env.scope.names.lookup x=some .local)(he:FE aj X W e f)(hs:swapsWith e (some (.Name x pos')) pos.line X.env=pure false):SE aj X W q (.Assign [.Name x pos'] e pos) (BZ j f):=
 PS.weak (ps_set hN hi hx he hs hf) fun D σ H h=>adB D σ H h
def Nt(f:QA):IF:=fun M ρ=>(f M ρ).bind fun xs=>Out.when (decide (xs.length<=100000)) (.ok xs)
theorem ae5{K:aqf}{g:Gh}{H:Hp}{l:Addr}{vs:List V}{ds:List Dat}(k:Kd g H)(n:H l=none)(r:aJ K g H vs ds){o:HO}:aJ K (g.add l) (upd H l o) vs ds:=r.gr (Gh.Gg n (Ex.new n)) k
theorem aiG{es:List Expr}{fr:QA}(h:Gk aj X W es fr):FE aj X W (.List es pos) (Nt fr):=
 PE.weak (pe_lst h) fun σ H Q ⟨g,ρ,M,I,h⟩=>by
  refine Nr.go I h.bnd fun ds vs H1 h1 e1 r1=>?_
  obtain⟨hz,h1⟩:=h1.pY
  have hl:vs.length<=100000:=by
   rw[r1.length]
   exact of_decide_eq_true hz
  exact⟨sz_of hl,fun p np=>h1 p vs _ (CJ e1 p np) (e1.trans (Ex.new np)) upd_same (ae5 (I.kd.ex e1) np r1)⟩
def WR:Dat->Out (List Dat)
 |.list ds=>.ok ds
 |.tuple ds=>.ok ds
 |_=>.bad
def afn(f:QF):IF:=fun M ρ=>(f M ρ).bind WR
def baseOk:Expr->Bool
 |.Call (.Name _ _) _ _ _=>false
 |_=>true
theorem mD{o:Expr}{m:Str}{env:PySem.Env}{w:Sem Value}(h:baseOk o=true):attributeBase o m env w=w:=by
 cases o with
 | Call f as ks p=>cases f <;> first | rfl | cases h
 |_=>rfl
theorem YH{env:PySem.Env}{pos:Pos}:∀(es:List Expr),es.all nst=true->(backTo pos (starEach es env)).all (fun x=>!x.1)=true
 |[],_=>by with_unfolding_all rfl
 |a::es,h=>by
  rw[aqV,aqg]at h
  rw[cO h.1]
  have ih:=YH (env:=env) (pos:=pos) es h.2
  unfold backTo at ih ⊢
  rw[aqj,aqV,ih]
  rfl
theorem few{env:PySem.Env}{pos:Pos}{es:List Expr}(h:es.all nst=true)(hl:es.length < 30):((backTo pos (starEach es env)).all (fun x=>!x.1)&&(backToKw pos (keywordEach [] env)).all (fun x=>x.1.isSome)&&decide (es.length+([]:List Keyword).length+(if ([]:List Keyword).isEmpty then 0 else 1) < 30))=true:=by
 rw[YH es h]
 have:(backToKw pos (keywordEach [] env)).all (fun x=>x.1.isSome)=true:=by with_unfolding_all rfl
 rw[this]
 simpa using hl
def HY(j:Nat)(f:QF):SF:=fun M ρ=>match ρ[j]? with
 |some (some (.mut xs))=>((f M ρ).at M).then ρ fun d M'=>if xs.length < 100000 then .next (ρ.set j (some (.mut (xs++[d])))) M' else .bad
 |_=>.bad
theorem aie{j:Nat}{x:Str}{f:QF}{p apos:Pos}{epos:Pos}(hN:X.N[j]?=some x)(hv:Vis X.env.scope x)(hd:(x==("__debug__" : Str))=false)(hcd:(x==("__classdict__" : Str))=false)(he:QE aj X W e f)(hs:nst e=true)
  (hl:(apos.endLine==pos.line)=true):SE aj X W q (.Expr (.Call (.Attribute (.Name x p) "append" apos) [e] [] pos) epos) (HY j f):=by
 have h0:=pe_var (X:=X) (pos:=p) hN hv hd hcd
 have h1:=pa_cons he pa_nil (cO hs [])
 have key:=pe_bm (X:=X) (cpos:=pos) (apos:=apos) PySem.F.plainAttrs_list PySem.F.slot_list_append PySem.F.type_list_append mt_append h0 h1 (mD rfl) (few (by simp[hs]) (by simp)) hl (cO hs []) (by with_unfolding_all rfl)
 refine PS.weak (ps_expr key (by with_unfolding_all rfl)) fun D σ H ⟨g,ρ,M,I,z⟩=>?_
 unfold HY at z
 split at z
 ·next xs hj=>
  obtain⟨l,us,e1,e2,e3,e4⟩:=I.own j xs hj
  refine⟨.ref l,e1,.inl ⟨rfl,us,sq_of e2⟩,⟨g,ρ,M,I,?_⟩⟩
  cases hf:f M ρ with
  |exc x=>rw[hf]at z;exact fun H' c dd e r=>z σ H' g c dd (Gr.ex e) (I.ex e) r.fr
  |bad=>rw[hf]at z;exact False.elim z
  |ok d=>
   rw[hf]at z
   intro v H' e r
   have z:(if xs.length < 100000 then uL.next (ρ.set j (some (.mut (xs++[d])))) M else .bad).sat (sN X.K aj q D.nx g H) (sR X.K aj q D.rt g H) (sN X.K aj q D.bk g H) (sN X.K aj q D.ct g H) (sX X.K aj W q g H):=z
   split at z
   ·next hlen=>
    have I1:=I.ex e
    obtain⟨l',us',f1,f2,f3,f4,f5⟩:=I1.change (ys:=xs++[d]) hj
    rw[e1]at f1
    cases f1
    rw[e _ _ e2]at f2
    cases f2
    refine⟨l,us,v,rfl,rfl,e _ _ e2,sz_lt (by rw[e4.length];exact hlen),?_⟩
    exact z _ _ g ((Gr.ex e).trans (Gr.upd I1.kd (e _ _ e2) (.inr f3))) (f5 _ (f4.append (.cons r .nil)))
   ·exact False.elim z
 ·exact False.elim z
def ak9(j:Nat)(fi f:QF):SF:=fun M ρ=>match ρ[j]? with
 |some (some (.mut xs))=>((f M ρ).at M).then ρ fun d M'=>((fi M' ρ).at M').then ρ fun i M2=>match i with
  |.int k=>match ixN xs.length k with
   |some n=>.next (ρ.set j (some (.mut (xs.set n d)))) M2
   |none=>.bad
  |_=>.bad
 |_=>.bad
end
structure Gc(g g':Gh)(H H':Hp):Prop where
 keep:∀a o,H a=some o->¬g.W a->H' a=some o
 dom:∀a,H' a=none->H a=none
 tbl:∃more,g'.tbl=g.tbl++more
 W:∀a,g.W a->g'.W a
 nW:∀a,g'.W a->g.W a∨H a=none
 Lc:g'.Lc=g.Lc
 Lo:g'.Lo=g.Lo
def Vi(K:aqf)(aj:aQ)(n:Nat)(m:Mo->List Dat->Out Dat):Sp:=fun vs H Q E=>vs.length=n/\∃g M ds,Kd g H/\fV K aj g H M/\aJ K g H vs ds/\
 (m M ds).sat (fun d=>∀v H',Ex H H'->Rep K g H' v d->Q v H') fun x=>∀H' c dd,Ex H H'->ql K aj g H' x c dd->E c dd H'
def Jg(K:aqf)(aj:aQ)(n:Nat)(m:Mo->List Dat->aZ Dat):Sp:=fun vs H Q E=>vs.length=n/\∃g M ds,Kd g H/\fV K aj g H M/\aJ K g H vs ds/\
 (m M ds).sat (fun d M'=>∀v H' g',Gc g g' H H'->Kd g' H'->fV K aj g' H' M'->Rep K g' H' v d->Q v H') fun x M'=>∀H' g' c dd,Gc g g' H H'->Kd g' H'->fV K aj g' H' M'->ql K aj g' H' x c dd->E c dd H'
section
variable{K:aqf}{aj:aQ}{W:WX}{g g':Gh}{H H':Hp}{σ:L2.St}{ρ:Env}{M M':Mo}
theorem Gc.gr(r:Gc g g' H H'):Gr false g g' H H':=⟨fun a o h n _=>r.keep a o h n,(fun z=>nomatch z),r.dom,r.tbl,r.W,r.nW,(fun z=>nomatch z),r.Lc,fun a h=>by rw[r.Lo];exact h,fun a h=>by rw[r.Lo]at h;exact .inl h⟩
theorem SInv.call(r:Gc g g' H H')(k':Kd g' H')(w':fV K aj g' H' M')(I:SInv K aj σ H g ρ M):SInv K aj σ H' g' ρ M' where
 kd:=k'
 wok:=w'
 len:=I.len
 dat:=fun i d h=>by
  obtain⟨v,h1,h2⟩:=I.dat i d h
  exact⟨v,h1,h2.gr r.gr I.kd⟩
 own:=fun i xs h=>by
  obtain⟨l,us,h1,h2,h3,h4⟩:=I.own i xs h
  exact⟨l,us,h1,r.keep _ _ h2 (I.kd.lo l h3),by rw[r.Lo];exact h3,h4.gr r.gr I.kd⟩
 sep:=I.sep
def Gh.in(g:Gh):Gh:={ g with Lc:=fun a=>g.Lc a∨g.Lo a,Lo:=fun _=>False }
theorem YB(g:Gh)(a:Addr):g.in.A a↔g.A a:=by
 constructor
 ·rintro(z|(z|z)|z)
  ·exact .inl z
  ·exact .inr (.inl z)
  ·exact .inr (.inr z)
  ·exact False.elim z
 ·rintro(z|z|z)
  ·exact .inl z
  ·exact .inr (.inl (.inl z))
  ·exact .inr (.inl (.inr z))
theorem Kd.in(k:Kd g H):Kd g.in H:=⟨fun a z=>k.ob a ((YB g a).mp z),fun a z=>False.elim z,fun a z=>⟨z.elim (fun z=>(k.lc a z).1) (fun z=>k.lo a z),fun y=>y⟩⟩
def ini(n:Nat)(ds:List Dat):Env:=ds.map (fun d=>some (.dat d))++List.replicate (n - ds.length) none
theorem aaM{N:List Str}{vs:List V}{ds:List Dat}(k:Kd g H)(w:fV K aj g H M)(r:aJ K g H vs ds):SInv K aj (start N vs) H g (ini N.length ds) M where
 kd:=k
 wok:=w
 len:=by
  unfold L2.start ini
  rw[aqS,aqS,aqr,aqr,List.length_replicate,List.length_replicate,r.length]
 dat:=fun i d h=>by
  unfold ini at h
  unfold L2.start
  by_cases hi:i < ds.length
  ·rw[aqq (by rw[aqr];exact hi),aqs]at h
   cases hd:ds[i]? with
   |none=>rw[hd]at h;cases h
   |some d'=>
    rw[hd]at h
    cases h
    obtain⟨v,h1,h2⟩:=r.get hd
    refine⟨v,?_,h2⟩
    rw[aqq (by rw[aqr,r.length];exact hi),aqs,h1]
    rfl
  ·rw[aqy (by rw[aqr];omega)]at h
   rw[List.getElem?_replicate]at h
   split at h <;> cases h
 own:=fun i xs h=>by
  unfold ini at h
  by_cases hi:i < ds.length
  ·rw[aqq (by rw[aqr];exact hi),aqs]at h
   cases hd:ds[i]? with
   |none=>rw[hd]at h;cases h
   |some d'=>rw[hd]at h;cases h
  ·rw[aqy (by rw[aqr];omega)]at h
   rw[List.getElem?_replicate]at h
   split at h <;> cases h
 sep:=fun i j xs ys l ne h=>by
  unfold ini at h
  by_cases hi:i < ds.length
  ·rw[aqq (by rw[aqr];exact hi),aqs]at h
   cases hd:ds[i]? with
   |none=>rw[hd]at h;cases h
   |some d'=>rw[hd]at h;cases h
  ·rw[aqy (by rw[aqr];omega)]at h
   rw[List.getElem?_replicate]at h
   split at h <;> cases h
end
def mQ(n:Nat)(body:SF):Mo->List Dat->Out Dat:=fun M ds=>match body M (ini n ds) with
 |.ret d _=>.ok d
 |.next _ _=>.ok .none
 |.exc x _ _=>.exc x
 |_=>.bad
def mG(n:Nat)(body:SF):Mo->List Dat->aZ Dat:=fun M ds=>match body M (ini n ds) with
 |.ret d M'=>.ok d M'
 |.next _ M'=>.ok .none M'
 |.exc x _ M'=>.exc x M'
 |_=>.bad
section
variable{P:Program}{w:World}{K:aqf}{mg:Str->Option Value}{base:Heap}{aj:aQ}
def aej(E:XK):WX:=fun c d _ H=>E c d H
theorem Rep.same{g g':Gh}{H:Hp}{v:V}{d:Dat}(e:g'.tbl=g.tbl)(n:∀a,g'.A a↔g.A a)(h:Rep K g H v d):Rep K g' H v d:=h.less e fun a z=>(n a).mp z
theorem abB{g g':Gh}{H H':Hp}(r:Gr true g.in g' H H'):Ex H H':=fun a o h=>by
 by_cases w:g.W a
 ·exact r.keepW rfl a o h w
 ·exact r.keep a o h w fun z=>z
theorem aia{q:Bool}{g g':Gh}{H H':Hp}(r:Gr q g.in g' H H')(a:Addr):g'.fr.A a↔(g'.W a∨g.Lc a∨g.Lo a):=by
 have hl:g'.Lc=g.in.Lc:=r.Lc
 constructor
 ·rintro(z|z|z)
  ·exact .inl z
  ·have z:g'.Lc a:=z
   rw[hl]at z
   exact .inr z
  ·exact False.elim z
 ·rintro(z|z)
  ·exact .inl z
  ·refine .inr (.inl ?_)
   show g'.Lc a
   rw[hl]
   exact z
theorem amE{x qual:Str}{st:Stmt}{f:Addr}{fd:FuncData}{N ps:List Str}{k:Nat}{body:SF}(F:Fun K x qual st f fd)(S:FnScope N ps (defScope st))
  (hb:∀(cdv:Value) (A:Around) (outer:List PySem.Env) (s:Shared) (H:Hp) (E:XK),Room k (A.deeper (envOfC qual (defScope st) s.heap.objs.size f cdv))->Jp aj (cxOf (L2.CX P w) P w K mg base N qual (defScope st) f cdv A outer s H E) (aej E) true (defBody st) body) :
  FnOk P w K mg base (L2.CX P w) (k+1) f fd ps (Vi K aj ps.length (mQ N.length body)):=by
 refine F.okX S (fun vs H Q E h=>h.1) (fun cdv A outer s H vs Q E hr h=>⟨_,hb cdv A outer s H E hr,?_⟩)
 obtain⟨hl,g,M,ds,kd,wk,rs,h⟩:=h
 have wk':fV K aj g.in H M:=fV.less (g:=g) (g':=g.in) rfl rfl (fun a z=>(YB g a).mp z) wk
 refine⟨g.in,ini N.length ds,M,aaM kd.in wk' (aJ.less (g:=g) (g':=g.in) rfl (fun a z=>(YB g a).mp z) rs),?_⟩
 have back:∀{g':Gh} {H':Hp},Gr true g.in g' H H'->∀a,g.A a↔g'.fr.A a:=fun {g' H'} r a=>by
  rw[aia r a]
  have e:=(r.qg rfl)
  have ew:g'.W a↔g.W a:=by
   unfold Gh.W
   rw[e.1,e.2]
   rfl
  unfold Gh.A
  rw[ew]
 unfold mQ at h
 cases hf:body M (ini N.length ds) with
 |next ρ' M'=>
  rw[hf]at h
  exact fun σ' H' g' r I'=>h _ H' (abB r) .non
 |ret d M'=>
  rw[hf]at h
  exact fun v H' g' r k' w' rv=>h v H' (abB r) (Rep.same (g:=g'.fr) (g':=g) (r.qg rfl).1.symm (back r) rv)
 |exc x ρ' M'=>
  rw[hf]at h
  exact fun σ' H' g' c dd r I' rx=>h H' c dd (abB r) (ql.less (g:=g'.fr) (g':=g) (r.qg rfl).1.symm (fun a z=>(back r a).mp z) rx)
 |brk ρ' M'=>rw[hf]at h;exact False.elim h
 |cont ρ' M'=>rw[hf]at h;exact False.elim h
 |bad=>rw[hf]at h;exact False.elim h
theorem amJ{x qual:Str}{st:Stmt}{f:Addr}{fd:FuncData}{N ps:List Str}{k:Nat}{body:SF}(F:Fun K x qual st f fd)(S:FnScope N ps (defScope st))
  (hb:∀(cdv:Value) (A:Around) (outer:List PySem.Env) (s:Shared) (H:Hp) (E:XK),Room k (A.deeper (envOfC qual (defScope st) s.heap.objs.size f cdv))->Jp aj (cxOf (L2.CX P w) P w K mg base N qual (defScope st) f cdv A outer s H E) (aej E) false (defBody st) body) :
  FnOk P w K mg base (L2.CX P w) (k+1) f fd ps (Jg K aj ps.length (mG N.length body)):=by
 refine F.okX S (fun vs H Q E h=>h.1) (fun cdv A outer s H vs Q E hr h=>⟨_,hb cdv A outer s H E hr,?_⟩)
 obtain⟨hl,g,M,ds,kd,wk,rs,h⟩:=h
 have wk':fV K aj g.in H M:=fV.less (g:=g) (g':=g.in) rfl rfl (fun a z=>(YB g a).mp z) wk
 refine⟨g.in,ini N.length ds,M,aaM kd.in wk' (aJ.less (g:=g) (g':=g.in) rfl (fun a z=>(YB g a).mp z) rs),?_⟩
 let gb:Gh->Gh:=fun g'=>{ tbl:=g'.tbl,ow:=g'.ow,Lc:=g.Lc,Lo:=g.Lo }
 have gc:∀{g':Gh} {H':Hp},Gr false g.in g' H H'->Gc g (gb g') H H':=fun {g' H'} r=>⟨fun a o h n=>r.keep a o h n fun z=>z,r.dom,r.tbl,r.W,r.nW,rfl,rfl⟩
 have eA:∀{g':Gh} {H':Hp},Gr false g.in g' H H'->∀a,(gb g').A a↔g'.fr.A a:=fun {g' H'} r a=>by
  rw[aia r a]
  exact Iff.rfl
 have kk:∀{g':Gh} {H':Hp},Gr false g.in g' H H'->Kd g'.fr H'->Kd (gb g') H':=fun {g' H'} r k'=>by
  have nw:∀a,(g.Lc a∨g.Lo a)->¬g'.W a:=fun a z y=>by
   have:g'.fr.Lc a:=by
    show g'.Lc a
    rw[show g'.Lc=g.in.Lc from r.Lc]
    exact z
   exact(k'.lc a this).1 y
  exact⟨fun a z=>k'.ob a ((eA r a).mp z),fun a z=>nw a (.inr z),fun a z=>⟨nw a (.inl z),(kd.lc a z).2⟩⟩
 unfold mG at h
 cases hf:body M (ini N.length ds) with
 |next ρ' M'=>
  rw[hf]at h
  exact fun σ' H' g' r I'=>h _ H' (gb g') (gc r) (kk r I'.kd.fr) (fV.less (g:=g'.fr) (g':=gb g') rfl rfl (fun a z=>(eA r a).mp z) I'.wok.fr) .non
 |ret d M'=>
  rw[hf]at h
  exact fun v H' g' r k' w' rv=>h v H' (gb g') (gc r) (kk r k') (fV.less (g:=g'.fr) (g':=gb g') rfl rfl (fun a z=>(eA r a).mp z) w') (Rep.same (g:=g'.fr) (g':=gb g') rfl (eA r) rv)
 |exc x ρ' M'=>
  rw[hf]at h
  exact fun σ' H' g' c dd r I' rx=>h H' (gb g') c dd (gc r) (kk r I'.kd.fr) (fV.less (g:=g'.fr) (g':=gb g') rfl rfl (fun a z=>(eA r a).mp z) I'.wok.fr) (ql.less (g:=g'.fr) (g':=gb g') rfl (fun a z=>(eA r a).mp z) rx)
 |brk ρ' M'=>rw[hf]at h;exact False.elim h
 |cont ρ' M'=>rw[hf]at h;exact False.elim h
 |bad=>rw[hf]at h;exact False.elim h
end
def aY(m:Mo->List Dat->Out Dat)(as:QA):QF:=fun M ρ=>(as M ρ).bind fun ds=>m M ds
section
variable{X:Cx}{aj:aQ}{W:WX}{q:Bool}{a b e:Expr}{es:List Expr}{pos p:Pos}{x:Str}{k:Nat}{f:Addr}{fd:FuncData}{ps:List Str}
theorem ag7{m:Mo->List Dat->Out Dat}{as:QA}(tk:Takes X W)(F:FnOk X.prog X.w X.K X.mg X.base (L2.CX X.prog X.w) k f fd ps (Vi X.K aj ps.length m))(hr:Room k X.A)(hg:Gl X x)(hm:X.mg x=some (.ref f))(hk:PySem.W.keepIn X.K (.ref f)=true)(hb:Binds X.K fd ps [])
  (ha:Gk aj X W (e::es) as) (hl:(e::es).length=ps.length) (hd:(x==("__debug__" : Str))=false) (hs:(e::es).all nst=true) (hn:∀M ρ ds,as M ρ=.ok ds->ds.length=(e::es).length):QE aj X W (.Call (.Name x p) (e::es) [] pos) (aY m as):=by
 have hs':=hs
 rw[aqV,aqg]at hs'
 refine PE.weak (pe_callS (E:=fun σ=>WE W σ) F hr hg hm hk hb (fun σ=>passAt tk σ) ha hd (cO hs'.1 es) (star_any es hs'.2)) fun σ H Q ⟨g,ρ,M,I,h⟩=>?_
 refine⟨g,ρ,M,I,?_⟩
 have h:=h.bnd
 cases has:as M ρ with
 |exc x=>rw[has]at h;exact h
 |bad=>rw[has]at h;exact h
 |ok ds=>
  rw[has]at h
  have h:(m M ds).sat (fun d=>∀v H',Ex H H'->Rep X.K g H' v d->Q v H') (qM X.K aj W g H σ):=h
  intro vs H1 e1 r1
  refine⟨by rw[r1.length,hn M ρ ds has];exact hl,g,M,ds,I.kd.ex e1,I.wok.ex e1 I.kd,r1,h.mono (fun d k v H' e' r'=>k v H' (e1.trans e') r') fun x k H' c dd e' r'=>k H' c dd (e1.trans e') r'⟩
end
theorem aey{n:Nat}(h:n<=16001):n<=sizeLine:=aqH h (by decide)
theorem akL{prog:Program}{w:World}{A:Around}{E:Value->Shared->Prop}{s:Shared}{l:Addr}{v0:Value}{vs:List Value}{Q:List Value->Shared->Prop}(hh:A.handled=none)(hl:s.heap.IsList l (v0::vs).toArray∨IsTup s.heap l (v0::vs).toArray)(hz:vs.length<=16000)
  (h:∀(h₂:Heap) (tk:Nat),(∀b o,s.heap.get? b=some o->h₂.get? b=some o)->Q [v0,.ref h₂.objs.size] { s with heap:=h₂.push { cls:=.type "list",data:=.seq vs.toArray },toks:=tk }):wpAny (model prog w) A (unpackItems (.ref l) 2 (some 1)) Q E s:=by
 have hll:l < s.heap.objs.size:=by
  rcases hl with⟨o,ho,_⟩|⟨o,ho,_⟩ <;> exact Heap.lt_size ho
 have hlt:l≠s.heap.objs.size:=aqN hll
 have hsz:(v0::vs).toArray.size=vs.length+1:=by simp
 have hb:(v0::vs).toArray.size<=sizeLine:=aey (by rw[hsz];omega)
 have hd:(v0::vs).toArray.toList.drop 1=vs:=by simp
 have ht:((v0::vs).toArray.toList.drop 0).take 1=[v0]:=by simp
 have fin:∀(h₂:Heap) (tk:Nat),(∀b o,b≠s.heap.objs.size->s.heap.get? b=some o->h₂.get? b=some o)->wpAny (model prog w) A (newList vs >>= fun d=>pure ([v0]++[d]++[])) Q E { s with heap:=h₂,toks:=tk }:=fun h₂ tk k=>by
  refine wpAny_bind (wpAny_newObj_type (wpAny_pure ?_) (aey (by simp;omega)))
  exact h h₂ tk fun b o e=>k b o (aqN (Heap.lt_size e)) e
 unfold unpackItems
 refine wpAny_bind ?_
 unfold notIterableAtAll
 rcases hl with hl|hl
 ·refine wpAny_bind (wpAny_specialOf hl.typeIs slot_list_iter.lookup (wpAny_pure ?_))
  simp only[aqM,if_false]
  refine wpAny_bind (wpAny_holding (wpAny_pyIter_list hl ?_))
  refine wpAny_bind (wpAny_holding (PySem.W.kun_draw hlt 1 0 _ _ ⟨_,Heap.get?_push_size _ rfl,rfl,rfl⟩ (hl.push _) (by rw[hsz];omega) fun h₁ i1 b1=>?_))
  have hl₁:=(hl.push _).extBut b1.extBut hlt
  obtain⟨oi,hoi,_⟩:=id i1
  obtain⟨ol,hol,_⟩:=id hl₁
  rw[ht]
  refine wpAny_bind (wpAny_holding (PySem.W.kun_collect (s:={ s with heap:=h₁ }) (T:="list_iterator") (.inr (.inr (.inl rfl))) (Walks.list (A:=A.in1) hh s.heap.objs.size l hlt (v0::vs).toArray) (fun j u st=>st.1.typeIs) (k:=1) (by rw[hsz];omega) ⟨i1,hl₁⟩ (Heap.lt_size hoi) (Heap.lt_size hol) (fun h₂ tk hk=>?_) hb))
  rw[hd]
  show wpAny _ _ (if vs.length < 0 then _ else newList (vs.take (vs.length - 0)) >>= fun d=>pure ([v0]++[d]++vs.drop (vs.length - 0))) _ _ _
  rw[if_neg (Nat.not_lt_zero _),Nat.sub_zero,List.take_length,aq5]
  exact fin h₂ tk fun b o ne e=>hk b o ne (b1.extBut b o ne (Heap.get?_push_of_some _ e))
 ·refine wpAny_bind (wpAny_specialOf hl.typeIs slot_tuple_iter.lookup (wpAny_pure ?_))
  simp only[aqM,if_false]
  refine wpAny_bind (wpAny_holding (iter_tuple hl ?_))
  refine wpAny_bind (wpAny_holding (draw_tuple hlt 1 0 _ _ ⟨_,Heap.get?_push_size _ rfl,rfl,rfl⟩ (hl.push _) (by rw[hsz];omega) fun h₁ i1 b1=>?_))
  have hl₁:IsTup h₁ l (v0::vs).toArray:=(hl.push _).extBut b1.extBut hlt
  obtain⟨oi,hoi,_⟩:=id i1
  obtain⟨ol,hol,_⟩:=id hl₁
  rw[ht]
  refine wpAny_bind (wpAny_holding (PySem.W.kun_collect (s:={ s with heap:=h₁ }) (T:="tuple_iterator") (.inr (.inr (.inr rfl))) (Walks.tuple (A:=A.in1) hh s.heap.objs.size l hlt (v0::vs).toArray) (fun j u st=>st.1.typeIs) (k:=1) (by rw[hsz];omega) ⟨i1,hl₁⟩ (Heap.lt_size hoi) (Heap.lt_size hol) (fun h₂ tk hk=>?_) hb))
  rw[hd]
  show wpAny _ _ (if vs.length < 0 then _ else newList (vs.take (vs.length - 0)) >>= fun d=>pure ([v0]++[d]++vs.drop (vs.length - 0))) _ _ _
  rw[if_neg (Nat.not_lt_zero _),Nat.sub_zero,List.take_length,aq5]
  exact fin h₂ tk fun b o ne e=>hk b o ne (b1.extBut b o ne (Heap.get?_push_of_some _ e))
def afD(K:aqf)(i j:Nat):TG:=fun v σ H Q=>∃a v0 us,v=.ref a/\(SqL K H a (v0::us)∨SqT K H a (v0::us))/\us.length<=16000/\∀D,H D=none->Q ((σ.set i (some v0)).set j (some (.ref D))) (upd H D (.lst us))
def Sv(X:Cx)(j:Nat)(x:Str):Prop:=X.N[j]?=some x/\Loc X.env.scope x/\(X.fn x=true∨X.env.scope.names.lookup x=some .local)
theorem agM{X:Cx}{i j k:Nat}{x y:Str}{px py ps pos:Pos}(hc:X.calm=true)(hN:X.N.Nodup)(hx:Sv X i x)(hy:Sv X j y):PG X (.Tuple [.Name x px,.Starred (.Name y py) ps] k pos) (afD X.K i j):=by
 refine⟨fun pins s σ H v u Q I r h=>?_⟩
 obtain⟨a,v0,us,rfl,hq,hz,q⟩:=h
 cases r
 have e1:assign (.Tuple [.Name x px,.Starred (.Name y py) ps] k pos) X.env (.ref a)=(do standAt pos;unpack (.ref a) (assignEach [.Name x px,.Starred (.Name y py) ps] X.env)):=by with_unfolding_all rfl
 have e2:assignEach [.Name x px,.Starred (.Name y py) ps] X.env=[(false,assign (.Name x px) X.env),(true,assign (.Name y py) X.env)]:=by with_unfolding_all rfl
 rw[e1,e2]
 refine wpAny_bind (wpAny_standAt ?_)
 unfold unpack
 obtain⟨w0,ws,hlw,rv0,rvs⟩:∃w0 ws,(s.heap.IsList a (w0::ws).toArray∨IsTup s.heap a (w0::ws).toArray)/\RelV v0 w0/\Vals us ws:=by
  rcases hq with hq|hq
  ·obtain⟨its,rv,p,_⟩:=I.list hq
   cases rv with
   |cons r t=>exact⟨_,_,.inl p.isList,r,t⟩
  ·obtain⟨its,rv,p,_⟩:=I.tuple hq
   cases rv with
   |cons r t=>exact⟨_,_,.inr p,r,t⟩
 refine wpAny_bind (wpAny_holding (akL (I.ok.hd hc) hlw (by rw[←rvs.length];exact hz) fun h₂ tk hk=>?_))
 have I2:L2.Inv X pins σ H { s with heap:=h₂,toks:=tk }:=I.kept (t':=tk) hk
 have I3:=I2.lnew (t':=tk) rvs (aey (by omega))
 refine assignInOrder_cons (wpAny_assign_Name (store_ok I3 hN hx.1 hx.2.1 rv0 (fun s4 I4=>?_) hx.2.2))
 refine assignInOrder_cons (wpAny_assign_Name (store_ok I4 hN hy.1 hy.2.1 (v:=.ref h₂.objs.size) rfl (fun s5 I5=>assignInOrder_nil ?_) hy.2.2))
 exact⟨_,_,I5,q _ I2.fresh⟩
section
variable{X:Cx}{aj:aQ}{W:WX}{q:Bool}{e:Expr}{pos:Pos}
def WL(i j:Nat)(f:GF):SF:=fun M ρ=>(f M ρ).then ρ fun d M'=>match d with
 |.list (d0::ds)=>if ds.length<=16000 then .next ((ρ.set i (some (.dat d0))).set j (some (.dat (.list ds)))) M' else .bad
 |.tuple (d0::ds)=>if ds.length<=16000 then .next ((ρ.set i (some (.dat d0))).set j (some (.dat (.list ds)))) M' else .bad
 |_=>.bad
theorem af2{i j k:Nat}{x y:Str}{px py ps tp:Pos}{f:GF}(hc:X.calm=true)(hN:X.N.Nodup)(hx:Sv X i x)(hy:Sv X j y)(he:GE aj X W q e f)(hs:swapsWithSole [.Tuple [.Name x px,.Starred (.Name y py) ps] k tp] e pos.line X.env=pure false)(hw:swappedStores [.Tuple [.Name x px,.Starred (.Name y py) ps] k tp] e X.env=pure none) :
  SE aj X W q (.Assign [.Tuple [.Name x px,.Starred (.Name y py) ps] k tp] e pos) (WL i j f):=by
 refine PS.weak (ps_asg he (agM hc hN hx hy) hs hw (by with_unfolding_all rfl)) fun D σ H ⟨g,ρ,M,I,z⟩=>?_
 refine tE.go I (dw (σ:=σ) z) fun d M' v H' g' kk r I' rv=>?_
 have fin:∀{a:Addr} {v0:V} {us:List V} {d0:Dat} {ds:List Dat},v=.ref a->(SqL X.K H' a (v0::us)∨SqT X.K H' a (v0::us))->Rep X.K g' H' v0 d0->aJ X.K g' H' us ds->(if ds.length<=16000 then uL.next ((ρ.set i (some (.dat d0))).set j (some (.dat (.list ds)))) M' else .bad).sat (sN X.K aj q D.nx g H) (sR X.K aj q D.rt g H) (sN X.K aj q D.bk g H) (sN X.K aj q D.ct g H) (sX X.K aj W q g H)->afD X.K i j v σ H' D.nx:=fun {a v0 us d0 ds} ev hq r0 rs kk=>by
  split at kk
  ·next hz=>
   refine⟨a,v0,us,ev,hq,by rw[rs.length];exact hz,fun p np=>?_⟩
   have e1:=Ex.new (o:=.lst us) np
   have I2:=I'.ex e1
   refine kk _ _ g' (r.trans (Gr.ex e1)) ((I2.set (r0.ex e1 I'.kd)).set (.lst (.inl ⟨.inl upd_same,I'.kd.fresh np⟩) (rs.ex e1 I'.kd)))
  ·exact False.elim kk
 split at kk
 ·obtain⟨a,us,ev,s1,t1⟩:=jd rv.weak
  cases t1 with
  |cons r0 rs=>exact fin ev (.inl s1) r0 rs kk
 ·obtain⟨a,us,ev,s1,t1⟩:=lE rv.weak
  cases t1 with
  |cons r0 rs=>exact fin ev (.inr s1) r0 rs kk
 ·exact False.elim kk
def Rv(i j:Nat)(f:GF):SF:=fun M ρ=>(f M ρ).then ρ fun d M'=>.next ((ρ.set i (some (.dat d))).set j (some (.dat d))) M'
theorem af8{i j:Nat}{x y:Str}{px py:Pos}{f:GF}(hN:X.N.Nodup)(hx:Sv X i x)(hy:Sv X j y)(he:GE aj X W q e f)(hw:swappedStores [.Name x px,.Name y py] e X.env=pure none):SE aj X W q (.Assign [.Name x px,.Name y py] e pos) (Rv i j f):=by
 refine PS.weak (ps_asg2 he (pg_name hN hx.1 hx.2.1 hx.2.2) (pg_name hN hy.1 hy.2.1 hy.2.2) (by with_unfolding_all rfl) hw) fun D σ H ⟨g,ρ,M,I,z⟩=>?_
 exact tE.go I (dw (σ:=σ) z) fun d M' v H' g' kk r I' rv=>kk _ H' g' r ((I'.set rv).set rv)
def sPN(js:List Nat)(as:QA):SF:=fun M ρ=>((as M ρ).at M).then ρ fun ds M'=>match tO js ds ρ with
 |some ρ'=>.next ρ' M'
 |none=>.bad
theorem aiV{j:Nat}{y:Str}{py:Pos}{elt tg iter:Expr}{cpos:Pos}{scope:Scope}{own:List (Str×Nat)}{it:IF}{tgf:fL}{js:List Nat}{tt:QT}{te:QF}{ifs:List Expr}(hc:X.calm=true)(hN:X.N.Nodup)(hy:X.N[j]?=some y)(hyl:X.env.scope.names.lookup y=some .local)
  (hsw:swapsWith (.ListComp elt [⟨tg,iter,ifs,0⟩] scope cpos) (some (.Name y py)) pos.line X.env=pure true) (hi:QI aj X W false tg iter it) (ok:blkC X.N X.env.scope scope own=true) (hj:∀j∈js,j∈own.map (·.2))
  (hg:∀(s:Shared) (H:Hp) (C:Addr) (cl:List (Str×Addr)) (fp:List Addr),QG aj (X.blk s H scope (compEnvC scope cl C X.env) fp) tg js tgf)
  (ht:∀(s:Shared) (H:Hp) (C:Addr) (cl:List (Str×Addr)) (fp:List Addr),PTs (X.blk s H scope (compEnvC scope cl C X.env) fp) ifs (j9 X.K aj WF tt))
  (he:∀(s:Shared) (H:Hp) (C:Addr) (cl:List (Str×Addr)) (fp:List Addr),QE aj (X.blk s H scope (compEnvC scope cl C X.env) fp) WF elt te) (hs:∀x,foldedSetIterable iter X.env x=pure x) :
  SE aj X W q (.Assign [.Name y py] (.ListComp elt [⟨tg,iter,ifs,0⟩] scope cpos) pos) (bD (aG j) (gOf (eU it tgf (own.map (·.2)) tt te))):=by
 refine PS.weak (ps_setLc (g:=zQ X.K aj js tgf) (tt:=j9 X.K aj WF tt) (te:=tQ X.K aj WF te) hc hN hy hyl hsw hi (blkOk_by ok) (fun s H C cl fp=>hg s H C cl fp) ht (fun s H C cl fp=>he s H C cl fp) hs) fun D σ H ⟨g,ρ,M,I,z⟩=>?_
 refine afS hj σ H _ ⟨g,ρ,M,I,(Out.iZ (dw (σ:=σ) z)).mono (fun d kk v H' e r=>?_) fun x kk H' c dd e r=>kk H' g c dd (Gr.ex e) (I.ex e) r⟩
 exact kk _ H' g (Gr.ex e) ((I.ex e).set r)
end
inductive GV where
 |con (d:Dat)
 |fq (n:Nat) (m:Mo->List Dat->Out Dat)
 |fg (n:Nat) (m:Mo->List Dat->aZ Dat)
 |dic (kvs:List (Str×Dat))
 |exc
 |exi (fs:List Str)
 |cls (n:Nat) (m:Mo->List Dat->aZ Dat)
inductive MV where
 |q (n:Nat) (m:Mo->List Dat->Out Dat)
 |g (n:Nat) (m:Mo->List Dat->aZ Dat)
def FQ(P:Program)(w:World)(K:aqf)(mg:Str->Option Value)(base:Heap)(aj:aQ)(k:Nat)(f:Addr)(n:Nat)(m:Mo->List Dat->Out Dat):Prop:=
 ∃(fd:FuncData) (ps:List Str) (j:Nat),j<=k/\ps.length=n/\Binds K fd ps []/\FnOk P w K mg base (L2.CX P w) j f fd ps (Vi K aj ps.length m)
def FG(P:Program)(w:World)(K:aqf)(mg:Str->Option Value)(base:Heap)(aj:aQ)(k:Nat)(f:Addr)(n:Nat)(m:Mo->List Dat->aZ Dat):Prop:=
 ∃(fd:FuncData) (ps:List Str) (j:Nat),j<=k/\ps.length=n/\Binds K fd ps []/\FnOk P w K mg base (L2.CX P w) j f fd ps (Jg K aj ps.length m)
def jr(K:aqf)(aj:aQ):Prop:=∀c C f,aj c=some C->f∈aj.fl c->Cls K C/\NoAttr K C f
def bW(P:Program)(w:World)(K:aqf)(mg:Str->Option Value)(base:Heap)(aj:aQ)(k:Nat)(c m:Str)(v:MV):Prop:=
 ∃C f,aj c=some C/\Cls K C/\Meth K C m f/\m∉aj.fl c/\match v with
  |.q n mm=>FQ P w K mg base aj k f n mm
  |.g n mm=>FG P w K mg base aj k f n mm
def ae4(C:Addr)(fs:List Str):Sp:=fun vs H Q _=>∃(a:Addr) (xs:List V),vs=.ref a::xs/\xs.length=fs.length/\H a=some (exo a C none)/\
 ∀(dx:Addr) (H':Hp),H dx=none->(∀b o,b≠a->H b=some o->H' b=some o)->(∀b,H' b=none->H b=none)->H' a=some (exo a C (some dx))->H' dx=some (exd dx (fs.zip xs).reverse)->Q .non H'
def abD(w:World)(K:aqf)(a:Addr)(kvs:List (Str×Dat)):Prop:=∃(es:Array DictEntry) (n:Nat),KDict K w a es n/\(kvs.map (·.1)).Nodup/\
 ∀x:Str,match kvs.lookup x with
  |some d=>∃v u,PySem.W.nsIn K a x=some (some u)/\RelV v u/\∀g H,Rep K g H v d
  |none=>PySem.W.nsIn K a x=some none
def bf(P:Program)(w:World)(K:aqf)(mg:Str->Option Value)(base:Heap)(aj:aQ)(k:Nat)(x:Str):GV->Prop
 |.con d=>∃v u,mg x=some u/\RelV v u/\∀g H,Rep K g H v d
 |.fq n m=>∃f,mg x=some (.ref f)/\PySem.W.keepIn K (.ref f)=true/\FQ P w K mg base aj k f n m
 |.fg n m=>∃f,mg x=some (.ref f)/\PySem.W.keepIn K (.ref f)=true/\FG P w K mg base aj k f n m
 |.dic kvs=>∃a,mg x=some (.ref a)/\abD w K a kvs
 |.exc=>∃C,mg x=some (.ref C)/\aj x=some C/\PySem.W.excIn K C He.veBase "ValueError.__new__"=true/\PySem.W.keepIn K (.ref C)=true/\PySem.W.subIn K (.ref C) (.type "BaseException")=some true/\PySem.W.typeIn K (.ref C)=some (.type "type")
 |.exi fs=>∃(C fI:Addr) (fd:FuncData) (ps:List Str),mg x=some (.ref C)/\aj x=some C/\OexC K C/\PySem.W.findIn K (.ref C) "__init__"=some (some (.ref fI))/\PySem.W.typeIn K (.ref fI)=some (.type "function")/\2<=k/\ps.length=fs.length+1/\Binds K fd ps []/\FnOk P w K mg base CX0 1 fI fd ps (ae4 C fs)
 |.cls n m=>∃(C f:Addr) (fd:FuncData) (ps:List Str) (j:Nat),mg x=some (.ref C)/\aj x=some C/\Cls K C/\Mk K C f/\j+1<=k/\ps.length=n+1/\Binds K fd ps []/\FnOk P w K mg base (L2.CX P w) j f fd ps (Jg K aj ps.length m)
def abk(K:aqf)(aj:aQ)(y:Str)(tk:Str->Option Bool):Prop:=∀x b C,tk x=some b->aj x=some C->∀D,aj y=some D->PySem.W.exmOne K (.ref C) (.ref D)=some b
def putL(f:Str)(x:iW):List (Str×iW)->List (Str×iW)
 |[]=>[(f,x)]
 |(g,y)::r=>if g=f then(g,x)::r else(g,y)::putL f x r
def Inst.put(i:Inst)(f:Str)(x:iW):Inst:=⟨i.cls,putL f x i.fs⟩
theorem Je(f:Str)(x:iW):∀gs:List (Str×iW),(putL f x gs).map (·.1)=if f∈gs.map (·.1) then gs.map (·.1) else gs.map (·.1)++[f]
 |[]=>by simp[putL]
 |(g,y)::r=>by
  have ih:=Je f x r
  rw[putL]
  by_cases e:g=f
  ·subst e
   simp
  ·rw[if_neg e,aqj,ih]
   by_cases h:f∈r.map (·.1)
   ·rw[if_pos h,if_pos (by simp[h])]
    rfl
   ·rw[if_neg h,if_neg (by
     rw[aqj,aqv]
     rintro(z|z)
     ·exact e z.symm
     ·exact h z)]
    rfl
theorem abh{f:Str}{x:iW}{gs:List (Str×iW)}(h:(gs.map (·.1)).Nodup):((putL f x gs).map (·.1)).Nodup:=by
 rw[Je]
 split
 ·exact h
 ·next n=>
  rw[aqZ]
  refine⟨h,by simp,fun a ha b hb e=>?_⟩
  subst e
  rw[aqm]at hb
  subst hb
  exact n ha
theorem JV{f:Str}{v:V}:∀{fs:List (Str×V)},fs.lookup f=some v->putF f v fs=fs
 |[],h=>nomatch h
 |(g,y)::r,h=>by
  rw[aqI]at h
  rw[show putF f v ((g,y)::r)=(if g=f then(g,v)::r else(g,y)::putF f v r) from rfl]
  by_cases e:g=f
  ·subst e
   simp at h
   rw[if_pos rfl,h]
  ·have ne:(f==g)=false:=by simpa using fun z=>e z.symm
   rw[ne]at h
   rw[if_neg e,JV h]
section
variable{K:aqf}{aj:aQ}{W:WX}{g g':Gh}{H H':Hp}{σ:L2.St}{ρ:Env}{M:Mo}{h:Nat}{f:Str}{v:V}{fl:iW}
theorem cI.put(hk:∀f' v' fl',f'≠f->dY K aj g H h f' v' fl'->dY K aj g' H' h f' v' fl')(new:dY K aj g' H' h f v fl):∀{fs:List (Str×V)} {gs:List (Str×iW)},cI K aj g H h fs gs->(gs.map (·.1)).Nodup->cI K aj g' H' h (putF f v fs) (putL f fl gs)
 |_,_,.nil,_=>.cons new .nil
 |_,_,.cons (f:=f') (v:=v') (fl:=fl') (fs:=fs) (gs:=gs) z t,nd=>by
  rw[show putF f v ((f',v')::fs)=(if f'=f then(f',v)::fs else(f',v')::putF f v fs) from rfl,putL]
  rw[aqj,arl]at nd
  by_cases e:f'=f
  ·subst e
   rw[if_pos rfl,if_pos rfl]
   refine .cons new ?_
   have go:∀{fs:List (Str×V)} {gs:List (Str×iW)},cI K aj g H h fs gs->f'∉gs.map (·.1)->cI K aj g' H' h fs gs:=fun {fs gs} t=>by
    induction t with
    |nil=>exact fun _=>.nil
    |cons z _ ih=>
     intro n
     rw[aqj,aqv,not_or]at n
     exact .cons (hk _ _ _ (fun q=>n.1 q.symm) z) (ih n.2)
   exact go t nd.1
  ·rw[if_neg e,if_neg e]
   exact .cons (hk _ _ _ e z) (cI.put hk new t nd.2)
structure Chg(M:Mo)(g g':Gh)(H H':Hp)(h:Nat)(f:Str):Prop where
 gc:Gc g g' H H'
 kd:Kd g' H'
 tbl:g'.tbl=g.tbl
 ow:∀a p,g.ow a=some p->g'.ow a=some p
 oth:∀a p,g.ow a=some p->p≠(h,f)->H' a=H a
 ins:∀(k:Nat) (a:Addr) (i:Inst),g.tbl[k]?=some a->M[k]?=some i->i.cls≠""->k≠h->H' a=H a
 nt:∀(k:Nat) (a:Addr) (i:Inst),g.tbl[k]?=some a->M[k]?=some i->i.cls≠""->∀p,g'.ow a≠some p
theorem ju.chg{l:Addr}(r:Gr false g g' H H')(k:Kd g H)(e:H' l=H l):∀{n:Bool} {kvs:List (Dat×Dat)},ju K aj g H l n kvs->ju K aj g' H' l n kvs
 |false,_,⟨kv,h1,h2,h3⟩=>⟨kv,e.trans h1,h2,h3.gr r k⟩
 |true,_,⟨o,xs,vs,h1,h2,h3,h4,h5,h6⟩=>⟨o,xs,vs,e.trans h1,h2,h3,h4.gr r k,h5,h6.gr r k⟩
theorem dY.chg(c:Chg M g g' H H' h f)(k:Kd g H){h':Nat}{f':Str}{v':V}(ne:(h',f')≠(h,f)):∀{fl':iW},dY K aj g H h' f' v' fl'->dY K aj g' H' h' f' v' fl'
 |.dat _,z=>Rep.gr c.gc.gr k z
 |.lst _ _,⟨l,us,h1,h2,h3,h4,h5⟩=>⟨l,us,h1,(c.oth l _ h3 ne).trans h2,c.ow l _ h3,h4.gr c.gc.gr k,c.gc.gr.tb h5⟩
 |.dic _ _,⟨l,h1,h2,h3⟩=>⟨l,h1,c.ow l _ h2,h3.chg c.gc.gr k (c.oth l _ h2 ne)⟩
theorem fV.chg(w:fV K aj g H M)(k:Kd g H)(c:Chg M g g' H H' h f){a:Addr}{i:Inst}(ha:g.tbl[h]?=some a)(hi:M[h]?=some i)(hne:i.cls≠"")(hf:f∈aj.fl i.cls){C dx:Addr}{fs:List (Str×V)}(hC:aj i.cls=some C)(R:cI K aj g H h fs i.fs)
  (e':H' a=some (.ins C dx (putF f v fs))) (new:dY K aj g' H' h f v fl):fV K aj g' H' (M.set h (i.put f fl)) where
 len:=by rw[c.tbl,aqG];exact w.len
 inj:=by rw[c.tbl];exact w.inj
 ins:=fun h' a' i' ha' hi' hc'=>by
  rw[c.tbl]at ha'
  by_cases z:h'=h
  ·subst z
   rw[ha]at ha'
   cases ha'
   rw[aqx (aqh.mp hi).1]at hi'
   cases hi'
   exact⟨C,dx,_,hC,e',R.put (fun f' v' fl' ne z=>z.chg c k fun q=>ne (congrArg Prod.snd q)) new (w.nd _ i hi)⟩
  ·rw[aqo (Ne.symm z)]at hi'
   obtain⟨C',dx',fs',c1,c2,c3⟩:=w.ins h' a' i' ha' hi' hc'
   refine⟨C',dx',fs',c1,(c.ins h' a' i' ha' hi' hc' z).trans c2,?_⟩
   have go:∀{fs:List (Str×V)} {gs:List (Str×iW)},cI K aj g H h' fs gs->cI K aj g' H' h' fs gs:=fun {fs gs} t=>by
    induction t with
    |nil=>exact .nil
    |cons y _ ih=>exact .cons (y.chg c k fun q=>z (congrArg Prod.fst q)) ih
   exact go c3
 nd:=fun h' i' hi'=>by
  by_cases z:h'=h
  ·subst z
   rw[aqx (aqh.mp hi).1]at hi'
   cases hi'
   exact abh (w.nd _ i hi)
  ·rw[aqo (Ne.symm z)]at hi'
   exact w.nd h' i' hi'
 fd:=fun h' i' hi' f' hf'=>by
  by_cases z:h'=h
  ·subst z
   rw[aqx (aqh.mp hi).1]at hi'
   cases hi'
   have hf':f'∈(putL f fl i.fs).map (·.1):=hf'
   rw[Je]at hf'
   split at hf'
   ·exact w.fd _ i hi f' hf'
   ·rcases aqp.mp hf' with y|y
    ·exact w.fd _ i hi f' y
    ·rw[aqm]at y
     rw[y]
     exact hf
  ·rw[aqo (Ne.symm z)]at hi'
   exact w.fd h' i' hi' f' hf'
 tw:=fun k' a' i' ha' hi' hc'=>by
  rw[c.tbl]at ha'
  have:∃i0,M[k']?=some i0/\i0.cls≠"":=by
   by_cases z:k'=h
   ·subst z
    exact⟨i,hi,hne⟩
   ·rw[aqo (Ne.symm z)]at hi'
    exact⟨i',hi',hc'⟩
  obtain⟨i0,m1,m2⟩:=this
  cases hz:g'.ow a' with
  |none=>rfl
  |some p=>exact absurd hz (c.nt k' a' i0 ha' m1 m2 p)
 dm:=fun h' i' hi' hc'=>by
  by_cases z:h'=h
  ·subst z
   rw[aqx (aqh.mp hi).1]at hi'
   cases hi'
   exact absurd hc' hne
  ·rw[aqo (Ne.symm z)]at hi'
   exact w.dm h' i' hi' hc'
 nc:=w.nc
theorem akD{a:Addr}(ha:g.tbl[h]?=some a):g.W a:=.inl (aqn ha)
theorem Ub(k:Kd g H)(w:fV K aj g H M){a:Addr}{i:Inst}(ha:g.tbl[h]?=some a)(hi:M[h]?=some i)(hc:i.cls≠""){C dx:Addr}{fs':List (Str×V)}:Chg M g g H (upd H a (.ins C dx fs')) h f where
 gc:=⟨fun b o hb n=>by rw[upd_ne (fun z=>by subst z;exact n (akD ha))];exact hb,fun b hb=>by
  by_cases z:b=a
  ·subst z
   rw[upd_same]at hb
   cases hb
  ·rw[upd_ne z]at hb
   exact hb,⟨[],by simp⟩,fun _ z=>z,fun _ z=>.inl z,rfl,rfl⟩
 kd:=k.upd trivial
 tbl:=rfl
 ow:=fun _ _ z=>z
 oth:=fun b p hb _=>upd_ne fun z=>by
  subst z
  rw[w.tw h _ i ha hi hc]at hb
  cases hb
 ins:=fun j b i' hb _ _ ne=>upd_ne fun z=>by
  subst z
  exact ne (w.inj _ _ _ hb ha)
 nt:=fun j b i' hb hj hcj p z=>by
  rw[w.tw j b i' hb hj hcj]at z
  cases z
def Gh.own(g:Gh)(l:Addr)(h:Nat)(f:Str):Gh:={ g with ow:=fun b=>if b=l then some (h,f) else g.ow b }
theorem alu{l a:Addr}(hl:l∈g.tbl):(g.own l h f).W a↔g.W a:=by
 constructor
 ·rintro(z|z)
  ·exact .inl z
  ·by_cases y:a=l
   ·subst y
    exact .inl hl
   ·have z:(if a=l then some (h,f) else g.ow a)≠none:=z
    rw[if_neg y]at z
    exact .inr z
 ·rintro(z|z)
  ·exact .inl z
  ·refine .inr ?_
   show(if a=l then some (h,f) else g.ow a)≠none
   split
   ·exact fun q=>nomatch q
   ·exact z
theorem Ul(k:Kd g H)(w:fV K aj g H M){a l:Addr}{n:Nat}{i:Inst}(ha:g.tbl[h]?=some a)(hi:M[h]?=some i)(hc:i.cls≠"")(hl:g.tbl[n]?=some l)(hn:M[n]?=some ⟨"",[]⟩)(nl:g.ow l=none){C dx:Addr}{fs':List (Str×V)}:Chg M g (g.own l h f) H (upd H a (.ins C dx fs')) h f:=by
 have W':∀{b:Addr},(g.own l h f).W b↔g.W b:=fun {b}=>alu (aqn hl)
 have d:=Ub (f:=f) (C:=C) (dx:=dx) (fs':=fs') k w ha hi hc
 refine⟨⟨d.gc.keep,d.gc.dom,⟨[],by simp[Gh.own]⟩,fun b z=>W'.mpr z,fun b z=>.inl (W'.mp z),rfl,rfl⟩,⟨fun b z=>d.kd.ob b ?_,fun b z y=>d.kd.lo b z (W'.mp y),fun b z=>⟨fun y=>(d.kd.lc b z).1 (W'.mp y),(d.kd.lc b z).2⟩⟩,rfl,fun b p z=>?_,d.oth,d.ins,fun j b i' hb hj hcj p z=>?_⟩
 ·rcases z with z|z|z
  ·exact .inl (W'.mp z)
  ·exact .inr (.inl z)
  ·exact .inr (.inr z)
 ·show(if b=l then some (h,f) else g.ow b)=some p
  rw[if_neg (fun y=>by subst y;rw[nl]at z;cases z)]
  exact z
 ·have z:(if b=l then some (h,f) else g.ow b)=some p:=z
  by_cases y:b=l
  ·subst y
   cases w.inj _ _ _ hb hl
   rw[hn]at hj
   cases hj
   exact hcj rfl
  ·rw[if_neg y,w.tw j b i' hb hj hcj]at z
   cases z
theorem adq(k:Kd g H)(w:fV K aj g H M){l:Addr}{o':HO}(ho:g.ow l=some (h,f))(mo:Jd o'):Chg M g g H (upd H l o') h f where
 gc:=⟨fun b u hb n=>by rw[upd_ne (fun z=>by subst z;exact n (.inr (by rw[ho];exact fun y=>nomatch y)))];exact hb,fun b hb=>by
  by_cases z:b=l
  ·subst z
   rw[upd_same]at hb
   cases hb
  ·rw[upd_ne z]at hb
   exact hb,⟨[],by simp⟩,fun _ z=>z,fun _ z=>.inl z,rfl,rfl⟩
 kd:=k.upd mo
 tbl:=rfl
 ow:=fun _ _ z=>z
 oth:=fun b p hb ne=>upd_ne fun z=>by
  subst z
  rw[ho]at hb
  exact ne (aqA hb).symm
 ins:=fun j b i' hb hj hcj ne=>upd_ne fun z=>by
  subst z
  rw[w.tw j _ i' hb hj hcj]at ho
  cases ho
 nt:=fun j b i' hb hj hcj p z=>by
  rw[w.tw j b i' hb hj hcj]at z
  cases z
theorem cI.len{fs:List (Str×V)}{gs:List (Str×iW)}(t:cI K aj g H h fs gs):fs.length=gs.length:=by
 induction t with
 |nil=>rfl
 |cons _ _ ih=>simp[ih]
end
def KR(M:Mo)(f:Str):Dat->Option iW
 |.dict [(.none,.int (.ofNat h))]=>(M[h]?).bind fun i=>i.fs.lookup f
 |_=>none
def gM(f:Str)(o:QF):QF:=fun M ρ=>(o M ρ).bind fun d=>match KR M f d with
 |some (.dat x)=>.ok x
 |_=>.bad
def bL(f:Str)(o:QF):QF:=fun M ρ=>(o M ρ).bind fun d=>match KR M f d with
 |some (.dat x)=>.ok x
 |some (.lst _ xs)=>.ok (.list xs)
 |_=>.bad
theorem acQ{M:Mo}{f:Str}{d:Dat}{fl:iW}(h:KR M f d=some fl):∃n i,d=obj n/\M[n]?=some i/\i.fs.lookup f=some fl:=by
 unfold KR at h
 split at h
 ·next n=>
  obtain⟨i,h1,h2⟩:=aqe.mp h
  exact⟨n,i,rfl,h1,h2⟩
 ·cases h
theorem lookup_mem{f:Str}{fl:iW}:∀{gs:List (Str×iW)},gs.lookup f=some fl->f∈gs.map (·.1)
 |[],h=>nomatch h
 |(g,y)::r,h=>by
  rw[aqI]at h
  cases hb:f==g with
  |true=>rw[eq_of_beq hb];simp
  |false=>
   rw[hb]at h
   exact aqk _ (lookup_mem h)
section
variable{K:aqf}{aj:aQ}{g:Gh}{H:Hp}{M:Mo}
theorem Zt(co:jr K aj)(w:fV K aj g H M){f:Str}{d:Dat}{fl:iW}{v:V}(h:KR M f d=some fl)(r:dZ K g H v d):∃n i a C dx fs u,d=obj n/\M[n]?=some i/\i.fs.lookup f=some fl/\g.tbl[n]?=some a/\v=.ref a/\aj i.cls=some C/\H a=some (.ins C dx fs)/\cI K aj g H n fs i.fs/\Cls K C/\NoAttr K C f/\fs.lookup f=some u/\dY K aj g H n f u fl:=by
 obtain⟨n,i,rfl,h1,h2⟩:=acQ h
 obtain⟨a,rfl,ha⟩:=Kl r
 have hc:i.cls≠"":=fun z=>by
  rw[w.dm n i h1 z]at h2
  cases h2
 obtain⟨C,dx,fs,c1,c2,c3⟩:=w.ins n a i ha h1 hc
 obtain⟨u,l1,l2⟩:=c3.get h2
 obtain⟨k1,k2⟩:=co i.cls C f c1 (w.fd n i h1 f (lookup_mem h2))
 exact⟨n,i,a,C,dx,fs,u,rfl,h1,h2,ha,rfl,c1,c2,c3,k1,k2,l1,l2⟩
end
section
variable{X:Cx}{aj:aQ}{W:WX}{o e:Expr}{es:List Expr}{fo:QF}{f m:Str}{pos apos:Pos}
theorem ajz(co:jr X.K aj)(ho:QW aj X W o fo)(hb:baseOk o=true):QE aj X W (.Attribute o f pos) (gM f fo):=
 PE.weak (pe_fld ho (mD hb)) fun σ H Q ⟨g,ρ,M,I,h⟩=>by
  refine tW.go I h.bnd fun d v H1 h1 e1 r1=>?_
  split at h1
  ·next x hx=>
   obtain⟨n,i,a,C,dx,fs,u,_,_,_,_,rfl,_,c2,_,k1,k2,l1,l2⟩:=Zt co (I.ex e1).wok hx r1
   exact⟨a,C,dx,fs,u,rfl,c2,k1,k2,l1,h1 u H1 e1 l2⟩
  ·exact False.elim h1
theorem ajv(co:jr X.K aj)(ho:QW aj X W o fo)(hb:baseOk o=true):QW aj X W (.Attribute o f pos) (bL f fo):=
 PE.weak (pe_fld ho (mD hb)) fun σ H Q ⟨g,ρ,M,I,h⟩=>by
  refine tW.go I h.bnd fun d v H1 h1 e1 r1=>?_
  split at h1
  ·next x hx=>
   obtain⟨n,i,a,C,dx,fs,u,_,_,_,_,rfl,_,c2,_,k1,k2,l1,l2⟩:=Zt co (I.ex e1).wok hx r1
   exact⟨a,C,dx,fs,u,rfl,c2,k1,k2,l1,h1 u H1 e1 (Rep.weak l2)⟩
  ·next xs hx=>
   obtain⟨n,i,a,C,dx,fs,u,_,_,_,_,rfl,_,c2,_,k1,k2,l1,l,us,rfl,s1,s2,s3,_⟩:=Zt co (I.ex e1).wok hx r1
   exact⟨a,C,dx,fs,_,rfl,c2,k1,k2,l1,h1 _ H1 e1 ⟨l,us,rfl,sq_of s1,s3⟩⟩
  ·exact False.elim h1
def Qw(X:Cx)(W:WX)(m:Str)(ta:TE)(t:TA):TE:=fun σ H Q=>ta σ H fun x H1=>∃(a C dx:Addr) (fs:List (Str×V)) (f:Addr) (fd:FuncData) (ps:List Str) (sp:Sp) (k:Nat),x=.ref a/\H1 a=some (.ins C dx fs)/\fs.lookup m=none/\Cls X.K C/\Meth X.K C m f/\Room k X.A/\Binds X.K fd ps []/\
 FnOk X.prog X.w X.K X.mg X.base (L2.CX X.prog X.w) k f fd ps sp/\t σ H1 fun vs H2=>sp (x::vs) H2 Q (WE W σ)
theorem Vu{M:Model}{A:Around}{E:Value->Shared->Prop}{s:Shared}{env:PySem.Env}{args:List Expr}{Q:Value->Shared->Prop}(hbase:baseOk o=true)(hs:args.all nst=true)(hz:args.length < 30)(hl:(apos.endLine==pos.line)=true)
  (h:wpAny M A (eval o env) (fun ov s₁=>∀pl:Sem Bool,wpAny M A (getMethod ov m pl) (fun fx s₂=>wpAny M A (callWith pos fx.1 fx.2 (backTo pos (starEach args env)) (backToKw pos (keywordEach [] env))) Q E s₂) E s₁) E s) :
  wpAny M A (eval (.Call (.Attribute o m apos) args [] pos) env) Q E s:=by
 have hform:methodCallForm (args.length+([]:List Keyword).length) (backTo pos (starEach args env)) (backToKw pos (keywordEach [] env))=true:=few hs hz
 have hpos:methodCallPos true o env apos pos=pure pos:=by unfold methodCallPos;simp[hl]
 rw[arm_eval_Call,mD hbase]
 refine wpAny_bind (wpAny_mono h (fun ov s₁ h₁=>?_) fun _ _ e=>e)
 refine wpAny_bind (wpAny_standAt ?_)
 unfold methodCall
 rw[hform]
 refine wpAny_bind (wpAny_holding ?_)
 refine wpAny_mono (h₁ _) (fun fx s₂ h₂=>?_) fun _ _ e=>e
 exact wpAny_bind (wpAny_of_eq hpos h₂)
theorem Ys{ta:TE}{t:TA}(tk:Takes X W)(ho:PE X o ta)(ha:PA X (e::es) t)(hb:baseOk o=true)(hs:(e::es).all nst=true)(hl:(apos.endLine==pos.line)=true)(hz:(e::es).length < 30):PE X (.Call (.Attribute o m apos) (e::es) [] pos) (Qw X W m ta t):=by
 have hs':=hs
 rw[aqV,aqg]at hs'
 refine⟨fun pins s σ H Q I h=>?_⟩
 refine Vu hb hs hz hl (thn (ho.run pins s σ H _ I h) fun u s1 ⟨x,G,J,rx,a,C,dx,fs,f,fd,ps,sp,k,ex,ea,l,c,hm,hr,hB,F,q⟩ pl=>?_)
 subst ex
 cases rx
 refine getmeth_ok J ea c hm l ?_
 refine PySem.W.callWith_K (first:=[.ref a]) (h₀:=X.base) I.ok.mod.kin hm.kp (thn (ha.run pos pins s1 σ G _ J q) fun us s2 ⟨vs,G2,J2,r,q2⟩=>⟨J2.kIn,?_⟩) (cO hs'.1 es) (star_any es hs'.2)
 exact run_fnS (us:=.ref a::us) (vs:=.ref a::vs) F hr hB (passAt tk σ) J2 (.cons rfl r) q2
theorem Vq{ta:TE}(tk:Takes X W)(ho:PE X o ta)(hb:baseOk o=true)(hl:(apos.endLine==pos.line)=true):PE X (.Call (.Attribute o m apos) [] [] pos) (Qw X W m ta tNil):=by
 refine⟨fun pins s σ H Q I h=>?_⟩
 refine Vu hb rfl (by decide) hl (thn (ho.run pins s σ H _ I h) fun u s1 ⟨x,G,J,rx,a,C,dx,fs,f,fd,ps,sp,k,ex,ea,l,c,hm,hr,hB,F,q⟩ pl=>?_)
 subst ex
 cases rx
 refine getmeth_ok J ea c hm l ?_
 exact PySem.W.callWith_K0 (first:=[.ref a]) J.kIn hm.kp (run_fnS (us:=[.ref a]) (vs:=[.ref a]) F hr hB (passAt tk σ) J (.cons rfl .nil) q)
def DN(tb:List (Str×MV))(M:Mo):Dat->Option MV
 |.dict [(.none,.int (.ofNat h))]=>(M[h]?).bind fun i=>tb.lookup i.cls
 |_=>none
def aP(tb:List (Str×MV))(o:QF)(as:QA):QF:=fun M ρ=>(o M ρ).bind fun d=>match DN tb M d with
 |some (.q _ m)=>(as M ρ).bind fun ds=>m M (d::ds)
 |_=>.bad
def cM(tb:List (Str×MV))(o:QF)(as:QA):GF:=fun M ρ=>((o M ρ).at M).bind fun d _=>match DN tb M d with
 |some (.q _ m)=>((as M ρ).at M).bind fun ds _=>(m M (d::ds)).at M
 |some (.g _ m)=>((as M ρ).at M).bind fun ds _=>m M (d::ds)
 |none=>.bad
def Jc(X:Cx)(aj:aQ)(k:Nat)(m:Str)(n:Nat)(tb:List (Str×MV)):Prop:=∀c v,tb.lookup c=some v->bW X.prog X.w X.K X.mg X.base aj k c m v/\match v with
  |.q j _=>j=n
  |.g j _=>j=n
theorem Jc.cls{k n:Nat}{tb:List (Str×MV)}(T:Jc X aj k m n tb):∀c v,tb.lookup c=some v->aj c≠none:=fun c v h z=>by
 obtain⟨⟨C,f,c1,_⟩,_⟩:=T c v h
 rw[z]at c1
 cases c1
theorem TF{K:aqf}{g:Gh}{H:Hp}{M:Mo}{tb:List (Str×MV)}{d:Dat}{v:V}{mv:MV}(ht:∀c v,tb.lookup c=some v->aj c≠none)(w:fV K aj g H M)(h:DN tb M d=some mv)(r:dZ K g H v d):∃n i a C dx fs,d=obj n/\M[n]?=some i/\tb.lookup i.cls=some mv/\g.tbl[n]?=some a/\v=.ref a/\aj i.cls=some C/\H a=some (.ins C dx fs)/\cI K aj g H n fs i.fs:=by
 unfold DN at h
 split at h
 ·next n=>
  obtain⟨i,h1,h2⟩:=aqe.mp h
  obtain⟨a,rfl,ha⟩:=Kl r
  obtain⟨C,dx,fs,c1,c2,c3⟩:=w.ins n a i ha h1 fun z=>ht _ _ h2 (by rw[z];exact w.nc)
  exact⟨n,i,a,C,dx,fs,rfl,h1,h2,ha,rfl,c1,c2,c3⟩
 ·cases h
theorem Yg{K:aqf}{g:Gh}{H:Hp}{M:Mo}{n:Nat}{i:Inst}{fs:List (Str×V)}(w:fV K aj g H M)(hi:M[n]?=some i)(R:cI K aj g H n fs i.fs)(h:m∉aj.fl i.cls):fs.lookup m=none:=by
 refine R.no ?_
 cases hl:i.fs.lookup m with
 |none=>rfl
 |some x=>exact absurd (w.fd n i hi m (lookup_mem hl)) h
theorem acN{tb:List (Str×MV)}{as:QA}{n k:Nat}{t:TA}(hr:Room k X.A)(T:Jc X aj k m n tb)(hn:∀M ρ ds,as M ρ=.ok ds->ds.length+1=n)(ht:∀σ H Q,Nr X.K aj W as σ H Q->t σ H Q)(σ:L2.St)(H:Hp)(Q:VK)(h:tQ X.K aj W (aP tb fo as) σ H Q):Qw X W m (tW X.K aj W fo) t σ H Q:=by
 obtain⟨g,ρ,M,I,h⟩:=h
 refine tW.go I h.bnd fun d v H1 h1 e1 r1=>?_
 have I1:=I.ex e1
 split at h1
 ·next j mm hmv=>
  obtain⟨hd,i,a,C,dx,fs,rfl,hi,hl,ha,rfl,c1,c2,c3⟩:=TF T.cls I1.wok hmv r1
  obtain⟨⟨C',f,cc,cl,me,nf,fd,ps,j',hj,hp,hB,F⟩,en⟩:=T _ _ hl
  have en:j=n:=en
  rw[c1]at cc
  cases cc
  refine⟨a,C,dx,fs,f,fd,ps,_,j',rfl,c2,Yg I1.wok hi c3 nf,cl,me,hr.mono hj,hB,F,ht σ H1 _ ⟨g,ρ,M,I1,?_⟩⟩
  have h2:=h1.bnd
  cases has:as M ρ with
  |exc x=>rw[has]at h2;exact qM.ex e1 h2
  |bad=>rw[has]at h2;exact False.elim h2
  |ok ds=>
   rw[has]at h2
   intro vs H2 e2 r2
   refine⟨by rw[hp,en,←hn M ρ ds has,aqu,r2.length],g,M,obj hd::ds,(I1.ex e2).kd,(I1.ex e2).wok,.cons (.obj ha) r2,?_⟩
   exact Out.sat.mono h2 (fun d k v H' e' r'=>k v H' ((e1.trans e2).trans e') r') fun x k H' c dd e' r'=>k H' c dd ((e1.trans e2).trans e') r'
 ·exact False.elim h1
theorem agS{tb:List (Str×MV)}{as:QA}{k:Nat}(tk:Takes X W)(hr:Room k X.A)(T:Jc X aj k m ((e::es).length+1) tb)(ho:QW aj X W o fo)(ha:Gk aj X W (e::es) as)(hn:∀M ρ ds,as M ρ=.ok ds->ds.length=(e::es).length)(hb:baseOk o=true)(hs:(e::es).all nst=true)(hl:(apos.endLine==pos.line)=true)(hz:(e::es).length < 30) :
  QE aj X W (.Call (.Attribute o m apos) (e::es) [] pos) (aP tb fo as):=
 PE.weak (Ys tk ho ha hb hs hl hz) fun σ H Q h=>acN hr T (fun M ρ ds z=>by rw[hn M ρ ds z]) (fun _ _ _ z=>z) σ H Q h
theorem aeC{tb:List (Str×MV)}{k:Nat}(tk:Takes X W)(hr:Room k X.A)(T:Jc X aj k m 1 tb)(ho:QW aj X W o fo)(hb:baseOk o=true)(hl:(apos.endLine==pos.line)=true) :
  QE aj X W (.Call (.Attribute o m apos) [] [] pos) (aP tb fo au):=
 PE.weak (Vq tk ho hb hl) fun σ H Q h=>acN hr T (fun M ρ ds z=>by cases z;rfl) (fun σ H Q ⟨g,ρ,M,I,z⟩=>z [] H (Ex.refl H) .nil) σ H Q h
theorem adQ{tb:List (Str×MV)}{as:QA}{n k:Nat}{t:TA}(hr:Room k X.A)(T:Jc X aj k m n tb)(hn:∀M ρ ds,as M ρ=.ok ds->ds.length+1=n)(ht:∀σ H Q,Nr X.K aj W as σ H Q->t σ H Q)(σ:L2.St)(H:Hp)(Q:VK)(h:tE X.K aj W false (cM tb fo as) σ H Q):Qw X W m (tW X.K aj W fo) t σ H Q:=by
 obtain⟨g,ρ,M,I,h⟩:=h
 have quiet:∀{x:dN},gE X.K aj W false g H σ ρ x M->qM X.K aj W g H σ x:=fun {x} z H' c dd e r=>z H' g c dd (Gr.ex e) (I.ex e) r
 have h:=h.bnd
 refine⟨g,ρ,M,I,?_⟩
 cases ho:fo M ρ with
 |exc x=>rw[ho]at h;exact quiet h
 |bad=>rw[ho]at h;exact False.elim h
 |ok d=>
  rw[ho]at h
  intro v H1 e1 r1
  have I1:=I.ex e1
  have h:(match DN tb M d with
   |some (.q _ m)=>((as M ρ).at M).bind fun ds _=>(m M (d::ds)).at M
   |some (.g _ m)=>((as M ρ).at M).bind fun ds _=>m M (d::ds)
   |none=>.bad).sat (fun d M'=>∀v H' g',Gr false g g' H H'->SInv X.K aj σ H' g' ρ M'->Rep X.K g' H' v d->Q v H') (gE X.K aj W false g H σ ρ):=h
  split at h
  ·next j mm hmv=>
   obtain⟨hd,i,a,C,dx,fs,rfl,hi,hl,ha,rfl,c1,c2,c3⟩:=TF T.cls I1.wok hmv r1
   obtain⟨⟨C',f,cc,cl,me,nf,fd,ps,j',hj,hp,hB,F⟩,en⟩:=T _ _ hl
   have en:j=n:=en
   rw[c1]at cc
   cases cc
   refine⟨a,C,dx,fs,f,fd,ps,_,j',rfl,c2,Yg I1.wok hi c3 nf,cl,me,hr.mono hj,hB,F,ht σ H1 _ ⟨g,ρ,M,I1,?_⟩⟩
   have h2:=h.bnd
   cases has:as M ρ with
   |exc x=>rw[has]at h2;exact qM.ex e1 (quiet h2)
   |bad=>rw[has]at h2;exact False.elim h2
   |ok ds=>
    rw[has]at h2
    intro vs H2 e2 r2
    have e12:=e1.trans e2
    refine⟨by rw[hp,en,←hn M ρ ds has,aqu,r2.length],g,M,obj hd::ds,(I1.ex e2).kd,(I1.ex e2).wok,.cons (.obj ha) r2,?_⟩
    exact Out.sat.mono (Out.iZ h2) (fun d k v H' e' r'=>k v H' g (Gr.ex (e12.trans e')) (I.ex (e12.trans e')) r') fun x k H' c dd e' r'=>k H' g c dd (Gr.ex (e12.trans e')) (I.ex (e12.trans e')) r'
  ·next j mm hmv=>
   obtain⟨hd,i,a,C,dx,fs,rfl,hi,hl,ha,rfl,c1,c2,c3⟩:=TF T.cls I1.wok hmv r1
   obtain⟨⟨C',f,cc,cl,me,nf,fd,ps,j',hj,hp,hB,F⟩,en⟩:=T _ _ hl
   have en:j=n:=en
   rw[c1]at cc
   cases cc
   refine⟨a,C,dx,fs,f,fd,ps,_,j',rfl,c2,Yg I1.wok hi c3 nf,cl,me,hr.mono hj,hB,F,ht σ H1 _ ⟨g,ρ,M,I1,?_⟩⟩
   have h2:=h.bnd
   cases has:as M ρ with
   |exc x=>rw[has]at h2;exact qM.ex e1 (quiet h2)
   |bad=>rw[has]at h2;exact False.elim h2
   |ok ds=>
    rw[has]at h2
    intro vs H2 e2 r2
    have e12:=e1.trans e2
    refine⟨by rw[hp,en,←hn M ρ ds has,aqu,r2.length],g,M,obj hd::ds,(I1.ex e2).kd,(I1.ex e2).wok,.cons (.obj ha) r2,?_⟩
    exact aZ.sat.mono h2 (fun d M' k v H' g' c kd wk r'=>k v H' g' ((Gr.ex e12).trans c.gr) ((I.ex e12).call c kd wk) r') fun x M' k H' g' cc dd c kd wk r'=>k H' g' cc dd ((Gr.ex e12).trans c.gr) ((I.ex e12).call c kd wk) r'
  ·exact False.elim h
theorem agk{tb:List (Str×MV)}{as:QA}{k:Nat}(tk:Takes X W)(hr:Room k X.A)(T:Jc X aj k m ((e::es).length+1) tb)(ho:QW aj X W o fo)(ha:Gk aj X W (e::es) as)(hn:∀M ρ ds,as M ρ=.ok ds->ds.length=(e::es).length)(hb:baseOk o=true)(hs:(e::es).all nst=true)(hl:(apos.endLine==pos.line)=true)(hz:(e::es).length < 30) :
  GE aj X W false (.Call (.Attribute o m apos) (e::es) [] pos) (cM tb fo as):=
 PE.weak (Ys tk ho ha hb hs hl hz) fun σ H Q h=>adQ hr T (fun M ρ ds z=>by rw[hn M ρ ds z]) (fun _ _ _ z=>z) σ H Q h
theorem afk{tb:List (Str×MV)}{k:Nat}(tk:Takes X W)(hr:Room k X.A)(T:Jc X aj k m 1 tb)(ho:QW aj X W o fo)(hb:baseOk o=true)(hl:(apos.endLine==pos.line)=true) :
  GE aj X W false (.Call (.Attribute o m apos) [] [] pos) (cM tb fo au):=
 PE.weak (Vq tk ho hb hl) fun σ H Q h=>adQ hr T (fun M ρ ds z=>by cases z;rfl) (fun σ H Q ⟨g,ρ,M,I,z⟩=>z [] H (Ex.refl H) .nil) σ H Q h
end
def eG(x:Str):SF:=fun M ρ=>.exc ⟨x,[]⟩ ρ M
def BK(x:Str)(fs:List Str)(as:QA):SF:=fun M ρ=>((as M ρ).at M).then ρ fun ds M'=>.exc ⟨x,(fs.zip ds).reverse⟩ ρ M'
section
variable{X:Cx}{aj:aQ}{W:WX}{q:Bool}{x:Str}{pos p p1:Pos}{k:Nat}
theorem ae1(hc:X.calm=true)(tk:Takes X W)(hg:Gl X x)(hd:(x==("__debug__" : Str))=false)(g:bf X.prog X.w X.K X.mg X.base aj k x .exc):SE aj X W q (.Raise (some (.Call (.Name x p) [] [] p1)) none pos) (eG x):=by
 obtain⟨C,g1,g2,g3,g4,g5,g6⟩:=g
 exact PS.weak (ps_raise hc tk (Ear.aeO PySem.F.excBase_ValueError g3 g1 g4 (raises_own g5 g6) hg hd)) fun D σ H ⟨g,ρ,M,I,z⟩=>z σ H g (.ref C) none Gr.refl I ⟨C,g2,rfl,.inl ⟨rfl,rfl⟩⟩
theorem kZ.gr{K:aqf}{g g':Gh}{H H':Hp}{q:Bool}(r:Gr q g g' H H')(k:Kd g H){fs:List (Str×V)}{gs:List (Str×Dat)}(h:kZ K g H fs gs):kZ K g' H' fs gs:=by
 induction h with
 |nil=>exact .nil
 |cons z _ ih=>exact .cons (z.gr r k) ih
theorem kZ.snoc{K:aqf}{g:Gh}{H:Hp}{f:Str}{v:V}{d:Dat}(z:Rep K g H v d){fs:List (Str×V)}{gs:List (Str×Dat)}(h:kZ K g H fs gs):kZ K g H (fs++[(f,v)]) (gs++[(f,d)]):=by
 induction h with
 |nil=>exact .cons z .nil
 |cons y _ ih=>exact .cons y ih
theorem adh{K:aqf}{g:Gh}{H:Hp}:∀{fs:List Str} {vs:List V} {ds:List Dat},aJ K g H vs ds->kZ K g H (fs.zip vs).reverse (fs.zip ds).reverse
 |[],_,_,_=>.nil
 |_::_,_,_,.nil=>.nil
 |f::fs,_,_,.cons z t=>by
  rw[aq6,aq6,List.reverse_cons,List.reverse_cons]
  exact(adh t).snoc z
theorem adI{e:Expr}{es:List Expr}{fs:List Str}{as:QA}(hc:X.calm=true)(tk:Takes X W)(hr:Room k X.A)(hg:Gl X x)(hd:(x==("__debug__" : Str))=false)(g:bf X.prog X.w X.K X.mg X.base aj k x (.exi fs))(ha:Gk aj X W (e::es) as)
  (hs:(e::es).all nst=true) (hn:∀M ρ ds,as M ρ=.ok ds->ds.length=fs.length) (hz:fs.length<=1000):SE aj X W q (.Raise (some (.Call (.Name x p) (e::es) [] p1)) none pos) (BK x fs as):=by
 obtain⟨C,fI,fd,ps,g1,g2,g3,g4,g5,hk,hp,hB,F⟩:=g
 have hs':=hs
 rw[aqV,aqg]at hs'
 refine PS.weak (ps_raise hc tk (pmk_oex g3 g4 g5 F (hr.mono hk) hB .nil pass0 hg g1 ha hd (cO hs'.1 es) (star_any es hs'.2))) fun D σ H ⟨g,ρ,M,I,z⟩=>?_
 refine⟨g,ρ,M,I,?_⟩
 unfold BK at z
 cases has:as M ρ with
 |exc y=>rw[has]at z;exact fun H' c dd e r=>z σ H' g c dd (Gr.ex e) (I.ex e) r.fr
 |bad=>rw[has]at z;exact False.elim z
 |ok ds=>
  rw[has]at z
  intro vs H1 e1 r1
  have hl:vs.length=fs.length:=by rw[r1.length,hn M ρ ds has]
  refine⟨by omega,fun a na=>⟨a,vs++[],rfl,by simpa using hl,upd_same,fun dx H' nd kp dm ha' hd'=>?_⟩⟩
  have ne:dx≠a:=fun z=>by
   subst z
   rw[upd_same]at nd
   cases nd
  rw[upd_ne ne]at nd
  refine⟨rfl,dx,_,ha',hd',nd,?_⟩
  have kp':∀b o,H1 b=some o->(upd (del H' a) dx (.xd (fs.zip (vs++[])).reverse)) b=some o:=fun b o hb=>by
   have nb:b≠a:=fun z=>by subst z;rw[na]at hb;cases hb
   have nd':b≠dx:=fun z=>by subst z;rw[nd]at hb;cases hb
   rw[upd_ne nd',del_ne nb]
   exact kp b o nb (by rw[upd_ne nb];exact hb)
  have ex:Ex H1 (upd (del H' a) dx (.xd (fs.zip (vs++[])).reverse)):=fun b o hb=>kp' b o hb
  have I1:=I.ex e1
  refine z σ _ g (.ref C) (some dx) (Gr.ex (e1.trans ex)) (I1.ex ex) ⟨C,g2,rfl,.inr ⟨dx,_,rfl,upd_same,?_⟩⟩
  rw[aq0]
  have:=(adh (fs:=fs) r1).gr (Gr.ex (q:=true) ex) I1.kd
  rw[aq0]at this
  exact kZ.less (g:=g) (g':=g.fr) rfl (wj g) this
end
section
variable{P:Program}{w:World}{K:aqf}{mg:Str->Option Value}{base:Heap}{C f:Addr}{fd:FuncData}{qual:Str}{st:Stmt}
theorem vis_par{N ps:List Str}{sc:Scope}(S:FnScope N ps sc){y:Str}(h:y∈ps):Vis sc y:=(S.par y h).elim (fun z=>.inl z) fun z=>.inr (.inl z)
theorem acA{s a1 a2 a3 f1 f2 f3:Str}{p1 p2 p3 p4 p5 p6 p7 p8 p9 p10 p11 p12:Pos}(F:L2.Fun K "__init__" qual st f fd)(S:FnScope [s,a1,a2,a3] [s,a1,a2,a3] (defScope st))(T:OexC K C)
  (hb:defBody st=[.Assign [.Attribute (.Name s p1) f1 p2] (.Name a1 p3) p4,.Assign [.Attribute (.Name s p5) f2 p6] (.Name a2 p7) p8,.Assign [.Attribute (.Name s p9) f3 p10] (.Name a3 p11) p12])
  (dz:∀y∈[s,a1,a2,a3],(y==("__debug__" : Str))=false/\(y==("__classdict__" : Str))=false) (n1:PySem.W.findIn K (.ref C) f1=some none) (n2:PySem.W.findIn K (.ref C) f2=some none) (n3:PySem.W.findIn K (.ref C) f3=some none) :
  FnOk P w K mg base CX0 1 f fd [s,a1,a2,a3] (ae4 C [f1,f2,f3]):=by
 refine F.ok S (fun vs H Q E h=>?_) (fun cdv A outer s0 H vs Q E hr h=>?_)
 ·obtain⟨a,xs,rfl,hl,_⟩:=h
  simp[hl]
 ·obtain⟨a,xs,rfl,hl,ha,q⟩:=h
  match xs,hl with
  |[x,y,z],_=>
  rw[hb]
  have v0:=vis_par S (y:=s) (by simp)
  have v1:=vis_par S (y:=a1) (by simp)
  have v2:=vis_par S (y:=a2) (by simp)
  have v3:=vis_par S (y:=a3) (by simp)
  obtain⟨c0,k0⟩:=dz s (by simp)
  obtain⟨c1,k1⟩:=dz a1 (by simp)
  obtain⟨c2,k2⟩:=dz a2 (by simp)
  obtain⟨c3,k3⟩:=dz a3 (by simp)
  refine⟨_,pss_cons (ps_ost (pe_var (i:=0) rfl v0 c0 k0) (pe_var (i:=1) rfl v1 c1 k1)) (pss_cons (ps_ost (pe_var (i:=0) rfl v0 c0 k0) (pe_var (i:=2) rfl v2 c2 k2)) (pss_one (ps_ost (pe_var (i:=0) rfl v0 c0 k0) (pe_var (i:=3) rfl v3 c3 k3)))),?_⟩
  refine⟨_,rfl,_,rfl,a,C,rfl,T,n1,.inl ⟨ha,fun dx nd ne=>?_⟩⟩
  refine⟨_,rfl,_,rfl,a,C,rfl,T,n2,.inr ⟨dx,[(f1,x)],upd_same,(by rw[upd_ne ne];exact upd_same),(show 1<=900 by decide),?_⟩⟩
  refine⟨_,rfl,_,rfl,a,C,rfl,T,n3,.inr ⟨dx,_,(by rw[upd_ne ne.symm];exact upd_same),upd_same,(show 2<=900 by decide),?_⟩⟩
  refine q dx _ nd (fun b o hb hB=>?_) (fun b hB=>?_) (by rw[upd_ne ne.symm,upd_ne ne.symm];exact upd_same) upd_same
  ·have hbd:b≠dx:=ne_of_none hB nd
   rw[upd_ne hbd,upd_ne hbd,upd_ne hb,upd_ne hbd]
   exact hB
  ·by_cases e:b=dx
   ·rw[e];exact nd
   ·by_cases e2:b=a
    ·subst e2
     rw[upd_ne e,upd_ne e,upd_same]at hB
     cases hB
    ·rw[upd_ne e,upd_ne e,upd_ne e2,upd_ne e]at hB
     exact hB
end
structure Cl where
 c:Value
 nm:Option Nat
 ts:Addr->Value->Option Addr->TS
def amM(D:Ends)(i:Nat):Ends:={ nx:=fun τ G=>D.nx (τ.set i none) G,rt:=D.rt,bk:=fun τ G=>D.bk (τ.set i none) G,ct:=fun τ G=>D.ct (τ.set i none) G }
def YQ(K:aqf)(Wo:WX)(D:Ends):List Cl->WX
 |[]=>Wo
 |l::r=>fun cls d τ G=>∃b,PySem.W.exmOne K cls l.c=some b/\(b=true->∀a,G a=none->(match l.nm with
   |none=>l.ts a cls d D τ G
   |some i=>l.ts a cls d (amM D i) (τ.set i (some (.ref a))) G))/\(b=false->YQ K Wo D r cls d τ G)
inductive Bs(X:Cx):List ExceptHandler->List Cl->Prop
 |nil:Bs X [] []
 |one {x:Str} {l:Cl} {s0:Stmt} {su:List Stmt} {np cp:Pos} {hds:List ExceptHandler} {ls:List Cl} (hc:Names X x l.c) (hn:l.nm=none)
   (hsu:∀(a:Addr) (oe:Obj) (cls:Value) (d:Option Addr) (pn:List (Addr×Obj)),Zc cls d oe->(∃vs,oe.data=.fields vs)->PSs (X.suite a ((a,oe)::pn)) (s0::su) (l.ts a cls d)) (r:Bs X hds ls) :
   Bs X (.ExceptHandler (some (.Name x np)) none (s0::su) cp::hds) (l::ls)
 |as {x n:Str} {i:Nat} {l:Cl} {s0:Stmt} {su:List Stmt} {np cp:Pos} {hds:List ExceptHandler} {ls:List Cl} (hc:Names X x l.c) (hn:l.nm=some i) (hi:X.N[i]?=some n) (hl:X.env.kindOf n=some .local)
   (hsu:∀(a:Addr) (oe:Obj) (cls:Value) (d:Option Addr) (pn:List (Addr×Obj)),Zc cls d oe->(∃vs,oe.data=.fields vs)->PSs (X.suite a ((a,oe)::pn)) (s0::su) (l.ts a cls d)) (r:Bs X hds ls) :
   Bs X (.ExceptHandler (some (.Name x np)) (some n) (s0::su) cp::hds) (l::ls)
section
variable{X:Cx}{body:List Stmt}{h0:ExceptHandler}{hds:List ExceptHandler}{ls:List Cl}{pos:Pos}{tb:WX->TS}{Wo:WX}
theorem af9(hs:X.stack=X.env::X.outer)(hf:X.env.frame=some X.env.locals)(hN:X.N.Nodup)(tk:Takes X Wo)
  (hb:∀(W:WX) (pn:List (Addr×Obj)) (xe:Value->Shared->Prop),Takes (X.tr pn xe) W->PassesOwn (model X.prog X.w) X.A X.env xe->PSs (X.tr pn xe) body (tb W))
  (hh:Bs X (h0::hds) ls):PS X (.Try body (h0::hds) [] [] pos) (fun D σ H=>tb (YQ X.K Wo D ls) D σ H):=by
 constructor
 intro pins s σ H D I h
 have ok:=I.ok
 have frm:X.A.frames=some (X.env::X.outer):=by rw[ok.frames,hs]
 have run:=(hb (YQ X.K Wo D ls) (X.pn++pins) (fun e t₁=>wpAny (model X.prog X.w) X.A (noteFrame e X.env) (fun _ t₂=>wpAny (model X.prog X.w) X.A (setFlight e none) (fun _ t₃=>wpAny (model X.prog X.w) X.A (handleBy e X.env (h0::hds)) (SP X pins D) X.xe t₃) X.xe t₂) X.xe t₁) (fun u t xx=>by
  obtain⟨a,B,sI,pins2,τ,G,cls,d,rfl,J2,nb,up,sky,na,os,ag,w⟩:=xx
  have J:Inv X pins τ G sI:=J2.ofTry ok
  have sky2:Sky B (X.env::X.outer) a (Zc cls d) X.env.locals t.heap:=by
   rw[←hs]
   exact sky
  show wpAny (model X.prog X.w) X.A (noteFrame (.ref a) X.env) _ _ _
  refine Sky.land Zc.steady frm hf sky2 ?_
  intro h3 fl3 up3
  have J3:Inv X pins τ G { t with heap:=h3 }:=J.landed nb fl3.1 (up.trans up3) os ag
  obtain⟨oe3,vs3,he3,hz3,hd3⟩:=fl3.there
  have notF:a∉frs (X.env::X.outer):=fun hm=>by
   obtain⟨_,o,eo,hnf⟩:=Heap.FunFrames.mem fl3.2.2.1 hm
   rw[he3]at eo
   cases eo
   exact hnf _ hd3
  have nL:a≠X.env.locals:=fun z=>notF (List.mem_filterMap.mpr ⟨X.env,aql,(by rw[hf,z])⟩)
  have nF:a∉X.fs:=fun hm=>by
   obtain⟨e,he,q⟩:=List.mem_filterMap.mp hm
   exact notF (List.mem_filterMap.mpr ⟨e,aqk _ he,q⟩)
  have S3:=J3.suite he3 hd3 na nL nF
  have look:PySem.W.Looks (model X.prog X.w) h3 (typeOf (.ref a)) cls:=fun A Q E s k q=>wpAny_typeOf_ref (k _ _ he3) (by rw[hz3.1];exact q)
  have named:∀{x:Str} {c:Value} {np:Pos} {Q:Value->Shared->Prop} {E:Value->Shared->Prop},Names X x c->Q c { t with heap:=h3 }->wpAny (model X.prog X.w) (X.A.mark (some (.ref a))) (eval (.Name x np) X.env) Q E { t with heap:=h3 }:=by
   intro x c np Q E hc q
   obtain⟨hg,hdb,hm⟩:=hc
   rcases hm with hm|⟨hm,hv,hnn⟩
   ·exact ld_glob (X:=X.suite a ((a,oe3)::(X.pn++pins))) S3 hg hm q hdb
   ·exact ld_blt (X:=X.suite a ((a,oe3)::(X.pn++pins))) S3 hg hm hv q hnn hdb
  have all:∀{hds2:List ExceptHandler} {ls2:List Cl},Bs X hds2 ls2->YQ X.K Wo D ls2 cls d τ G->wpAny (model X.prog X.w) X.A (handleBy (.ref a) X.env hds2) (SP X pins D) X.xe { t with heap:=h3 }:=by
   intro hds2 ls2 hk
   induction hk with
   |nil=>
    intro w
    refine wpAny_handleBy_nil ?_
    obtain⟨k1,k2,k3,oe,vs,T,oT,ts2,he,hz,hd,h1,hr⟩:=id fl3
    unfold PySem.passOn
    refine wpAny_bind (wpAny_field he hd h1 ?_)
    have nT:¬((Value.ref T==Value.none)=true):=by simp
    rw[if_neg nT]
    have fin:wpAny (model X.prog X.w) X.A (setFlight (.ref a) X.env.frame) (fun _ s4=>wpAny (model X.prog X.w) X.A (throw (.ref a):Sem Flow) (SP X pins D) X.xe s4) X.xe { t with heap:=h3 }:=by
     rw[hf]
     refine HandSPX.setFlight_upZ fl3 ?_
     intro h4 hh4 up4
     refine wpAny_throw (tk _ _ ?_)
     exact⟨a,B,sI,pins,τ,G,cls,d,rfl,J,nb,(up.trans up3).trans up4,.inr (.inr (by rw[hs];exact hh4)),na,os,ag,w⟩
    first
     |exact wpAny_bind (wpAny_pure (wpAny_bind fin))
     |exact wpAny_bind fin
   | @one x l s0 su np cp hds3 ls3 hc hn hsu r ih=>
    intro w
    obtain⟨b,hb1,yes,no⟩:=w
    rw[hn]at yes
    have LM:=PySem.W.exm_one (M:=model X.prog X.w) J3.kIn look hb1
    refine wpAny_handleBy_cons (codeAny_handlers_test ?_) (by intro q;cases q)
    refine named hc (LM.here ?_)
    cases b with
    |false=>exact ih (no rfl)
    |true=>
     refine codeAny_handlers_suite ?_
     refine HandSPX.lands_againZ fl3 ?_
     intro h4 fl4 up4
     have J4:Inv X pins τ G { t with heap:=h4 }:=J.landed nb fl4.1 ((up.trans up3).trans up4) os ag
     obtain⟨oe4,vs4,he4,hz4,hd4⟩:=fl4.there
     have S4:=J4.suite he4 hd4 na nL nF
     refine wpAny_mono ((hsu a oe4 cls d (X.pn++pins) hz4 ⟨_,hd4⟩).run [] _ _ G _ S4 (yes rfl a na)) ?_ (fun _ _ z=>False.elim z)
     intro f s6 sp6
     cases f with
     |ret u=>
      obtain⟨v6,τ6,G6,S6,r6,q6⟩:=sp6
      exact⟨_,_,_,S6.unsuite ok,r6,q6⟩
     |next=>
      obtain⟨τ6,G6,S6,q6⟩:=sp6
      exact⟨_,_,S6.unsuite ok,q6⟩
     |brk=>
      obtain⟨τ6,G6,S6,q6⟩:=sp6
      exact⟨_,_,S6.unsuite ok,q6⟩
     |cont=>
      obtain⟨τ6,G6,S6,q6⟩:=sp6
      exact⟨_,_,S6.unsuite ok,q6⟩
   | @as x n i l s0 su np cp hds3 ls3 hc hn hi hl hsu r ih=>
    intro w
    obtain⟨b,hb1,yes,no⟩:=w
    rw[hn]at yes
    have LM:=PySem.W.exm_one (M:=model X.prog X.w) J3.kIn look hb1
    refine wpAny_handleBy_cons (codeAny_handlers_test ?_) (by intro q;cases q)
    refine named hc (LM.here ?_)
    cases b with
    |false=>exact ih (no rfl)
    |true=>
     refine codeAny_handlers_suite_as ?_
     refine HandSPX.lands_againZ fl3 ?_
     intro h4 fl4 up4
     have J4:Inv X pins τ G { t with heap:=h4 }:=J.landed nb fl4.1 ((up.trans up3).trans up4) os ag
     obtain⟨oe4,vs4,he4,hz4,hd4⟩:=fl4.there
     have S4:=J4.suite he4 hd4 na nL nF
     refine store_ok (X:=X.suite a ((a,oe4)::(X.pn++pins))) (v:=.ref a) S4 hN hi (.inl hl) rfl ?_ (.inr hl)
     intro s5 S5
     refine wpAny_mono ((hsu a oe4 cls d (X.pn++pins) hz4 ⟨_,hd4⟩).run [] s5 _ G _ S5 (yes rfl a na)) ?_ (fun _ _ z=>False.elim z)
     intro f s6 sp6
     have bye:∀{τ6:L2.St} {G6:Hp} {Q:Shared->Prop},Inv (X.suite a ((a,oe4)::(X.pn++pins))) [] τ6 G6 s6->(∀s7,Inv X pins (τ6.set i none) G6 s7->Q s7)->
       wpAny (model X.prog X.w) X.A (do bindName X.env n .none;unbindBehindTheSuite X.env n cp) (fun _ s7=>Q s7) X.xe s6:=fun S6 hq=>gone_ok (S6.unsuite ok) hN hi hl hq
     cases f with
     |ret u=>
      obtain⟨v6,τ6,G6,S6,r6,q6⟩:=sp6
      exact bye S6 fun s7 J7=>⟨_,_,_,J7,r6,q6⟩
     |next=>
      obtain⟨τ6,G6,S6,q6⟩:=sp6
      exact bye S6 fun s7 J7=>⟨_,_,J7,q6⟩
     |brk=>
      obtain⟨τ6,G6,S6,q6⟩:=sp6
      exact bye S6 fun s7 J7=>⟨_,_,J7,q6⟩
     |cont=>
      obtain⟨τ6,G6,S6,q6⟩:=sp6
      exact bye S6 fun s7 J7=>⟨_,_,J7,q6⟩
  exact all hh w) PassesOwn.looking).run [] s σ H D (I.toTry _) h
 refine wpAny_Try_except (wpAny_mono run ?_ (fun _ _ z=>z))
 intro f s1 sp1
 cases f with
 |ret u=>
  obtain⟨v,τ,G,J2,r,q⟩:=sp1
  exact⟨v,τ,G,J2.ofTry ok,r,q⟩
 |next=>
  obtain⟨τ,G,J2,q⟩:=sp1
  exact wpAny_execs_nil ⟨τ,G,J2.ofTry ok,q⟩
 |brk=>
  obtain⟨τ,G,J2,q⟩:=sp1
  exact⟨τ,G,J2.ofTry ok,q⟩
 |cont=>
  obtain⟨τ,G,J2,q⟩:=sp1
  exact⟨τ,G,J2.ofTry ok,q⟩
end
inductive DP where
 |con (d:Dat)|fld (f:Str)|flds (fs:List Str)
def Yy(y:Str)(x:dN)(f:Str):Option Dat:=match x.cls==y with
 |true=>(x.fs.lookup f).bind fun d=>match lf d with
  |true=>some d
  |false=>none
 |false=>none
def QV(y:Str)(x:dN):List Str->Option (List Dat)
 |[]=>some []
 |f::fs=>(Yy y x f).bind fun d=>(QV y x fs).bind fun ds=>some (d::ds)
def Xo(y:Str)(x:dN):DP->Option Dat
 |.con d=>some d
 |.fld f=>Yy y x f
 |.flds fs=>(QV y x fs).bind fun ds=>some (.tuple ds)
def Df(y:Str)(x:dN):List (Nat×DP)->Env->Option Env
 |[],ρ=>some ρ
 |(j,e)::r,ρ=>(Xo y x e).bind fun d=>Df y x r (ρ.set j (some (.dat d)))
structure Hd where
 y:Str
 tk:Str->Option Bool
 nm:Option Nat
 st:List (Nat×DP)
def R7(ρ:Env):Option Nat->Env
 |none=>ρ
 |some i=>ρ.set i none
def abP(ρ:Env):Option Nat->Bool
 |none=>true
 |some i=>decide (i < ρ.length)
def hdl:List Hd->dN->Env->Mo->uL
 |[],x,ρ,M=>.exc x ρ M
 |h::r,x,ρ,M=>match h.tk x.cls with
  |some true=>match abP ρ h.nm with
   |true=>match Df h.y x h.st (R7 ρ h.nm) with
    |some ρ2=>.next (R7 ρ2 h.nm) M
    |none=>.bad
   |false=>.bad
  |some false=>hdl r x ρ M
  |none=>.bad
def Yp(f:SF)(hs:List Hd):SF:=fun M ρ=>match f M ρ with
 |.exc x ρ' M'=>hdl hs x ρ' M'
 |o=>o
structure XIn(K:aqf)(aj:aQ)(σ:L2.St)(H:Hp)(g:Gh)(ρ:Env)(M:Mo)(x:dN)(a:Addr)(cls:Value)(d:Option Addr)(i:Option Nat):Prop where
 inv:SInv K aj σ H g ρ M
 xr:ql K aj g.fr H x cls d
 sl:∀j,i=some j->σ[j]?=some (some (.ref a))
section
variable(K:aqf)(aj:aQ)(a:Addr)(cls:Value)(d:Option Addr)(i:Option Nat)
def tU(f:dN->Option Dat):TE:=fun σ H Q=>∃g ρ M x z,XIn K aj σ H g ρ M x a cls d i/\f x=some z/\∀v H',Ex H H'->Rep K g H' v z->Q v H'
def tUA(f:dN->Option (List Dat)):TA:=fun σ H Q=>∃g ρ M x z,XIn K aj σ H g ρ M x a cls d i/\f x=some z/\∀v H',Ex H H'->aJ K g H' v z->Q v H'
def tSu(y:Str)(st:List (Nat×DP)):TS:=fun D σ H=>∃g ρ M x ρ2,XIn K aj σ H g ρ M x a cls d i/\Df y x st ρ=some ρ2/\(∀p∈st,i≠some p.1)/\∀σ' H',Ex H H'->SInv K aj σ' H' g ρ2 M->D.nx σ' H'
end
section
variable{K:aqf}{aj:aQ}{a:Addr}{cls:Value}{d:Option Addr}{i:Option Nat}{σ:L2.St}{H H':Hp}{g:Gh}{ρ:Env}{M:Mo}{x:dN}
theorem kZ.ex{fs:List (Str×V)}{gs:List (Str×Dat)}(e:Ex H H')(k:Kd g H)(h:kZ K g H fs gs):kZ K g H' fs gs:=h.gr (Gr.ex (q:=true) e) k
theorem ql.ex{c:Value}{dd:Option Addr}(e:Ex H H')(k:Kd g H)(h:ql K aj g H x c dd):ql K aj g H' x c dd:=by
 obtain⟨C,h1,h2,h3⟩:=h
 exact⟨C,h1,h2,h3.imp id fun⟨b,fs,e1,e2,e3⟩=>⟨b,fs,e1,e _ _ e2,e3.ex e k⟩⟩
theorem XIn.ex(e:Ex H H')(h:XIn K aj σ H g ρ M x a cls d i):XIn K aj σ H' g ρ M x a cls d i:=⟨h.inv.ex e,h.xr.ex e h.inv.kd.fr,h.sl⟩
theorem kZ.get{f:Str}{z:Dat}{fs:List (Str×V)}{gs:List (Str×Dat)}(h:kZ K g H fs gs)(e:gs.lookup f=some z):∃v,fs.lookup f=some v/\Rep K g H v z:=by
 induction h with
 |nil=>cases e
 | @cons f' v d' _ _ r _ ih=>
  rw[aqI]at e
  rw[aqI]
  cases hb:f==f' with
  |true=>
   rw[hb]at e
   cases e
   exact⟨v,rfl,r⟩
  |false=>
   rw[hb]at e
   exact ih e
end
section
variable{X:Cx}{aj:aQ}{a C:Addr}{oe:Obj}{cls:Value}{d:Option Addr}{pn:List (Addr×Obj)}{y n:Str}{pos p:Pos}{j:Nat}
theorem acV{e:Expr}{z:Dat}{i:Option Nat}{t:TE}(h:PE (X.suite a ((a,oe)::pn)) e t)(ht:∀σ H Q,tU X.K aj a cls d i (fun _=>some z) σ H Q->t σ H Q):PE (X.suite a ((a,oe)::pn)) e (tU X.K aj a cls d i fun _=>some z):=PE.weak h ht
theorem adl{f:Str}(hC:aj y=some C)(T:XfC X.K C)(hno:PySem.W.findIn X.K (.ref C) f=some none)(hz:Zc cls d oe)(hf:∃vs,oe.data=.fields vs)(hN:X.N[j]?=some n)(hv:Vis X.env.scope n)(hd:(n==("__debug__" : Str))=false)(hcd:(n==("__classdict__" : Str))=false) :
  PE (X.suite a ((a,oe)::pn)) (.Attribute (.Name n p) f pos) (tU X.K aj a cls d (some j) fun x=>Yy y x f):=by
 refine PE.weak (pe_xf T hno hz hf (pe_var (i:=j) (X:=X.suite a ((a,oe)::pn)) hN hv hd hcd)) fun σ H Q ⟨g,ρ,M,x,z,I,e,k⟩=>?_
 have e:Yy y x f=some z:=e
 unfold Yy at e
 split at e
 ·next ey=>
  obtain⟨z',l,e⟩:=aqe.mp e
  split at e
  ·next hl=>
   cases e
   obtain⟨C',c1,c2,c3⟩:=I.xr
   rw[eq_of_beq ey,hC]at c1
   cases c1
   rcases c3 with⟨c3,_⟩|⟨b,fs,c3,c4,c5⟩
   ·rw[c3]at l
    cases l
   ·obtain⟨v,l1,l2⟩:=c5.get l
    exact⟨.ref a,I.sl j rfl,rfl,c2,b,fs,v,c3,c4,l1,k v H (Ex.refl H) (Rep.free (g:=g.fr) (g':=g) rfl hl l2)⟩
  ·cases e
 ·cases e
theorem ac1{i:Option Nat}:PA (X.suite a ((a,oe)::pn)) [] (tUA X.K aj a cls d i fun _=>some []):=PA.weak pa_nil fun σ H Q ⟨g,ρ,M,x,z,I,e,k⟩=>by
 cases e
 exact k [] H (Ex.refl H) .nil
theorem agN{e:Expr}{es:List Expr}{i:Option Nat}{f:dN->Option Dat}{fr:dN->Option (List Dat)}(h:PE (X.suite a ((a,oe)::pn)) e (tU X.K aj a cls d i f))(hr:PA (X.suite a ((a,oe)::pn)) es (tUA X.K aj a cls d i fr))(hs:nst e=true) :
  PA (X.suite a ((a,oe)::pn)) (e::es) (tUA X.K aj a cls d i fun x=>(f x).bind fun z=>(fr x).bind fun zs=>some (z::zs)):=by
 refine PA.weak (pa_cons h hr (cO hs es)) fun σ H Q ⟨g,ρ,M,x,z,I,e,k⟩=>?_
 obtain⟨z1,e1,e⟩:=aqe.mp e
 obtain⟨z2,e2,e⟩:=aqe.mp e
 cases e
 exact⟨g,ρ,M,x,z1,I,e1,fun v H1 x1 r1=>⟨g,ρ,M,x,z2,I.ex x1,e2,fun vs H2 x2 r2=>k (v::vs) H2 (x1.trans x2) (.cons (r1.ex x2 (I.ex x1).inv.kd) r2)⟩⟩
theorem ace{es:List Expr}{kk:Nat}{i:Option Nat}{fr:dN->Option (List Dat)}(hr:PA (X.suite a ((a,oe)::pn)) es (tUA X.K aj a cls d i fr))(hn:∀x zs,fr x=some zs->zs.length<=100000):PE (X.suite a ((a,oe)::pn)) (.Tuple es kk pos) (tU X.K aj a cls d i fun x=>(fr x).bind fun zs=>some (.tuple zs)):=by
 refine PE.weak (pe_tup hr) fun σ H Q ⟨g,ρ,M,x,z,I,e,k⟩=>?_
 obtain⟨zs,e1,e⟩:=aqe.mp e
 cases e
 refine⟨g,ρ,M,x,zs,I,e1,fun vs H1 x1 r1=>⟨sz_of (by rw[r1.length];exact hn x zs e1),fun p np=>?_⟩⟩
 exact k (.ref p) _ (x1.trans (Ex.new np)) (.tup (st_of upd_same) (r1.ex (Ex.new np) (I.ex x1).inv.kd))
theorem U6{x:dN}:∀{fs:List Str} {zs:List Dat},QV y x fs=some zs->zs.length=fs.length
 |[],zs,h=>by cases h;rfl
 |f::fs,zs,h=>by
  rw[QV]at h
  obtain⟨z1,e1,h⟩:=aqe.mp h
  obtain⟨z2,e2,h⟩:=aqe.mp h
  cases h
  simp[U6 e2]
theorem aj1{i:Option Nat}{se:DP}{st:List (Nat×DP)}{D D':Ends}{σ:L2.St}{H:Hp}(h:tSu X.K aj a cls d i y ((j,se)::st) D σ H)(nx:∀σ' H',tSu X.K aj a cls d i y st D σ' H'->D'.nx σ' H') :
  tAsg (tU X.K aj a cls d i fun x=>Xo y x se) (gName j) D' σ H:=by
 obtain⟨g,ρ,M,x,ρ2,I,e,nj,k⟩:=h
 rw[Df]at e
 obtain⟨z,e1,e⟩:=aqe.mp e
 refine⟨g,ρ,M,x,z,I,e1,fun v H' x1 r1=>nx _ _ ⟨g,ρ.set j (some (.dat z)),M,x,ρ2,⟨(I.ex x1).inv.set r1,(I.ex x1).xr,fun jj hj=>?_⟩,e,fun p hp=>nj p (aqk _ hp),fun σ' H2 x2 I2=>k σ' H2 (x1.trans x2) I2⟩⟩
 have ne:j≠jj:=fun z=>nj (j,se) aql (by rw[hj,z])
 rw[aqo ne]
 exact I.sl jj hj
theorem ahM{i:Option Nat}{D:Ends}{σ:L2.St}{H:Hp}(h:tSu X.K aj a cls d i y [] D σ H):D.nx σ H:=by
 obtain⟨g,ρ,M,x,ρ2,I,e,nj,k⟩:=h
 cases e
 exact k σ H (Ex.refl H) I.inv
end
def amN(K:aqf)(aj:aQ)(h:Hd)(l:Cl):Prop:=(∃D,aj h.y=some D/\l.c=.ref D)/\abk K aj h.y h.tk/\l.nm=h.nm/\(l.ts=fun a cls d=>tSu K aj a cls d h.nm h.y h.st)/\∀p∈h.st,h.nm≠some p.1
inductive FT(K:aqf)(aj:aQ):List Hd->List Cl->Prop
 |nil:FT K aj [] []
 |cons {h:Hd} {l:Cl} {hs:List Hd} {ls:List Cl} (o:amN K aj h l) (r:FT K aj hs ls):FT K aj (h::hs) (l::ls)
theorem SInv.off{K:aqf}{aj:aQ}{σ:L2.St}{H:Hp}{g:Gh}{ρ:Env}{M:Mo}(I:SInv K aj σ H g ρ M)(i:Nat)(v:Option V):SInv K aj (σ.set i v) H g (ρ.set i none) M:=by
 have I2:=I.forget (j:=i)
 refine⟨I2.kd,I2.wok,by rw[aqG,aqG];exact I.len,fun j d h=>?_,fun j xs h=>?_,fun j k xs ys l ne h1 h2 h3=>?_⟩
 ·by_cases e:j=i
  ·subst e
   rw[aq4]at h
   split at h <;> first | (split at h <;> cases h) | (exact absurd rfl ‹¬_›)
  ·obtain⟨v',a1,a2⟩:=I2.dat j d h
   rw[aqo (Ne.symm e)]at a1
   exact⟨v',by rw[aqo (Ne.symm e)];exact a1,a2⟩
 ·by_cases e:j=i
  ·subst e
   rw[aq4]at h
   split at h <;> first | (split at h <;> cases h) | (exact absurd rfl ‹¬_›)
  ·obtain⟨l,us,a1,a2⟩:=I2.own j xs h
   rw[aqo (Ne.symm e)]at a1
   exact⟨l,us,by rw[aqo (Ne.symm e)];exact a1,a2⟩
 ·have n1:j≠i:=fun z=>by
   subst z
   rw[aq4]at h1
   split at h1 <;> first | (split at h1 <;> cases h1) | (exact absurd rfl ‹¬_›)
  have n2:k≠i:=fun z=>by
   subst z
   rw[aq4]at h2
   split at h2 <;> first | (split at h2 <;> cases h2) | (exact absurd rfl ‹¬_›)
  rw[aqo (Ne.symm n1)]at h1 h3
  rw[aqo (Ne.symm n2)]at h2 ⊢
  exact I.sep j k xs ys l ne h1 h2 h3
section
variable{X:Cx}{aj:aQ}{W:WX}{q:Bool}{body:List Stmt}{h0:ExceptHandler}{hds:List ExceptHandler}{hs:List Hd}{ls:List Cl}{pos:Pos}{f:SF}
theorem akj{D:Ends}{g g':Gh}{H H':Hp}{σ':L2.St}{ρ':Env}{M':Mo}{x:dN}{c:Value}{dd:Option Addr}(ha:FT X.K aj hs ls)(r:Gr q g g' H H')(I:SInv X.K aj σ' H' g' ρ' M')(xr:ql X.K aj g'.fr H' x c dd)
  (z:(hdl hs x ρ' M').sat (sN X.K aj q D.nx g H) (sR X.K aj q D.rt g H) (sN X.K aj q D.bk g H) (sN X.K aj q D.ct g H) (sX X.K aj W q g H)):YQ X.K W D ls c dd σ' H':=by
 induction ha with
 |nil=>exact z σ' H' g' c dd r I xr
 | @cons h l hs ls o _ ih=>
  obtain⟨⟨D0,o1,o2⟩,o3,o4,o5,o6⟩:=o
  rw[hdl]at z
  obtain⟨C,c1,c2,c3⟩:=id xr
  split at z
  ·next ht=>
   refine⟨true,by rw[c2,o2];exact o3 _ _ _ ht c1 _ o1,fun _ a na=>?_,fun y=>nomatch y⟩
   rw[o4,o5]
   split at z
   ·next hm=>
    split at z
    ·next ρ2 hr=>
     cases hnm:h.nm with
     |none=>
      rw[hnm]at hr z o6
      exact⟨g',ρ',M',x,ρ2,⟨I,xr,fun j hj=>nomatch hj⟩,hr,o6,fun σ2 H2 e2 I2=>z σ2 H2 g' (r.trans (Gr.ex e2)) I2⟩
     |some i=>
      rw[hnm]at hr z o6 hm
      refine⟨g',ρ'.set i none,M',x,ρ2,⟨I.off i _,xr,fun j hj=>?_⟩,hr,o6,fun σ2 H2 e2 I2=>z _ H2 g' (r.trans (Gr.ex e2)) (I2.off i none)⟩
      cases hj
      have hl:i < ρ'.length:=of_decide_eq_true hm
      rw[aqx (by rw[I.len];exact hl)]
    ·exact False.elim z
   ·exact False.elim z
  ·next ht=>exact⟨false,by rw[c2,o2];exact o3 _ _ _ ht c1 _ o1,(fun y=>nomatch y),fun _=>ih z⟩
  ·exact False.elim z
theorem ajt(st:X.stack=X.env::X.outer)(hf:X.env.frame=some X.env.locals)(hN:X.N.Nodup)(tk:Takes X W)
  (hb:∀(W':WX) (pn:List (Addr×Obj)) (xe:Value->Shared->Prop),Takes (X.tr pn xe) W'->PassesOwn (model X.prog X.w) X.A X.env xe->Jp aj (X.tr pn xe) W' q body f)
  (hh:Bs X (h0::hds) ls) (ha:FT X.K aj hs ls):SE aj X W q (.Try body (h0::hds) [] [] pos) (Yp f hs):=by
 refine PS.weak (af9 (tb:=fun W'=>tS X.K aj W' q f) st hf hN tk (fun W' pn xe t p=>hb W' pn xe t p) hh) fun D σ H ⟨g,ρ,M,I,z⟩=>?_
 refine⟨g,ρ,M,I,?_⟩
 unfold Yp at z
 cases hfm:f M ρ with
 |next ρ' M'=>rw[hfm]at z;exact z
 |ret d M'=>rw[hfm]at z;exact z
 |brk ρ' M'=>rw[hfm]at z;exact z
 |cont ρ' M'=>rw[hfm]at z;exact z
 |bad=>rw[hfm]at z;exact z
 |exc x ρ' M'=>
  rw[hfm]at z
  exact fun σ' H' g' c dd r I' xr=>akj ha r I' xr z
end
section
variable{K:aqf}{aj:aQ}{W:WX}{g g':Gh}{H H':Hp}{σ:L2.St}{ρ:Env}{M:Mo}
theorem ju.grow{l:Addr}(r:Gr false g g' H H')(e:Ex H H')(k:Kd g H):∀{n:Bool} {kvs:List (Dat×Dat)},ju K aj g H l n kvs->ju K aj g' H' l n kvs
 |false,_,⟨kv,h1,h2,h3⟩=>⟨kv,e _ _ h1,h2,h3.gr r k⟩
 |true,_,⟨o,xs,vs,h1,h2,h3,h4,h5,h6⟩=>⟨o,xs,vs,e _ _ h1,h2,h3,h4.gr r k,h5,h6.gr r k⟩
theorem dY.grow{h:Nat}{f:Str}{v:V}(r:Gr false g g' H H')(e:Ex H H')(o:g'.ow=g.ow)(k:Kd g H):∀{fl:iW},dY K aj g H h f v fl->dY K aj g' H' h f v fl
 |.dat _,z=>Rep.gr r k z
 |.lst _ _,⟨l,us,h1,h2,h3,h4,h5⟩=>⟨l,us,h1,e _ _ h2,by rw[o];exact h3,h4.gr r k,r.tb h5⟩
 |.dic _ _,⟨l,h1,h2,h3⟩=>⟨l,h1,by rw[o];exact h2,h3.grow r e k⟩
theorem cI.grow{h:Nat}(r:Gr false g g' H H')(e:Ex H H')(o:g'.ow=g.ow)(k:Kd g H){fs:List (Str×V)}{gs:List (Str×iW)}(t:cI K aj g H h fs gs):cI K aj g' H' h fs gs:=by
 induction t with
 |nil=>exact .nil
 |cons z _ ih=>exact .cons (z.grow r e o k) ih
def Gh.push(g:Gh)(x:Addr):Gh:={ g with tbl:=g.tbl++[x] }
theorem Ym{x a:Addr}(z:(g.push x).A a):g.A a∨a=x:=by
 rcases z with(z|z)|z|z
 ·rcases aqp.mp z with z|z
  ·exact .inl (.inl (.inl z))
  ·exact .inr (aqm.mp z)
 ·exact .inl (.inl (.inr z))
 ·exact .inl (.inr (.inl z))
 ·exact .inl (.inr (.inr z))
theorem Zi{x a:Addr}(z:(g.push x).W a):g.W a∨a=x:=by
 rcases z with z|z
 ·rcases aqp.mp z with z|z
  ·exact .inl (.inl z)
  ·exact .inr (aqm.mp z)
 ·exact .inl (.inr z)
theorem T8{x:Addr}(e:Ex H H')(nx:H x=none):Gr false g (g.push x) H H' where
 keep:=fun a o h _ _=>e a o h
 keepW:=fun z=>nomatch z
 dom:=CJ e
 tbl:=⟨[x],rfl⟩
 W:=fun a z=>z.elim (fun z=>.inl (aqL _ z)) .inr
 nW:=fun a z=>(Zi z).imp id fun z=>by rw[z];exact nx
 qg:=fun z=>nomatch z
 Lc:=rfl
 Lo:=fun _ z=>z
 nLo:=fun _ z=>.inl z
theorem aac{x:Addr}{o:HO}(k:Kd g H)(e:Ex H H')(nx:H x=none)(hx:H' x=some o)(m:Jd o):Kd (g.push x) H' where
 ob:=fun a z=>by
  rcases Ym z with z|rfl
  ·obtain⟨u,h1,h2⟩:=k.ob a z
   exact⟨u,e _ _ h1,h2⟩
  ·exact⟨o,hx,m⟩
 lo:=fun a z y=>by
  rcases Zi y with y|rfl
  ·exact k.lo a z y
  ·obtain⟨u,h1,_⟩:=k.ob a (.inr (.inr z))
   rw[nx]at h1
   cases h1
 lc:=fun a z=>by
  refine⟨fun y=>?_,(k.lc a z).2⟩
  rcases Zi y with y|rfl
  ·exact(k.lc a z).1 y
  ·obtain⟨u,h1,_⟩:=k.ob a (.inr (.inl z))
   rw[nx]at h1
   cases h1
theorem Yj{x:Addr}{c:Str}(k:Kd g H)(w:fV K aj g H M)(e:Ex H H')(nx:H x=none)(hx:c=""∨∃C dx,aj c=some C/\H' x=some (.ins C dx [])):fV K aj (g.push x) H' (M++[⟨c,[]⟩]):=by
 have gt:∀{h:Nat} {a:Addr},(g.push x).tbl[h]?=some a->(g.tbl[h]?=some a)∨(h=M.length/\a=x):=fun {h a} z=>by
  have z:(g.tbl++[x])[h]?=some a:=z
  by_cases hl:h < g.tbl.length
  ·rw[aqq hl]at z
   exact .inl z
  ·rw[aqy (by omega)]at z
   have:=(aqh.mp z).1
   simp at this
   have e0:h - g.tbl.length=0:=by omega
   rw[e0]at z
   cases z
   exact .inr ⟨by rw[←w.len];omega,rfl⟩
 have nin:∀{h:Nat},¬g.tbl[h]?=some x:=fun {h} z=>by
  obtain⟨u,h1,_⟩:=k.ob x (.inl (.inl (aqn z)))
  rw[nx]at h1
  cases h1
 have ex:∀{h:Nat} {i:Inst},(M++[(⟨c,[]⟩:Inst)])[h]?=some i->M[h]?=some i∨i=⟨c,[]⟩:=fun {h i} h1=>by
  by_cases hl:h < M.length
  ·rw[aqq hl]at h1
   exact .inl h1
  ·rw[aqy (by omega)]at h1
   exact .inr (aqm.mp (aqn h1))
 refine⟨by show(g.tbl++[x]).length=_;simp[w.len],fun h j a h1 h2=>?_,fun h a i h1 h2 hcn=>?_,fun h i h1=>?_,fun h i h1=>?_,fun h a i h1 h2 hcn=>?_,fun h i h1 hcn=>?_,w.nc⟩
 ·rcases gt h1 with z1|⟨z1,rfl⟩
  ·rcases gt h2 with z2|⟨z2,rfl⟩
   ·exact w.inj h j a z1 z2
   ·exact absurd z1 nin
  ·rcases gt h2 with z2|⟨z2,_⟩
   ·exact absurd z2 nin
   ·omega
 ·rcases gt h1 with z1|⟨rfl,rfl⟩
  ·have hl:h < M.length:=by rw[←w.len];exact(aqh.mp z1).1
   rw[aqq hl]at h2
   obtain⟨C',dx',fs,c1,c2,c3⟩:=w.ins h a i z1 h2 hcn
   exact⟨C',dx',fs,c1,e _ _ c2,c3.grow (T8 e nx) e rfl k⟩
  ·rw[aqy (aqF _),Nat.sub_self]at h2
   cases h2
   rcases hx with rfl|⟨C,dx,hc,hx⟩
   ·exact absurd rfl hcn
   ·exact⟨C,dx,[],hc,hx,.nil⟩
 ·rcases ex h1 with h1|rfl
  ·exact w.nd h i h1
  ·exact List.nodup_nil
 ·rcases ex h1 with h1|rfl
  ·exact w.fd h i h1
  ·exact fun f hf=>absurd hf aqO
 ·rcases gt h1 with z1|⟨_,rfl⟩
  ·have hl:h < M.length:=by rw[←w.len];exact(aqh.mp z1).1
   rw[aqq hl]at h2
   exact w.tw h a i z1 h2 hcn
  ·cases hz:g.ow a with
   |none=>exact hz
   |some p=>
    obtain⟨u,h2,_⟩:=k.ob a (.inl (.inr (by rw[hz];exact fun y=>nomatch y)))
    rw[nx]at h2
    cases h2
 ·rcases ex h1 with h1|rfl
  ·exact w.dm h i h1 hcn
  ·rfl
theorem SInv.grow{M':Mo}(r:Gr false g g' H H')(e:Ex H H')(lo:g'.Lo=g.Lo)(k':Kd g' H')(w':fV K aj g' H' M')(I:SInv K aj σ H g ρ M):SInv K aj σ H' g' ρ M' where
 kd:=k'
 wok:=w'
 len:=I.len
 dat:=fun i d h=>by
  obtain⟨v,h1,h2⟩:=I.dat i d h
  exact⟨v,h1,h2.gr r I.kd⟩
 own:=fun i xs h=>by
  obtain⟨l,us,h1,h2,h3,h4⟩:=I.own i xs h
  exact⟨l,us,h1,e _ _ h2,by rw[lo];exact h3,h4.gr r I.kd⟩
 sep:=I.sep
end
theorem abH{P:Program}{w:World}{K:aqf}{mg:Str->Option Value}{base:Heap}{k:Nat}{f:Addr}{fd:FuncData}{ps:List Str}{sp:Sp}(F:FnOk P w K mg base (L2.CX P w) k f fd ps sp):FnOk P w K mg base L2.CX0 k f fd ps fun vs H Q _=>sp vs H Q fun _ _ _=>False:=
 ⟨fun vs H Q E h=>F.len vs H Q _ h,fun A outer s H args us vs Q E hr he hb hv h=>codeAny_mono (F.run A outer s H args us vs Q _ hr he hb hv h) fun r s' z=>by
  unfold CR at z ⊢
  split at z
  ·exact z
  ·exact z
  ·obtain⟨a,B,H',cls,d,_,_,_,_,_,_,_,y⟩:=z
   exact False.elim y⟩
def Aj(x:Str)(m:Mo->List Dat->aZ Dat)(as:QA):GF:=fun M ρ=>((as M ρ).at M).bind fun ds _=>match m (M++[⟨x,[]⟩]) (obj M.length::ds) with
 |.ok .none M'=>.ok (obj M.length) M'
 |_=>.bad
section
variable{X:Cx}{aj:aQ}{W:WX}{x:Str}{pos p:Pos}{k n:Nat}{m:Mo->List Dat->aZ Dat}{as:QA}{t:TA}{e:Expr}{es:List Expr}
theorem acU{C f:Addr}{fd:FuncData}{ps:List Str}(hc:aj x=some C)(hp:ps.length=n+1)(hn:∀M ρ ds,as M ρ=.ok ds->ds.length=n)(ht:∀σ H Q,Nr X.K aj W as σ H Q->t σ H Q)(σ:L2.St)(H:Hp)(Q:VK)(h:tE X.K aj W false (Aj x m as) σ H Q) :
  tMake C (fun vs H Q _=>Jg X.K aj ps.length m vs H Q fun _ _ _=>False) [] (fun _ _ _=>False) t σ H Q:=by
 obtain⟨g,ρ,M,I,h⟩:=h
 unfold Aj at h
 have h:=h.bnd
 refine ht σ H _ ⟨g,ρ,M,I,?_⟩
 cases has:as M ρ with
 |exc x=>rw[has]at h;exact fun H' c dd e r=>h H' g c dd (Gr.ex e) (I.ex e) r
 |bad=>rw[has]at h;exact False.elim h
 |ok ds=>
  rw[has]at h
  intro vs H1 e1 r1 y dx ny ndx ne
  have I1:=I.ex e1
  have e2:Ex H1 (upd (upd H1 dx (.own y)) y (.ins C dx [])):=by
   refine(Ex.new ndx).trans (Ex.new ?_)
   rw[upd_ne ne.symm]
   exact ny
  have hy:upd (upd H1 dx (.own y)) y (.ins C dx []) y=some (.ins C dx []):=upd_same
  have gr:=T8 (g:=g) e2 ny
  have kd:=aac I1.kd e2 ny hy trivial
  have wk:=Yj (c:=x) I1.kd I1.wok e2 ny (.inr ⟨C,dx,hc,hy⟩)
  have I2:=I1.grow gr e2 rfl kd wk
  have hb:(g.push y).tbl[M.length]?=some y:=by
   show(g.tbl++[y])[M.length]?=_
   rw[←I1.wok.len,aqy (aqF _),Nat.sub_self]
   rfl
  refine⟨by rw[aq0,aqu,r1.length,hn M ρ ds has,hp],g.push y,M++[⟨x,[]⟩],obj M.length::ds,kd,wk,.cons (.obj hb) (by rw[aq0];exact r1.gr gr I1.kd),?_⟩
  have h:aZ.sat (match m (M++[(⟨x,[]⟩:Inst)]) (obj M.length::ds) with
   |.ok .none M'=>aZ.ok (obj M.length) M'
   |_=>.bad) (fun d M'=>∀v H' g',Gr false g g' H H'->SInv X.K aj σ H' g' ρ M'->Rep X.K g' H' v d->Q v H') (gE X.K aj W false g H σ ρ):=h
  cases hm:m (M++[⟨x,[]⟩]) (obj M.length::ds) with
  |bad=>rw[hm]at h;exact False.elim h
  |exc z M'=>rw[hm]at h;exact False.elim h
  |ok d M'=>
   rw[hm]at h
   cases d with
   |none=>exact fun v H' g' c k' w' r'=>⟨by cases r';rfl,h (.ref y) H' g' (((Gr.ex e1).trans gr).trans c.gr) (I2.call c k' w') (.obj (c.gr.tb hb))⟩
   |_=>exact False.elim h
theorem ajA(hr:Room k X.A)(g:bf X.prog X.w X.K X.mg X.base aj k x (.cls n m))(hg:Gl X x)(hd:(x==("__debug__" : Str))=false)(ha:Gk aj X W (e::es) as)(hs:(e::es).all nst=true)(hn:∀M ρ ds,as M ρ=.ok ds->ds.length=n) :
  GE aj X W false (.Call (.Name x p) (e::es) [] pos) (Aj x m as):=by
 obtain⟨C,f,fd,ps,j,g1,g2,_,g3,hj,hp,hB,F⟩:=g
 have hs':=hs
 rw[aqV,aqg]at hs'
 exact PE.weak (pe_make (E:=fun _ _ _=>False) g3 (abH F) (hr.mono hj) hg g1 hB .nil pass0 ha hd (cO hs'.1 es) (star_any es hs'.2)) fun σ H Q h=>acU (f:=f) (fd:=fd) g2 hp hn (fun _ _ _ z=>z) σ H Q h
theorem aho(hr:Room k X.A)(g:bf X.prog X.w X.K X.mg X.base aj k x (.cls 0 m))(hg:Gl X x)(hd:(x==("__debug__" : Str))=false):GE aj X W false (.Call (.Name x p) [] [] pos) (Aj x m au):=by
 obtain⟨C,f,fd,ps,j,g1,g2,_,g3,hj,hp,hB,F⟩:=g
 exact PE.weak (pe_make0 (E:=fun _ _ _=>False) g3 (abH F) (hr.mono hj) hg g1 hB .nil pass0 hd) fun σ H Q h=>acU (f:=f) (fd:=fd) (as:=au) g2 hp (fun M ρ ds z=>by cases z;rfl) (fun σ H Q ⟨g,ρ,M,I,z⟩=>z [] H (Ex.refl H) .nil) σ H Q h
end
def Ho(m:Mo->List Dat->aZ Dat)(as:QA):GF:=fun M ρ=>((as M ρ).at M).bind fun ds _=>m M ds
section
variable{X:Cx}{aj:aQ}{W:WX}{e:Expr}{es:List Expr}{pos p:Pos}{x:Str}{k:Nat}{f:Addr}{fd:FuncData}{ps:List Str}
theorem agW{m:Mo->List Dat->aZ Dat}{as:QA}(tk:Takes X W)(F:FnOk X.prog X.w X.K X.mg X.base (L2.CX X.prog X.w) k f fd ps (Jg X.K aj ps.length m))(hr:Room k X.A)(hg:Gl X x)(hm:X.mg x=some (.ref f))(hk:PySem.W.keepIn X.K (.ref f)=true)(hb:Binds X.K fd ps [])
  (ha:Gk aj X W (e::es) as) (hl:(e::es).length=ps.length) (hd:(x==("__debug__" : Str))=false) (hs:(e::es).all nst=true) (hn:∀M ρ ds,as M ρ=.ok ds->ds.length=(e::es).length):GE aj X W false (.Call (.Name x p) (e::es) [] pos) (Ho m as):=by
 have hs':=hs
 rw[aqV,aqg]at hs'
 refine PE.weak (pe_callS (E:=fun σ=>WE W σ) F hr hg hm hk hb (fun σ=>passAt tk σ) ha hd (cO hs'.1 es) (star_any es hs'.2)) fun σ H Q ⟨g,ρ,M,I,h⟩=>?_
 refine⟨g,ρ,M,I,?_⟩
 have h:=h.bnd
 cases has:as M ρ with
 |exc x=>rw[has]at h;exact fun H' c dd e r=>h H' g c dd (Gr.ex e) (I.ex e) r
 |bad=>rw[has]at h;exact False.elim h
 |ok ds=>
  rw[has]at h
  have h:(m M ds).sat (fun d M'=>∀v H' g',Gr false g g' H H'->SInv X.K aj σ H' g' ρ M'->Rep X.K g' H' v d->Q v H') (gE X.K aj W false g H σ ρ):=h
  intro vs H1 e1 r1
  exact⟨by rw[r1.length,hn M ρ ds has];exact hl,g,M,ds,I.kd.ex e1,I.wok.ex e1 I.kd,r1,h.mono (fun d M' kk v H' g' c k' w' r'=>kk v H' g' ((Gr.ex e1).trans c.gr) ((I.ex e1).call c k' w') r') fun x M' kk H' g' cc dd c k' w' r'=>kk H' g' cc dd ((Gr.ex e1).trans c.gr) ((I.ex e1).call c k' w') r'⟩
end
def Ft.has(ft:Ft)(c f:Str):Bool:=match ft.lookup c with
 |some fs=>fs.contains f
 |none=>false
def Lf(ft:Ft)(aj:aQ):Prop:=∀c f,ft.has c f=true->f∈aj.fl c
def unH:Dat->Option Nat
 |.dict [(.none,.int (.ofNat h))]=>some h
 |_=>none
theorem aeD{d:Dat}{h:Nat}(e:unH d=some h):d=obj h:=by
 unfold unH at e
 split at e
 ·cases e;rfl
 ·cases e
def jV(M:Mo)(d:Dat):Option (Nat×Inst):=(unH d).bind fun h=>(M[h]?).bind fun i=>match i.cls=="" with
 |true=>none
 |false=>some (h,i)
theorem IW{M:Mo}{d:Dat}{h:Nat}{i:Inst}(e:jV M d=some (h,i)):d=obj h/\M[h]?=some i/\i.cls≠"":=by
 unfold jV at e
 obtain⟨h',e1,e⟩:=aqe.mp e
 obtain⟨i',e2,e⟩:=aqe.mp e
 split at e
 ·cases e
 ·next hc=>
  cases e
  exact⟨aeD e1,e2,fun z=>by rw[z]at hc;cases hc⟩
def tV(ft:Ft)(o:QF)(f:Str)(e:GF):SF:=fun M ρ=>(e M ρ).then ρ fun d M1=>((o M1 ρ).at M1).then ρ fun od M2=>match jV M2 od with
 |some (h,i)=>match ft.has i.cls f&&decide (i.fs.length < 100) with
  |true=>.next ρ (M2.set h (i.put f (.dat d)))
  |false=>.bad
 |none=>.bad
theorem SInv.chg{K:aqf}{aj:aQ}{σ:L2.St}{H H':Hp}{g g':Gh}{ρ:Env}{M M':Mo}{h:Nat}{f:Str}(I:SInv K aj σ H g ρ M)(c:Chg M g g' H H' h f)(w:fV K aj g' H' M'):SInv K aj σ H' g' ρ M':=I.call c.gc c.kd w
section
variable{X:Cx}{aj:aQ}{W:WX}{o e:Expr}{f:Str}{pos pos':Pos}{ft:Ft}{fo:QF}
theorem GJ{K:aqf}{g:Gh}{H:Hp}{M:Mo}{d:Dat}{v:V}{h:Nat}{i:Inst}(co:jr K aj)(fk:Lf ft aj)(w:fV K aj g H M)(r:dZ K g H v d)(hi:jV M d=some (h,i))(hf:ft.has i.cls f=true):∃a C dx fs,d=obj h/\M[h]?=some i/\i.cls≠""/\g.tbl[h]?=some a/\v=.ref a/\aj i.cls=some C/\H a=some (.ins C dx fs)/\cI K aj g H h fs i.fs/\Cls K C/\NoAttr K C f/\f∈aj.fl i.cls:=by
 obtain⟨rfl,h1,h2⟩:=IW hi
 obtain⟨a,rfl,ha⟩:=Kl r
 obtain⟨C,dx,fs,c1,c2,c3⟩:=w.ins h a i ha h1 h2
 have hfl:=fk _ _ hf
 obtain⟨k1,k2⟩:=co i.cls C f c1 hfl
 exact⟨a,C,dx,fs,rfl,h1,h2,ha,rfl,c1,c2,c3,k1,k2,hfl⟩
theorem ag3{fe:GF}(co:jr X.K aj)(fk:Lf ft aj)(ho:QW aj X W o fo)(he:GE aj X W false e fe)(hs:swapsWith e (some (.Attribute o f pos')) pos.line X.env=pure false):SE aj X W false (.Assign [.Attribute o f pos'] e pos) (tV ft fo f fe):=by
 refine PS.weak (ps_fld ho he hs) fun D σ H ⟨g,ρ,M,I,z⟩=>?_
 refine tE.go I (dw (σ:=σ) z) fun d M1 v H1 g1 k1 r1 I1 rv=>?_
 refine tW.go I1 (k:=fun od=>((match jV M1 od with
  |some (h,i)=>match ft.has i.cls f&&decide (i.fs.length < 100) with
   |true=>uL.next ρ (M1.set h (i.put f (.dat d)))
   |false=>.bad
  |none=>.bad).sat (sN X.K aj false D.nx g H) (sR X.K aj false D.rt g H) (sN X.K aj false D.bk g H) (sN X.K aj false D.ct g H) (sX X.K aj W false g H))) ?_ fun od u H2 k2 e2 ru=>?_
 ·have k1:=Out.iZ (dw (σ:=σ) k1)
  exact k1.mono (fun _ y=>y) fun x y H' c dd ex rx=>y H' g1 c dd (r1.trans (Gr.ex ex)) (I1.ex ex) rx
 ·have I2:=I1.ex e2
  split at k2
  ·next h i hi=>
   split at k2
   ·next hb=>
    rw[aqg]at hb
    obtain⟨a,C,dx,fs,_,m1,m2,ha,rfl,c1,c2,c3,c4,c5,c6⟩:=GJ co fk I2.wok ru hi hb.1
    refine⟨a,C,dx,fs,rfl,c2,c4,c5,?_,?_⟩
    ·have:=of_decide_eq_true hb.2
     rw[c3.len]
     omega
    ·have ch:=Ub (f:=f) (C:=C) (dx:=dx) (fs':=putF f v fs) I2.kd I2.wok ha m1 m2
     have w':=I2.wok.chg I2.kd ch ha m1 m2 c6 c1 c3 upd_same (fl:=.dat d) (show Rep X.K g1 _ v d from(rv.ex e2 I1.kd).gr ch.gc.gr I2.kd)
     exact k2 σ _ g1 ((r1.trans (Gr.ex e2)).trans ch.gc.gr) (I2.chg ch w')
   ·exact False.elim k2
  ·exact False.elim k2
end
mutual
theorem Rep.mv{K:aqf}{g g':Gh}{H:Hp}(tb:∀(h:Nat) (a:Addr),g.tbl[h]?=some a->g'.tbl[h]?=some a)(n:∀a,g'.A a->g.A a):∀{v:V} {d:Dat},Rep K g H v d->Rep K g' H v d
 |_,_,.non=>.non
 |_,_,.bl b=>.bl b
 |_,_,.int i=>.int i
 |_,_,.str x=>.str x
 |_,_,.tup h t=>.tup h (aJ.mv tb n t)
 |_,_,.lst h t=>.lst (h.elim (fun z=>.inl ⟨z.1,fun y=>z.2 (n _ y)⟩) .inr) (aJ.mv tb n t)
 |_,_,.obj h=>.obj (tb _ _ h)
theorem aJ.mv{K:aqf}{g g':Gh}{H:Hp}(tb:∀(h:Nat) (a:Addr),g.tbl[h]?=some a->g'.tbl[h]?=some a)(n:∀a,g'.A a->g.A a):∀{vs:List V} {ds:List Dat},aJ K g H vs ds->aJ K g' H vs ds
 |_,_,.nil=>.nil
 |_,_,.cons h t=>.cons (Rep.mv tb n h) (aJ.mv tb n t)
end
def DY(ft:Ft)(o:QF)(f:Str)(e:IF):SF:=fun M ρ=>((e M ρ).at M).then ρ fun xs M0=>((o (M0++[⟨"",[]⟩]) ρ).at (M0++[⟨"",[]⟩])).then ρ fun od M2=>match jV M2 od with
 |some (h,i)=>match ft.has i.cls f&&decide (i.fs.length < 100) with
  |true=>.next ρ (M2.set h (i.put f (.lst M0.length xs)))
  |false=>.bad
 |none=>.bad
theorem Kc{K:aqf}{aj:aQ}{σ:L2.St}{H H':Hp}{g:Gh}{ρ:Env}{M:Mo}{l:Addr}{o:HO}(I:SInv K aj σ H g ρ M)(nl:H l=none)(e:Ex H H')(hl:H' l=some o)(m:Jd o):Gr false g (g.push l) H H'/\SInv K aj σ H' (g.push l) ρ (M++[⟨"",[]⟩])/\(g.push l).tbl[M.length]?=some l/\(g.push l).ow l=none/\(M++[(⟨"",[]⟩:Inst)])[M.length]?=some ⟨"",[]⟩:=by
 have gr:=T8 (g:=g) e nl
 have kd:=aac I.kd e nl hl m
 have wk:=Yj (c:="") I.kd I.wok e nl (.inl rfl)
 refine⟨gr,I.grow gr e rfl kd wk,?_,?_,?_⟩
 ·show(g.tbl++[l])[M.length]?=_
  rw[←I.wok.len,aqy (aqF _),Nat.sub_self]
  rfl
 ·cases hz:g.ow l with
  |none=>exact hz
  |some p=>
   obtain⟨u,h1,_⟩:=I.kd.ob l (.inl (.inr (by rw[hz];exact fun y=>nomatch y)))
   rw[nl]at h1
   cases h1
 ·rw[aqy (aqF _),Nat.sub_self]
  rfl
section
variable{X:Cx}{aj:aQ}{W:WX}{o e:Expr}{f:Str}{pos pos' p1 apos epos spos:Pos}{ft:Ft}{fo:QF}
theorem ahw{fe:IF}(co:jr X.K aj)(fk:Lf ft aj)(ho:QW aj X W o fo)(he:FE aj X W e fe)(hs:swapsWith e (some (.Attribute o f pos')) pos.line X.env=pure false):SE aj X W false (.Assign [.Attribute o f pos'] e pos) (DY ft fo f fe):=by
 refine PS.weak (ps_fld ho he hs) fun D σ H ⟨g,ρ,M,I,z⟩=>?_
 refine⟨g,ρ,M,I,?_⟩
 unfold DY at z
 cases hf:fe M ρ with
 |exc x=>rw[hf]at z;exact fun H' c dd e r=>z σ H' g c dd (Gr.ex e) (I.ex e) r.fr
 |bad=>rw[hf]at z;exact False.elim z
 |ok xs=>
  rw[hf]at z
  intro l us H1 nl e1 hl rs
  obtain⟨gr,I1,tb,ow,mm⟩:=Kc I nl e1 hl trivial
  have rs1:aJ X.K (g.push l) H1 us xs:=aJ.mv (g:=g.add l) (g':=g.push l) (fun h a z=>gr.tb (g:=g) z) (fun a z=>by
   rcases Ym z with z|rfl
   ·rcases z with z|z|z
    ·exact .inl z
    ·exact .inr (.inl z)
    ·exact .inr (.inr (show g.Lo a∨a=l from Or.inl z))
   ·exact .inr (.inr (show g.Lo a∨a=a from Or.inr rfl))) rs
  have z:(((fo (M++[⟨"",[]⟩]) ρ).at (M++[⟨"",[]⟩])).then ρ fun od M2=>match jV M2 od with
   |some (h,i)=>match ft.has i.cls f&&decide (i.fs.length < 100) with
    |true=>.next ρ (M2.set h (i.put f (.lst M.length xs)))
    |false=>.bad
   |none=>.bad).sat (sN X.K aj false D.nx g H) (sR X.K aj false D.rt g H) (sN X.K aj false D.bk g H) (sN X.K aj false D.ct g H) (sX X.K aj W false g H):=z
  have k1:=Out.iZ (dw (σ:=σ) z)
  refine tW.go I1 (k1.mono (fun _ y=>y) fun x y H' c dd ex rx=>y H' _ c dd (gr.trans (Gr.ex ex)) (I1.ex ex) rx) fun od u H2 k2 e2 ru=>?_
  have I2:=I1.ex e2
  split at k2
  ·next h i hi=>
   split at k2
   ·next hb=>
    rw[aqg]at hb
    obtain⟨a,C,dx,fs,_,m1,m2,ha,rfl,c1,c2,c3,c4,c5,c6⟩:=GJ co fk I2.wok ru hi hb.1
    have nla:l≠a:=fun z=>by
     subst z
     cases I2.wok.inj _ _ _ ha tb
     rw[mm]at m1
     cases m1
     exact m2 rfl
    refine⟨a,C,dx,fs,rfl,c2,c4,c5,?_,?_⟩
    ·have:=of_decide_eq_true hb.2
     rw[c3.len]
     omega
    ·have ch:=Ul (f:=f) (C:=C) (dx:=dx) (fs':=putF f (.ref l) fs) I2.kd I2.wok ha m1 m2 tb mm ow
     have w':=I2.wok.chg I2.kd ch ha m1 m2 c6 c1 c3 upd_same (v:=.ref l) (fl:=.lst M.length xs) ⟨l,us,rfl,by rw[upd_ne nla];exact e2 _ _ hl,if_pos rfl,(rs1.ex e2 I1.kd).gr ch.gc.gr I2.kd,ch.gc.gr.tb tb⟩
     exact k2 σ _ _ ((gr.trans (Gr.ex e2)).trans ch.gc.gr) (I2.chg ch w')
   ·exact False.elim k2
  ·exact False.elim k2
def Em(M:Mo)(f:Str)(d:Dat):Option (Nat×Inst×Nat×List Dat):=(jV M d).bind fun p=>match p.2.fs.lookup f with
 |some (.lst n xs)=>some (p.1,p.2,n,xs)
 |_=>none
theorem Us{K:aqf}{g:Gh}{H:Hp}{M:Mo}{d:Dat}{v:V}{h n:Nat}{i:Inst}{xs:List Dat}(co:jr K aj)(w:fV K aj g H M)(r:dZ K g H v d)(hi:Em M f d=some (h,i,n,xs)) :
  ∃a C dx fs l us,d=obj h/\M[h]?=some i/\i.cls≠""/\i.fs.lookup f=some (.lst n xs)/\g.tbl[h]?=some a/\v=.ref a/\aj i.cls=some C/\H a=some (.ins C dx fs)/\cI K aj g H h fs i.fs/\Cls K C/\NoAttr K C f/\f∈aj.fl i.cls/\fs.lookup f=some (.ref l)/\H l=some (.lst us)/\g.ow l=some (h,f)/\aJ K g H us xs/\g.tbl[n]?=some l:=by
 unfold Em at hi
 obtain⟨⟨h',i'⟩,h1,hi⟩:=aqe.mp hi
 split at hi
 ·next n' xs' hl=>
  cases hi
  obtain⟨rfl,m1,m2⟩:=IW h1
  obtain⟨a,rfl,ha⟩:=Kl r
  obtain⟨C,dx,fs,c1,c2,c3⟩:=w.ins _ a _ ha m1 m2
  have hfl:=w.fd _ _ m1 f (lookup_mem hl)
  obtain⟨k1,k2⟩:=co _ C f c1 hfl
  obtain⟨u,l1,l,us,rfl,l3,l4,l5,l6⟩:=c3.get hl
  exact⟨a,C,dx,fs,l,us,rfl,m1,m2,hl,ha,rfl,c1,c2,c3,k1,k2,hfl,l1,l3,l4,l5,l6⟩
 ·cases hi
theorem aa4{K:aqf}{σ:L2.St}{ρ:Env}{g:Gh}{H:Hp}{M:Mo}{h n:Nat}{i:Inst}{ys:List Dat}{a C dx l:Addr}{fs:List (Str×V)}{us':List V}(I:SInv K aj σ H g ρ M)(m1:M[h]?=some i)(m2:i.cls≠"")(ha:g.tbl[h]?=some a)(c1:aj i.cls=some C)(c2:H a=some (.ins C dx fs))(c3:cI K aj g H h fs i.fs)(hfl:f∈aj.fl i.cls)(l1:fs.lookup f=some (.ref l))(l4:g.ow l=some (h,f))(l6:g.tbl[n]?=some l)(rs:aJ K g H us' ys) :
  Gr false g g H (upd H l (.lst us'))/\SInv K aj σ (upd H l (.lst us')) g ρ (M.set h (i.put f (.lst n ys))):=by
 have ch:=adq (o':=.lst us') I.kd I.wok l4 trivial
 have nla:a≠l:=fun z=>by
  subst z
  rw[I.wok.tw h a i ha m1 m2]at l4
  cases l4
 have w':=I.wok.chg I.kd ch ha m1 m2 hfl c1 (dx:=dx) c3 (v:=.ref l) (fl:=.lst n ys) (by rw[upd_ne nla,JV l1];exact c2) ⟨l,us',rfl,upd_same,l4,rs.gr ch.gc.gr I.kd,l6⟩
 exact⟨ch.gc.gr,I.chg ch w'⟩
def Dh(f:Str)(o:QF)(e:GF):SF:=fun M ρ=>((o M ρ).at M).then ρ fun od M0=>match Em M0 f od with
 |some (_,_,n,_)=>(e M0 ρ).then ρ fun d M1=>match Em M1 f od with
  |some (h,i,n',xs)=>match n==n'&&decide (xs.length < 100000) with
   |true=>.next ρ (M1.set h (i.put f (.lst n (xs++[d]))))
   |false=>.bad
  |none=>.bad
 |none=>.bad
theorem agh{fe:GF}(co:jr X.K aj)(ho:QW aj X W o fo)(hb:baseOk o=true)(he:GE aj X W false e fe)(hs:nst e=true)(hl:(apos.endLine==pos.line)=true) :
  SE aj X W false (.Expr (.Call (.Attribute (.Attribute o f p1) "append" apos) [e] [] pos) epos) (Dh f fo fe):=by
 have h0:=pe_fld (X:=X) (pos:=p1) (f:=f) ho (mD hb)
 have h1:=pa_cons he pa_nil (cO hs [])
 have key:=pe_bm (X:=X) (cpos:=pos) (apos:=apos) PySem.F.plainAttrs_list PySem.F.slot_list_append PySem.F.type_list_append mt_append h0 h1 (mD rfl) (few (by simp[hs]) (by simp)) hl (cO hs []) (by with_unfolding_all rfl)
 refine PS.weak (ps_expr key (by with_unfolding_all rfl)) fun D σ H ⟨g,ρ,M,I,z⟩=>?_
 unfold Dh at z
 have k1:=Out.iZ (dw (σ:=σ) z)
 refine tW.go I (k1.mono (fun _ y=>y) fun x y H' c dd ex rx=>y H' _ c dd (Gr.ex ex) (I.ex ex) rx) fun od u H1 k2 e1 ru=>?_
 have I1:=I.ex e1
 split at k2
 ·next h0' i0 n xs0 hi=>
  obtain⟨a,C,dx,fs,l,us,rfl,m1,m2,ml,ha,rfl,c1,c2,c3,c4,c5,c6,l1,l3,l4,l5,l6⟩:=Us co I1.wok ru hi
  refine⟨a,C,dx,fs,.ref l,rfl,c2,c4,c5,l1,.inl ⟨rfl,us,sq_of l3⟩,?_⟩
  refine tE.go I1 ((dw (σ:=σ) k2).mono (fun _ _ y=>y) fun x M' y=>y.gr (Gr.ex e1)) fun d M1 v H2 g2 k3 r2 I2 rv=>?_
  split at k3
  ·next h i n' xs hi2=>
   split at k3
   ·next hg=>
    rw[aqg]at hg
    cases eq_of_beq hg.1
    have ru2:dZ X.K g2 H2 (.ref a) (obj h0'):=Rep.weak (.obj (r2.tb ha))
    obtain⟨a',C',dx',fs',l',us',eh,n1,n2,nl,hb',ea,d1,d2,d3,d4,d5,d6,p1,p3,p4,p5,p6⟩:=Us co I2.wok ru2 hi2
    cases ea
    have el:l'=l:=aqA (p6.symm.trans (r2.tb l6))
    subst el
    obtain⟨gr,I3⟩:=aa4 (us':=us'++[v]) (ys:=xs++[d]) I2 n1 n2 hb' d1 d2 d3 d6 p1 p4 p6 (p5.append (.cons rv .nil))
    refine⟨l',us',v,rfl,rfl,p3,sz_lt (by rw[p5.length];exact of_decide_eq_true hg.2),?_⟩
    exact k3 σ _ g2 (((Gr.ex e1).trans r2).trans gr) I3
   ·exact False.elim k3
  ·exact False.elim k3
 ·exact False.elim k2
def Qh(f:Str)(o fi e:QF):SF:=fun M ρ=>((e M ρ).at M).then ρ fun d _=>((o M ρ).at M).then ρ fun od _=>match Em M f od with
 |some (h,i,n,xs)=>((fi M ρ).at M).then ρ fun k _=>match k with
  |.int k=>match ixN xs.length k with
   |some j=>.next ρ (M.set h (i.put f (.lst n (xs.set j d))))
   |none=>.bad
  |_=>.bad
 |none=>.bad
theorem aha{i:Expr}{fi fe:QF}(co:jr X.K aj)(ho:QW aj X W o fo)(hb:baseOk o=true)(he:QE aj X W e fe)(hi:QE aj X W i fi)
  (ha:∀v,assign (.Subscript (.Attribute o f p1) i spos) X.env v=(do
   let ov ←holding [v] (eval (.Attribute o f p1) X.env)
   let iv ←holding [v,ov] (eval i X.env)
   standAt spos
   holding [v,ov,iv] (setItem ov iv v)
   release [v,ov,iv] []))
  (hs:swapsWithSole [.Subscript (.Attribute o f p1) i spos] e pos.line X.env=pure false) (h1:(assignEach [.Subscript (.Attribute o f p1) i spos] X.env).map (·.2)=[assign (.Subscript (.Attribute o f p1) i spos) X.env]):SE aj X W false (.Assign [.Subscript (.Attribute o f p1) i spos] e pos) (Qh f fo fi fe):=by
 have h0:=pe_fld (X:=X) (pos:=p1) (f:=f) ho (mD hb)
 refine PS.weak (ps_asg he (pg_sub h0 hi set_list ha) hs (by with_unfolding_all rfl) h1) fun D σ H ⟨g,ρ,M,I,z⟩=>?_
 unfold Qh at z
 have k1:=Out.iZ (dw (σ:=σ) z)
 refine tQ.go I (k1.mono (fun _ y=>y) fun x y H' c dd ex rx=>y H' _ c dd (Gr.ex ex) (I.ex ex) rx) fun d v H1 k2 e1 rv=>?_
 have I1:=I.ex e1
 have k2:=Out.iZ (dw (σ:=σ) k2)
 refine tW.go I1 (k2.mono (fun _ y=>y) fun x y H' c dd ex rx=>y H' _ c dd ((Gr.ex e1).trans (Gr.ex ex)) (I1.ex ex) rx) fun od u H2 k3 e2 ru=>?_
 have I2:=I1.ex e2
 have e12:=e1.trans e2
 split at k3
 ·next h i' n xs hl=>
  obtain⟨a,C,dx,fs,l,us,rfl,m1,m2,ml,ha',rfl,c1,c2,c3,c4,c5,c6,l1,l3,l4,l5,l6⟩:=Us co I2.wok ru hl
  refine⟨a,C,dx,fs,.ref l,rfl,c2,c4,c5,l1,?_⟩
  have k3:=Out.iZ (dw (σ:=σ) k3)
  refine tQ.go I2 (k3.mono (fun _ y=>y) fun x y H' c dd ex rx=>y H' _ c dd ((Gr.ex e12).trans (Gr.ex ex)) (I2.ex ex) rx) fun k w H3 k4 e3 rw'=>?_
  have I3:=I2.ex e3
  cases k with
  |int k=>
   simp only at k4
   split at k4
   ·next j hj=>
    cases rw'
    obtain⟨gr,I4⟩:=aa4 (us':=us.set j v) (ys:=xs.set j d) I3 m1 m2 ha' c1 (e3 _ _ c2) (c3.ex e3 I2.kd) c6 l1 l4 l6 (((l5.ex e3 I2.kd).set ((rv.ex e2 I1.kd).ex e3 I2.kd) j))
    refine⟨l,us,k,j,rfl,rfl,e3 _ _ l3,by rw[l5.length];exact hj,?_⟩
    exact k4 σ _ g ((Gr.ex (e12.trans e3)).trans gr) I4
   ·exact False.elim k4
  |_=>exact False.elim k4
 ·exact False.elim k3
def Pk(ft:Ft)(f:Str)(o e:QF):SF:=fun M ρ=>((o M ρ).at M).then ρ fun od _=>match jV M od with
 |some (h,i)=>match i.fs.lookup f,ft.has i.cls f&&decide (i.fs.length < 100) with
  |some (.dat (.int a)),true=>((e M ρ).at M).then ρ fun d _=>match d with
   |.int b=>.next ρ (M.set h (i.put f (.dat (.int (a+b)))))
   |_=>.bad
  |_,_=>.bad
 |none=>.bad
theorem afd:InOp X .Add (fun x y H Q=>∃i j,x=.int i/\y=.int j/\Q (.int (i+j)) H):=by
 intro pins s σ H x y u v Q I rx ry h
 obtain⟨i,j,rfl,rfl,q⟩:=h
 exact iop_add pins s σ H _ _ u v Q I rx ry ⟨i,j,rfl,rfl,q⟩
theorem ahA{fe:QF}{tpos:Pos}(co:jr X.K aj)(fk:Lf ft aj)(ho:QW aj X W o fo)(he:QE aj X W e fe):SE aj X W false (.AugAssign (.Attribute o f tpos) .Add e pos) (Pk ft f fo fe):=by
 refine PS.weak (ps_fldaug ho he afd) fun D σ H ⟨g,ρ,M,I,z⟩=>?_
 unfold Pk at z
 have k1:=Out.iZ (dw (σ:=σ) z)
 refine tW.go I (k1.mono (fun _ y=>y) fun x y H' c dd ex rx=>y H' _ c dd (Gr.ex ex) (I.ex ex) rx) fun od u H1 k2 e1 ru=>?_
 have I1:=I.ex e1
 split at k2
 ·next h i hi=>
  split at k2
  ·next b hlk hb=>
   rw[aqg]at hb
   obtain⟨a,C,dx,fs,_,m1,m2,ha,rfl,c1,c2,c3,c4,c5,c6⟩:=GJ co fk I1.wok ru hi hb.1
   obtain⟨v,l1,l2⟩:=c3.get hlk
   refine⟨a,C,dx,fs,v,rfl,c2,c4,c5,l1,?_⟩
   have k2:=Out.iZ (dw (σ:=σ) k2)
   refine tQ.go I1 (k2.mono (fun _ y=>y) fun x y H' c dd ex rx=>y H' _ c dd ((Gr.ex e1).trans (Gr.ex ex)) (I1.ex ex) rx) fun d w H2 k3 e2 rd=>?_
   have I2:=I1.ex e2
   cases d with
   |int j=>
    cases rd
    have l2:Rep X.K g H1 v (.int b):=l2
    cases l2
    refine⟨b,j,rfl,rfl,dx,fs,e2 _ _ c2,?_,?_⟩
    ·have:=of_decide_eq_true hb.2
     rw[c3.len]
     omega
    ·have ch:=Ub (f:=f) (C:=C) (dx:=dx) (fs':=putF f (.int (b+j)) fs) I2.kd I2.wok ha m1 m2
     have w':=I2.wok.chg I2.kd ch ha m1 m2 c6 c1 (c3.ex e2 I1.kd) upd_same (v:=.int (b+j)) (fl:=.dat (.int (b+j))) (show Rep X.K g _ _ _ from .int _)
     exact k3 σ _ g ((Gr.ex (e1.trans e2)).trans ch.gc.gr) (I2.chg ch w')
   |_=>exact False.elim k3
  ·exact False.elim k2
 ·exact False.elim k2
end
mutual
def sU:Dat->Option NestedKey
 |.none=>some .none
 |.int i=>some (.num i)
 |.str x=>some (.text x)
 |.tuple ds=>(wF ds).map .tup
 |.bool _=>none
 |.list _=>none
 |.dict _=>none
def wF:List Dat->Option (List NestedKey)
 |[]=>some []
 |d::ds=>(sU d).bind fun k=>(wF ds).bind fun ks=>some (k::ks)
end
mutual
theorem zY:∀{d:Dat} {k:NestedKey},sU d=some k->k.data=d
 |.none,_,h=>by cases h;rfl
 |.int i,_,h=>by cases h;rfl
 |.str x,_,h=>by cases h;rfl
 |.tuple ds,_,h=>by
  rw[sU,aqR]at h
  obtain⟨ks,h1,rfl⟩:=h
  rw[NestedKey.data,Rx h1]
theorem Rx:∀{ds:List Dat} {ks:List NestedKey},wF ds=some ks->NestedKey.datas ks=ds
 |[],_,h=>by cases h;rfl
 |d::ds,_,h=>by
  rw[wF]at h
  obtain⟨k,h1,h⟩:=aqe.mp h
  obtain⟨ks,h2,h⟩:=aqe.mp h
  cases h
  rw[NestedKey.datas,zY h1,Rx h2]
end
mutual
theorem aaU:∀a b:NestedKey,PyData.eqv a.data b.data=NestedKey.beq a b
 |.none,.none=>by simp[NestedKey.data,PyData.eqv,NestedKey.beq]
 |.none,.num _=>by simp[NestedKey.data,PyData.eqv,NestedKey.beq]
 |.none,.text _=>by simp[NestedKey.data,PyData.eqv,NestedKey.beq]
 |.none,.tup _=>by simp[NestedKey.data,PyData.eqv,NestedKey.beq]
 |.num _,.none=>by simp[NestedKey.data,PyData.eqv,NestedKey.beq]
 |.num a,.num b=>by simp[NestedKey.data,PyData.eqv,NestedKey.beq];rfl
 |.num _,.text _=>by simp[NestedKey.data,PyData.eqv,NestedKey.beq]
 |.num _,.tup _=>by simp[NestedKey.data,PyData.eqv,NestedKey.beq]
 |.text _,.none=>by simp[NestedKey.data,PyData.eqv,NestedKey.beq]
 |.text _,.num _=>by simp[NestedKey.data,PyData.eqv,NestedKey.beq]
 |.text a,.text b=>by simp[NestedKey.data,PyData.eqv,NestedKey.beq];rfl
 |.text _,.tup _=>by simp[NestedKey.data,PyData.eqv,NestedKey.beq]
 |.tup _,.none=>by simp[NestedKey.data,PyData.eqv,NestedKey.beq]
 |.tup _,.num _=>by simp[NestedKey.data,PyData.eqv,NestedKey.beq]
 |.tup _,.text _=>by simp[NestedKey.data,PyData.eqv,NestedKey.beq]
 |.tup as,.tup bs=>by
  rw[NestedKey.data,NestedKey.data,PyData.eqv,NestedKey.beq]
  exact Xy as bs
theorem Xy:∀as bs:List NestedKey,PyData.eqvAll (NestedKey.datas as) (NestedKey.datas bs)=NestedKey.beqAll as bs
 |[],[]=>by simp[NestedKey.datas,PyData.eqvAll,NestedKey.beqAll]
 |[],_::_=>by simp[NestedKey.datas,PyData.eqvAll,NestedKey.beqAll]
 |_::_,[]=>by simp[NestedKey.datas,PyData.eqvAll,NestedKey.beqAll]
 |a::as,b::bs=>by
  rw[NestedKey.datas,NestedKey.datas,PyData.eqvAll,NestedKey.beqAll,aaU a b,Xy as bs]
end
theorem aa2(a b:NestedKey):PyData.eqv a.data b.data=decide (a=b):=by rw[aaU,NestedKey.decide_eq]
section
variable{X:Cx}{pins:List (Addr×Obj)}{σ:L2.St}{H:Hp}{s:Shared}{g:Gh}
mutual
theorem key_is(I:L2.Inv X pins σ H s):∀{v:V} {d:Dat} {k:NestedKey} {u:Value},Rep X.K g H v d->sU d=some k->RelV v u->NestedIs s.heap k u
 |_,_,_,u,.non,e,r=>by
  cases e
  obtain rfl:u=.none:=r
  exact .none
 |_,_,_,_,.int i,e,r=>by
  cases e
  obtain⟨t,rfl⟩:=r
  exact .int i t
 |_,_,_,_,.str x,e,r=>by
  cases e
  obtain⟨t,rfl⟩:=r
  exact .text x t
 |_,_,_,u,.tup (a:=a) h t,e,r=>by
  rw[sU,aqR]at e
  obtain⟨ks,h1,rfl⟩:=e
  obtain rfl:u=.ref a:=r
  obtain⟨its,r1,⟨o,e1,c1,n,d1⟩,_⟩:=I.tuple h
  exact .tup e1 c1 d1 (by simpa using aaC I t h1 r1)
 |_,_,_,_,.bl b,e,r=>by cases e
 |_,_,_,_,.lst _ _,e,r=>by cases e
 |_,_,_,_,.obj _,e,r=>by cases e
theorem aaC(I:L2.Inv X pins σ H s):∀{vs:List V} {ds:List Dat} {ks:List NestedKey} {us:List Value},aJ X.K g H vs ds->wF ds=some ks->Vals vs us->NestedAll s.heap ks us
 |_,_,_,_,.nil,e,r=>by
  cases e
  cases r
  exact .nil
 |_,_,_,_,.cons h t,e,r=>by
  rw[wF]at e
  obtain⟨k,h1,e⟩:=aqe.mp e
  obtain⟨ks,h2,e⟩:=aqe.mp e
  cases e
  cases r with
  |cons r1 r2=>exact .cons (key_is I h h1 r1) (aaC I t h2 r2)
end
end
mutual
theorem aax:∀k:NestedKey,sU k.data=some k
 |.none=>rfl
 |.num _=>rfl
 |.text _=>rfl
 |.tup ks=>by rw[NestedKey.data,sU,YJ ks];rfl
theorem YJ:∀ks:List NestedKey,wF (NestedKey.datas ks)=some ks
 |[]=>rfl
 |k::ks=>by rw[NestedKey.datas,wF,aax k,YJ ks];rfl
end
def dhas:Bool->List (Dat×Dat)->Dat->Out Bool
 |false,kvs,.int i=>.ok (kvs.any fun p=>PyData.eqv p.1 (.int i))
 |true,kvs,.tuple ds=>match sU (.tuple ds) with
  |some k=>match decide (k.depth<=8) with
   |true=>.ok (kvs.any fun p=>PyData.eqv p.1 (.tuple ds))
   |false=>.bad
  |none=>.bad
 |_,_,_=>.bad
def yu(M:Mo)(f:Str)(d:Dat):Option (Nat×Inst×Bool×List (Dat×Dat)):=(jV M d).bind fun p=>match p.2.fs.lookup f with
 |some (.dic b kvs)=>some (p.1,p.2,b,kvs)
 |_=>none
section
variable{aj:aQ}{f:Str}
theorem Ew{K:aqf}{g:Gh}{H:Hp}{M:Mo}{d:Dat}{v:V}{h:Nat}{i:Inst}{b:Bool}{kvs:List (Dat×Dat)}(co:jr K aj)(w:fV K aj g H M)(r:dZ K g H v d)(hi:yu M f d=some (h,i,b,kvs)) :
  ∃a C dx fs l,d=obj h/\M[h]?=some i/\i.cls≠""/\i.fs.lookup f=some (.dic b kvs)/\g.tbl[h]?=some a/\v=.ref a/\aj i.cls=some C/\H a=some (.ins C dx fs)/\cI K aj g H h fs i.fs/\Cls K C/\NoAttr K C f/\f∈aj.fl i.cls/\fs.lookup f=some (.ref l)/\g.ow l=some (h,f)/\ju K aj g H l b kvs:=by
 unfold yu at hi
 obtain⟨⟨h',i'⟩,h1,hi⟩:=aqe.mp hi
 split at hi
 ·next b' kvs' hl=>
  cases hi
  obtain⟨rfl,m1,m2⟩:=IW h1
  obtain⟨a,rfl,ha⟩:=Kl r
  obtain⟨C,dx,fs,c1,c2,c3⟩:=w.ins _ a _ ha m1 m2
  have hfl:=w.fd _ _ m1 f (lookup_mem hl)
  obtain⟨k1,k2⟩:=co _ C f c1 hfl
  obtain⟨u,l1,l,rfl,l3,l4⟩:=c3.get hl
  exact⟨a,C,dx,fs,l,rfl,m1,m2,hl,ha,rfl,c1,c2,c3,k1,k2,hfl,l1,l3,l4⟩
 ·cases hi
end
theorem RL{kv:List (Key×V)}{i:Int}:∀{kvs:List (Dat×Dat)},kvs.map (·.1)=kv.map (fun p=>keyD p.1)->(kvs.any fun p=>PyData.eqv p.1 (.int i))=(valV kv (Sum.inl i)).isSome:=by
 induction kv with
 |nil=>
  intro kvs e
  cases kvs with
  |nil=>rfl
  |cons _ _=>cases e
 |cons p r ih=>
  intro kvs e
  cases kvs with
  |nil=>cases e
  |cons q t=>
   simp only[aqj,List.cons.injEq]at e
   rw[aq9,ih e.2,e.1]
   by_cases h:p.1=Sum.inl i
   ·rw[valV_pos h,h]
    simp[keyD,PyData.eqv]
   ·rw[valV_neg h]
    have:PyData.eqv (keyD p.1) (.int i)=false:=by
     cases hp:p.1 with
     |inl j=>
      have:j≠i:=fun z=>h (by rw[hp,z])
      simp[keyD,PyData.eqv,this]
     |inr x=>simp[keyD,PyData.eqv]
    rw[this,Bool.false_or]
theorem HS{xs:List mV}{k:NestedKey}:∀{kvs:List (Dat×Dat)},kvs.map (·.1)=xs.map (fun x=>x.1.data)->(kvs.any fun p=>PyData.eqv p.1 k.data)=(atKey xs k).isSome:=by
 induction xs with
 |nil=>
  intro kvs e
  cases kvs with
  |nil=>rfl
  |cons _ _=>cases e
 |cons p r ih=>
  intro kvs e
  cases kvs with
  |nil=>cases e
  |cons q t=>
   simp only[aqj,List.cons.injEq]at e
   rw[aq9,ih e.2,e.1,aa2]
   unfold atKey
   rw[List.find?_cons]
   cases hd:decide (p.1=k) with
   |true=>rfl
   |false=>rfl
theorem Gi{X:Cx}{pins:List (Addr×Obj)}{σ:L2.St}{H:Hp}{s:Shared}{g:Gh}{l:Addr}{o:Obj}{xs:List mV}{ks:List Dat}(I:L2.Inv X pins σ H s)(h1:H l=some (iI l o))(h2:lA X.w l o xs)(h3:ks=xs.map fun x=>x.1.data)(h4:aJ X.K g H (xs.map fun x=>V.ref x.2.1) ks) :
  s.heap.DictOfH (nestedKind X.prog X.w) l xs:=by
 obtain⟨z1,_,_⟩:=(show ObjOk X.prog X.w H s.heap l (iI l o) from I.hok l _ h1)
 obtain⟨es,ep,e1,e2⟩:=h2.ent
 refine⟨o,es,ep,z1,h2.ex,e1,e2,fun x hx=>?_,h2.nd⟩
 refine⟨?_,h2.dep x hx⟩
 obtain⟨n,hn⟩:=List.mem_iff_getElem?.mp hx
 obtain⟨d,hd1,hd2⟩:=h4.get' (i:=n) (v:=V.ref x.2.1) (by rw[aqs,hn];rfl)
 rw[h3,aqs,hn]at hd1
 cases hd1
 exact key_is I hd2 (aax x.1) rfl
def rInD(X:Cx)(neg:Bool):R2:=fun x y H Q=>(∃l kv i,y=.ref l/\H l=some (.dK kv)/\x=.int i/\Q (.bl (neg ^^ (valV kv (Sum.inl i)).isSome)) H)∨
 ∃(l:Addr) (o:Obj) (xs:List mV) (g:Gh) (d:Dat) (b:Addr) (k:NestedKey),y=.ref l/\H l=some (iI l o)/\lA X.w l o xs/\aJ X.K g H (xs.map fun x=>V.ref x.2.1) (xs.map fun x=>x.1.data)/\x=.ref b/\Rep X.K g H x d/\sU d=some k/\k.depth<=8/\Q (.bl (neg ^^ (atKey xs k).isSome)) H
section
variable{X:Cx}
theorem op_inD(hu:X.A.units+64 < cLine):OpR X (compareOp .In) (rInD X false):=by
 intro pins s σ H x y v u Q I rx ry h
 rcases h with⟨l,kv,i,rfl,hl,rfl,q⟩|⟨l,o,xs,g,d,b,k,rfl,h1,h2,h3,rfl,h4,h5,h6,q⟩
 ·obtain rfl:u=Value.ref l:=ry
  exact d_in (by omega) I (DGet.k (k:=Sum.inl i) hl) rx fun s' I'=>⟨.bl _,H,I',rfl,by simpa using q⟩
 ·obtain rfl:u=Value.ref l:=ry
  obtain rfl:v=Value.ref b:=rx
  refine wpAny_in_heap (knd:=nestedKind X.prog X.w) (k:=k) (show X.A.in1.units+8 < cLine by show X.A.units+1+8 < cLine;omega) ⟨key_is I h4 h5 rfl,h6⟩ h2.sys (Gi I h1 h2 rfl h3) ?_
  exact⟨.bl _,H,I.tok _,rfl,by simpa using q⟩
theorem op_notInD(hu:X.A.units+64 < cLine):OpR X (compareOp .NotIn) (rInD X true):=by
 intro pins s σ H x y v u Q I rx ry h
 rcases h with⟨l,kv,i,rfl,hl,rfl,q⟩|⟨l,o,xs,g,d,b,k,rfl,h1,h2,h3,rfl,h4,h5,h6,q⟩
 ·obtain rfl:u=Value.ref l:=ry
  exact d_notIn (by omega) I (DGet.k (k:=Sum.inl i) hl) rx fun s' I'=>⟨.bl _,H,I',rfl,by simpa using q⟩
 ·obtain rfl:u=Value.ref l:=ry
  obtain rfl:v=Value.ref b:=rx
  refine notIn_keyed (knd:=nestedKind X.prog X.w) (k:=k) (show X.A.in1.units+8 < cLine by show X.A.units+1+8 < cLine;omega) ⟨key_is I h4 h5 rfl,h6⟩ h2.sys ⟨xs,Gi I h1 h2 rfl h3,rfl⟩ ?_
  rw[valueAt_pairsH,Option.isSome_map]
  exact⟨.bl _,H,I.tok _,rfl,by simpa using q⟩
end
def NP(neg:Bool)(f:Str)(k o:QF):QF:=fun M ρ=>(k M ρ).bind fun d=>(o M ρ).bind fun od=>match yu M f od with
 |some (_,_,b,kvs)=>(dhas b kvs d).bind fun r=>.ok (.bool (neg ^^ r))
 |none=>.bad
section
variable{X:Cx}{aj:aQ}{W:WX}{o k:Expr}{f:Str}{pos p1:Pos}{fo fk:QF}{neg:Bool}{op:CmpOp}
theorem afK(co:jr X.K aj)(hw:aj.w=X.w)(σ:L2.St)(H:Hp)(Q:VK)(h:tQ X.K aj W (NP neg f fk fo) σ H Q):tOp (rInD X neg) (tQ X.K aj W fk) (tFld X.K (tW X.K aj W fo) f) σ H Q:=by
 obtain⟨g,ρ,M,I,h⟩:=h
 refine tQ.go I h.bnd fun d v H1 h1 e1 r1=>?_
 have I1:=I.ex e1
 refine tW.go I1 (h1.bnd.mono (fun _ z=>z) fun _ z=>z.ex e1) fun od u H2 h2 e2 r2=>?_
 have I2:=I1.ex e2
 split at h2
 ·next hh i b kvs hd=>
  obtain⟨a,C,dx,fs,l,rfl,m1,m2,ml,ha,rfl,c1,c2,c3,c4,c5,c6,l1,l2,l3⟩:=Ew co I2.wok r2 hd
  refine⟨a,C,dx,fs,.ref l,rfl,c2,c4,c5,l1,?_⟩
  have r1':=r1.ex e2 I1.kd
  unfold dhas at h2
  split at h2
  ·next i'=>
   obtain⟨kv,k1,k2,k3⟩:=l3
   cases r1'
   refine .inl ⟨l,kv,i',rfl,k1,rfl,?_⟩
   rw[RL k2]at h2
   exact h2 _ H2 (e1.trans e2) (.bl _)
  ·next ds=>
   split at h2
   ·next kk hk=>
    split at h2
    ·next hdep=>
     obtain⟨o',xs,vs,k1,k2,k3,k4,k5,k6⟩:=l3
     have ek:=zY hk
     rw[←ek,HS k3]at h2
     rw[k3]at k4
     rw[hw]at k2
     cases r1' with
     | @tup b us _ hs ht=>exact .inr ⟨l,o',xs,g,_,b,kk,rfl,k1,k2,k4,rfl,.tup hs ht,hk,of_decide_eq_true hdep,h2 _ H2 (e1.trans e2) (.bl _)⟩
    ·exact False.elim h2
   ·exact False.elim h2
  ·exact False.elim h2
 ·exact False.elim h2
theorem ajP(co:jr X.K aj)(hw:aj.w=X.w)(hr:OpR X (compareOp op) (rInD X neg))(hk:QE aj X W k fk)(ho:QW aj X W o fo)(hb:baseOk o=true):QE aj X W (.Compare k [op] [.Attribute o f p1] pos) (NP neg f fk fo):=
 PE.weak (pe_cmpR hr hk (pe_fld ho (mD hb)) (by cases op <;> rfl)) fun σ H Q h=>afK co hw σ H Q h
end
def DPx(X:Cx)(H:Hp)(a:Addr)(y v:V)(R:Hp->Prop):Prop:=(∃kvs i,H a=some (.dK kvs)/\y=.int i/\kvs.length < sizeLine/\R (upd H a (.dK (putK kvs (Sum.inl i) v))))∨
 ∃(o:Obj) (xs:List mV) (g:Gh) (d:Dat) (b:Addr) (k:NestedKey),H a=some (iI a o)/\lA X.w a o xs/\aJ X.K g H (xs.map fun x=>V.ref x.2.1) (xs.map fun x=>x.1.data)/\y=.ref b/\Rep X.K g H y d/\sU d=some k/\k.depth<=8/\xs.length < sizeLine/\∀(o':Obj) (u:Value),RelV v u->lA X.w a o' (storedH xs k b u)->R (upd H a (iI a o'))
theorem KZ{P:Program}{w:World}{H:Hp}{h:Heap}{l:Addr}{o:Obj}(e:h.get? l=some o):ObjOk P w H h l (iI l o):=⟨e,⟨o,e⟩,fun _ _ e1 k=>k _ e1⟩
theorem ZL{xs:List mV}{k:NestedKey}{b:Addr}{u:Value}:(storedH xs k b u).map (·.1)=if (atKey xs k).isSome then xs.map (·.1) else xs.map (·.1)++[k]:=by
 unfold storedH
 split
 ·rw[aqK]
  refine List.map_congr_left fun x _=>?_
  show(putAt k u x).1=x.1
  unfold putAt
  split <;> rfl
 ·simp
theorem Rz{xs:List mV}{k:NestedKey}{b:Addr}{u:Value}:(storedH xs k b u).length<=xs.length+1:=by
 unfold storedH
 split <;> simp
theorem RD{xs:List mV}{k:NestedKey}{b:Addr}{u:Value}(h:∀x∈xs,x.1.depth<=8)(hk:k.depth<=8):∀x∈storedH xs k b u,x.1.depth<=8:=fun x hx=>by
 have:x.1∈(storedH xs k b u).map (·.1):=aqt.mpr ⟨x,hx,rfl⟩
 rw[ZL]at this
 have old:∀{z:NestedKey},z∈xs.map (·.1)->z.depth<=8:=fun {z} m=>by
  obtain⟨y,hy,rfl⟩:=aqt.mp m
  exact h y hy
 split at this
 ·exact old this
 ·rcases aqp.mp this with z|z
  ·exact old z
  ·rw[aqm.mp z]
   exact hk
section
variable{X:Cx}{o i value:Expr}{td ty tv:TE}{pos pos':Pos}
def alW(X:Cx)(td ty tv:TE):TS:=fun D σ H=>tv σ H fun v H1=>td σ H1 fun x H2=>ty σ H2 fun y H3=>∃a,x=.ref a/\DPx X H3 a y v fun H4=>D.nx σ H4
theorem afa(hu:X.A.units+64 < cLine)(ho:PE X o td)(hi:PE X i ty)(hv:PE X value tv)(hs:swapsWith value (some (.Subscript o i pos')) pos.line X.env=pure false):PS X (.Assign [.Subscript o i pos'] value pos) (alW X td ty tv):=by
 refine⟨fun pins s σ H D I h=>?_⟩
 refine wpAny_Assign_Subscript (thn (hv.run pins s σ H _ I h) fun r s1 ⟨v,H1,I1,rv,q1⟩=>thn (ho.run pins s1 σ H1 _ I1 q1) fun u s2 ⟨x,H2,I2,rx,q2⟩=>thn (hi.run pins s2 σ H2 _ I2 q2) fun iv s3 ⟨y,H3,I3,ry,a,ex,q3⟩=>?_) hs
 subst ex
 obtain rfl:u=Value.ref a:=rx
 rcases q3 with⟨kvs,j,h1,rfl,hl,q⟩|⟨ob,xs,g,d,b,k,h1,h2,h3,rfl,h4,h5,h6,hl,q⟩
 ·exact d_setItem (by omega) I3 (DPut.k (k:=Sum.inl j) h1 hl) ry rv fun s4 I4=>⟨σ,_,I4,q⟩
 ·obtain rfl:iv=Value.ref b:=ry
  refine wpAny_setItem_heap (knd:=nestedKind X.prog X.w) (k:=k) (hsz:=Nat.le_of_lt hl) (show X.A.in1.units+8 < cLine by show X.A.units+1+8 < cLine;omega) ⟨key_is I3 h4 h5 rfl,h6⟩ (Gi I3 h1 h2 rfl h3) fun h' dd hs'=>?_
  obtain⟨o',es,ep,g1,g2,g3,g4,g5,g6⟩:=dd
  have nd:lA X.w a o' (storedH xs k b r):=⟨h2.sys,g2,⟨es,ep,g3,g4⟩,g6,by have:=Rz (xs:=xs) (k:=k) (b:=b) (u:=r);omega,RD h2.dep h6⟩
  exact⟨σ,_,d_write I3 (by rw[h1];exact True.intro) hs' ⟨o',g1⟩ (KZ g1),q o' r rv nd⟩
end
theorem aJ.back{K:aqf}{g:Gh}{H:Hp}{vs:List V}{ds:List Dat}{v:V}{d:Dat}(h:aJ K g H vs ds)(r:Rep K g H v d):aJ K g H (vs++[v]) (ds++[d]):=h.append (.cons r .nil)
theorem Mw{K:aqf}{aj:aQ}{f:Str}{σ:L2.St}{ρ:Env}{g:Gh}{H:Hp}{M:Mo}{h:Nat}{i:Inst}{b:Bool}{kvs':List (Dat×Dat)}{a C dx l:Addr}{fs:List (Str×V)}{o':HO}(I:SInv K aj σ H g ρ M)(m1:M[h]?=some i)(m2:i.cls≠"")(ha:g.tbl[h]?=some a)(c1:aj i.cls=some C)(c2:H a=some (.ins C dx fs))(c3:cI K aj g H h fs i.fs)(hfl:f∈aj.fl i.cls)(l1:fs.lookup f=some (.ref l))(l4:g.ow l=some (h,f))(mu:Jd o')
  (new:Gr false g g H (upd H l o')->ju K aj g (upd H l o') l b kvs'):Gr false g g H (upd H l o')/\SInv K aj σ (upd H l o') g ρ (M.set h (i.put f (.dic b kvs'))):=by
 have ch:=adq (o':=o') I.kd I.wok l4 mu
 have nla:a≠l:=fun z=>by
  subst z
  rw[I.wok.tw h a i ha m1 m2]at l4
  cases l4
 have w':=I.wok.chg I.kd ch ha m1 m2 hfl c1 (dx:=dx) c3 (v:=.ref l) (fl:=.dic b kvs') (by rw[upd_ne nla,JV l1];exact c2) ⟨l,rfl,l4,new ch.gc.gr⟩
 exact⟨ch.gc.gr,I.chg ch w'⟩
def Mf(f:Str)(o k e:QF):SF:=fun M ρ=>((e M ρ).at M).then ρ fun v _=>((o M ρ).at M).then ρ fun od _=>match yu M f od with
 |some (h,i,b,kvs)=>((k M ρ).at M).then ρ fun d _=>match dhas b kvs d,decide (kvs.length < 100000) with
  |.ok false,true=>.next ρ (M.set h (i.put f (.dic b (kvs++[(d,v)]))))
  |_,_=>.bad
 |none=>.bad
def Mr(f:Str)(o k:QF):SF:=fun M ρ=>((o M ρ).at M).then ρ fun od _=>match yu M f od with
 |some (h,i,b,kvs)=>((k M ρ).at M).then ρ fun d _=>match dhas b kvs d,decide (kvs.length<=100000) with
  |.ok true,true=>.next ρ (M.set h (i.put f (.dic b (kvs.filter fun p=>!PyData.eqv p.1 d))))
  |_,_=>.bad
 |none=>.bad
theorem Uc{kvs:List (Dat×Dat)}{b r:Bool}{d:Dat}(h:dhas b kvs d=.ok r):(kvs.any fun p=>PyData.eqv p.1 d)=r/\((b=false/\∃i,d=.int i)∨(b=true/\∃ds k,d=.tuple ds/\sU d=some k/\k.depth<=8)):=by
 unfold dhas at h
 split at h
 ·next i=>
  cases h
  exact⟨rfl,.inl ⟨rfl,i,rfl⟩⟩
 ·next ds=>
  split at h
  ·next k hk=>
   split at h
   ·next hd=>
    cases h
    exact⟨rfl,.inr ⟨rfl,ds,k,rfl,hk,of_decide_eq_true hd⟩⟩
   ·cases h
  ·cases h
 ·cases h
section
variable{X:Cx}{aj:aQ}{W:WX}{o e i:Expr}{f:Str}{pos pos' p1:Pos}{fo fe fk:QF}
theorem af7(co:jr X.K aj)(hw:aj.w=X.w)(hu:X.A.units+64 < cLine)(ho:QW aj X W o fo)(hb:baseOk o=true)(hk:QE aj X W i fk)(he:QE aj X W e fe)(hs:swapsWith e (some (.Subscript (.Attribute o f p1) i pos')) pos.line X.env=pure false) :
  SE aj X W false (.Assign [.Subscript (.Attribute o f p1) i pos'] e pos) (Mf f fo fk fe):=by
 refine PS.weak (afa hu (pe_fld ho (mD hb)) hk he hs) fun D σ H ⟨g,ρ,M,I,z⟩=>?_
 unfold Mf at z
 have k1:=Out.iZ (dw (σ:=σ) z)
 refine tQ.go I (k1.mono (fun _ y=>y) fun x y H' c dd ex rx=>y H' _ c dd (Gr.ex ex) (I.ex ex) rx) fun d v H1 k2 e1 rv=>?_
 have I1:=I.ex e1
 have k2:=Out.iZ (dw (σ:=σ) k2)
 refine tW.go I1 (k2.mono (fun _ y=>y) fun x y H' c dd ex rx=>y H' _ c dd ((Gr.ex e1).trans (Gr.ex ex)) (I1.ex ex) rx) fun od u H2 k3 e2 ru=>?_
 have I2:=I1.ex e2
 have e12:=e1.trans e2
 split at k3
 ·next h i' b kvs hl=>
  obtain⟨a,C,dx,fs,l,rfl,m1,m2,ml,ha,rfl,c1,c2,c3,c4,c5,c6,l1,l2,l3⟩:=Ew co I2.wok ru hl
  refine⟨a,C,dx,fs,.ref l,rfl,c2,c4,c5,l1,?_⟩
  have k3:=Out.iZ (dw (σ:=σ) k3)
  refine tQ.go I2 (k3.mono (fun _ y=>y) fun x y H' c dd ex rx=>y H' _ c dd ((Gr.ex e12).trans (Gr.ex ex)) (I2.ex ex) rx) fun kd w H3 k4 e3 rk=>?_
  have I3:=I2.ex e3
  have l3':=l3.ex e3 I2.kd
  have rv3:=(rv.ex e2 I1.kd).ex e3 I2.kd
  refine⟨l,rfl,?_⟩
  split at k4
  ·next hh hz=>
   obtain⟨ha2,hcase⟩:=Uc hh
   have hz:=of_decide_eq_true hz
   rcases hcase with⟨rfl,j,rfl⟩|⟨rfl,ds,kk,rfl,hkk,hdep⟩
   ·obtain⟨kv,q1,q2,q3⟩:=l3'
    cases rk
    have hlen:kv.length=kvs.length:=by
     have:=congrArg List.length q2
     simpa using this.symm
    rw[RL q2]at ha2
    have hn:valV kv (Sum.inl j)=none:=by
     cases hv:valV kv (Sum.inl j) with
     |none=>rfl
     |some _=>rw[hv]at ha2;cases ha2
    refine .inl ⟨kv,j,q1,rfl,sz_lt (by rw[hlen];exact hz),?_⟩
    rw[putK_new v hn]
    obtain⟨gr,I4⟩:=Mw (b:=false) (kvs':=kvs++[(.int j,d)]) (o':=.dK (kv++[(Sum.inl j,v)])) I3 m1 m2 ha c1 (e3 _ _ c2) (c3.ex e3 I2.kd) c6 l1 l2 trivial fun gr=>⟨_,upd_same,by simp[q2,keyD],by
     rw[List.map_append,List.map_append]
     exact(q3.gr gr I3.kd).back (rv3.gr gr I3.kd)⟩
    exact k4 σ _ g ((Gr.ex (e12.trans e3)).trans gr) I4
   ·obtain⟨o',xs,vs,q1,q2,q3,q4,q5,q6⟩:=l3'
    have hlen:xs.length=kvs.length:=by
     have:=congrArg List.length q3
     simpa using this.symm
    have ek:=zY hkk
    rw[←ek,HS q3]at ha2
    have hn:atKey xs kk=none:=by
     cases hv:atKey xs kk with
     |none=>rfl
     |some _=>rw[hv]at ha2;cases ha2
    have q4':=q4
    rw[q3]at q4'
    rw[hw]at q2
    cases rk with
    | @tup bb us _ hs' ht=>
     refine .inr ⟨o',xs,g,_,bb,kk,q1,q2,q4',rfl,.tup hs' ht,hkk,hdep,sz_lt (by rw[hlen];exact hz),fun o2 u2 ru2 nd=>?_⟩
     rw[storedH_new hn]at nd
     obtain⟨gr,I4⟩:=Mw (b:=true) (kvs':=kvs++[(.tuple ds,d)]) (o':=iI l o2) I3 m1 m2 ha c1 (e3 _ _ c2) (c3.ex e3 I2.kd) c6 l1 l2 trivial fun gr=>⟨o2,xs++[(kk,bb,u2)],vs++[v],upd_same,by rw[hw];exact nd,by simp[q3,ek],by
      rw[List.map_append,List.map_append]
      exact(q4.gr gr I3.kd).back ((Rep.tup hs' ht).gr gr I3.kd),by
      rw[List.map_append]
      exact q5.append (.cons ru2 .nil),by
      rw[List.map_append]
      exact(q6.gr gr I3.kd).back (rv3.gr gr I3.kd)⟩
     exact k4 σ _ g ((Gr.ex (e12.trans e3)).trans gr) I4
  ·exact False.elim k4
 ·exact False.elim k3
end
section
variable{X:Cx}{o i:Expr}{td ty:TE}{pos tpos:Pos}
def amA(X:Cx)(td ty:TE):TS:=fun D σ H=>td σ H fun x H2=>ty σ H2 fun y H3=>∃a,x=.ref a/\((∃kvs i,H3 a=some (.dK kvs)/\y=.int i/\(valV kvs (Sum.inl i)).isSome=true/\D.nx σ (upd H3 a (.dK (dropK kvs (Sum.inl i)))))∨
 ∃(o:Obj) (xs:List mV) (g:Gh) (d:Dat) (b:Addr) (k:NestedKey),H3 a=some (iI a o)/\lA X.w a o xs/\aJ X.K g H3 (xs.map fun x=>V.ref x.2.1) (xs.map fun x=>x.1.data)/\y=.ref b/\Rep X.K g H3 y d/\sU d=some k/\k.depth<=8/\(atKey xs k).isSome=true/\∀(o':Obj),lA X.w a o' (withoutH xs k)->D.nx σ (upd H3 a (iI a o')))
theorem aes(hu:X.A.units+64 < cLine)(ho:PE X o td)(hi:PE X i ty):PS X (.Delete [.Subscript o i tpos] pos) (amA X td ty):=by
 refine⟨fun pins s σ H D I h=>?_⟩
 refine wpAny_Delete (wpAny_deleteEach_cons (wpAny_delete_Subscript (thn (ho.run pins s σ H _ I h) fun u s1 ⟨x,H1,I1,rx,q1⟩=>thn (hi.run pins s1 σ H1 _ I1 q1) fun iv s2 ⟨y,H2,I2,ry,a,ex,q2⟩=>?_)))
 subst ex
 obtain rfl:u=Value.ref a:=rx
 rcases q2 with⟨kvs,j,h1,rfl,hl,q⟩|⟨ob,xs,g,d,b,k,h1,h2,h3,rfl,h4,h5,h6,hl,q⟩
 ·exact d_delItem (k:=Sum.inl j) I2 h1 ry hl fun s3 I3=>wpAny_deleteEach_nil ⟨σ,_,I3,q⟩
 ·obtain rfl:iv=Value.ref b:=ry
  obtain⟨p,hp⟩:=Option.isSome_iff_exists.mp hl
  refine wpAny_delItem_heap (knd:=nestedKind X.prog X.w) (k:=k) (hsz:=h2.len) (show X.A.in1.units+8 < cLine by show X.A.units+1+8 < cLine;omega) ⟨key_is I2 h4 h5 rfl,h6⟩ h2.sys (Gi I2 h1 h2 rfl h3) hp fun h' dd hs'=>?_
  obtain⟨o',es,ep,g1,g2,g3,g4,g5,g6⟩:=dd
  have nd:lA X.w a o' (withoutH xs k):=⟨h2.sys,g2,⟨es,ep,g3,g4⟩,g6,aqH (aqw _ _) h2.len,fun x hx=>h2.dep x (aqC.mp hx).1⟩
  exact wpAny_deleteEach_nil ⟨σ,_,d_write I2 (by rw[h1];exact True.intro) hs' ⟨o',g1⟩ (KZ g1),q o' nd⟩
end
theorem Nu{α β:Type}(f:α->β)(c:α->Bool):∀l:List α,(((l.map f).zip l).filter fun p=>c p.2).map (·.1)=(l.filter c).map f
 |[]=>rfl
 |a::l=>by
  rw[aqj,aq6,aqU,aqU]
  cases c a
  ·exact Nu f c l
  ·simp only[if_true,aqj,Nu f c l]
theorem afH{K:aqf}{g:Gh}{H:Hp}(kk:NestedKey):∀{xs:List mV} {vs:List V} {kvs:List (Dat×Dat)},kvs.map (·.1)=xs.map (fun x=>x.1.data)->aJ K g H (xs.map fun x=>V.ref x.2.1) (kvs.map (·.1))->Vals vs (xs.map (·.2.2))->aJ K g H vs (kvs.map (·.2))->
  ∃vs',(kvs.filter fun p=>!PyData.eqv p.1 kk.data).map (·.1)=(withoutH xs kk).map (fun x=>x.1.data)/\aJ K g H ((withoutH xs kk).map fun x=>V.ref x.2.1) ((kvs.filter fun p=>!PyData.eqv p.1 kk.data).map (·.1))/\Vals vs' ((withoutH xs kk).map (·.2.2))/\aJ K g H vs' ((kvs.filter fun p=>!PyData.eqv p.1 kk.data).map (·.2))
 |[],_,[],_,_,.nil,_=>⟨[],rfl,.nil,.nil,.nil⟩
 |[],_,_::_,h,_,_,_=>by cases h
 |_::_,_,[],h,_,_,_=>by cases h
 |x::xs,_,q::qs,h1,.cons r1 t1,.cons w1 w2,.cons r2 t2=>by
  simp only[aqj,List.cons.injEq]at h1
  obtain⟨vs',i1,i2,i3,i4⟩:=afH kk h1.2 t1 w2 t2
  have hq:(!PyData.eqv q.1 kk.data)=decide (x.1≠kk):=by
   rw[h1.1,aa2]
   by_cases hz:x.1=kk <;> simp[hz]
  unfold withoutH
  rw[aqU,aqU,hq]
  cases hb:decide (x.1≠kk) with
  |true=>exact⟨_::vs',by simp only[if_true,aqj,h1.1];exact congrArg _ i1,by simp only[if_true,aqj];exact .cons r1 i2,by simp only[if_true,aqj];exact .cons w1 i3,by simp only[if_true,aqj];exact .cons r2 i4⟩
  |false=>
   simp only[aqM,if_false]
   exact⟨vs',i1,i2,i3,i4⟩
theorem ahQ{K:aqf}{g:Gh}{H:Hp}{α:Type}(c:α->Bool)(key:α->Dat)(dd:Dat->Bool):∀{vs:List V} {kvs:List (Dat×Dat)} {xs:List α},(∀x∈xs,c x=dd (key x))->kvs.map (·.1)=xs.map key->vs.length=xs.length->aJ K g H vs (kvs.map (·.2))->
  (kvs.filter fun p=>dd p.1).map (·.1)=(xs.filter c).map key/\aJ K g H (((vs.zip xs).filter fun p=>c p.2).map (·.1)) ((kvs.filter fun p=>dd p.1).map (·.2))
 |[],[],[],_,_,_,_=>⟨rfl,.nil⟩
 |[],[],_::_,_,h,_,_=>by cases h
 |[],_::_,_,_,_,_,h=>by cases h
 |_::_,[],_,_,_,_,h=>by cases h
 |_::_,_::_,[],_,h,_,_=>by cases h
 |u::us,q::qs,x::xs,hc,hk,hl,.cons h t=>by
  simp only[aqj,List.cons.injEq]at hk
  have hq:=hc x aql
  rw[←hk.1]at hq
  obtain⟨i1,i2⟩:=ahQ c key dd (fun y hy=>hc y (aqk _ hy)) hk.2 (aro hl) t
  rw[aq6,aqU,aqU,aqU,hq]
  cases hb:dd q.1 with
  |true=>exact⟨by simp only[if_true,aqj,i1,hk.1],by simp only[if_true,aqj];exact .cons h i2⟩
  |false=>exact⟨by simpa using i1,by simpa using i2⟩
section
variable{X:Cx}{aj:aQ}{W:WX}{o i:Expr}{f:Str}{pos tpos p1:Pos}{fo fk:QF}
theorem agg(co:jr X.K aj)(hw:aj.w=X.w)(hu:X.A.units+64 < cLine)(ho:QW aj X W o fo)(hb:baseOk o=true)(hk:QE aj X W i fk):SE aj X W false (.Delete [.Subscript (.Attribute o f p1) i tpos] pos) (Mr f fo fk):=by
 refine PS.weak (aes hu (pe_fld ho (mD hb)) hk) fun D σ H ⟨g,ρ,M,I,z⟩=>?_
 unfold Mr at z
 have k2:=Out.iZ (dw (σ:=σ) z)
 refine tW.go I (k2.mono (fun _ y=>y) fun x y H' c dd ex rx=>y H' _ c dd (Gr.ex ex) (I.ex ex) rx) fun od u H2 k3 e2 ru=>?_
 have I2:=I.ex e2
 split at k3
 ·next h i' b kvs hl=>
  obtain⟨a,C,dx,fs,l,rfl,m1,m2,ml,ha,rfl,c1,c2,c3,c4,c5,c6,l1,l2,l3⟩:=Ew co I2.wok ru hl
  refine⟨a,C,dx,fs,.ref l,rfl,c2,c4,c5,l1,?_⟩
  have k3:=Out.iZ (dw (σ:=σ) k3)
  refine tQ.go I2 (k3.mono (fun _ y=>y) fun x y H' c dd ex rx=>y H' _ c dd ((Gr.ex e2).trans (Gr.ex ex)) (I2.ex ex) rx) fun kd w H3 k4 e3 rk=>?_
  have I3:=I2.ex e3
  have l3':=l3.ex e3 I2.kd
  refine⟨l,rfl,?_⟩
  split at k4
  ·next hh hz=>
   obtain⟨ha2,hcase⟩:=Uc hh
   rcases hcase with⟨rfl,j,rfl⟩|⟨rfl,ds,kk,rfl,hkk,hdep⟩
   ·obtain⟨kv,q1,q2,q3⟩:=l3'
    cases rk
    rw[RL q2]at ha2
    refine .inl ⟨kv,j,q1,rfl,ha2,?_⟩
    have hf:=fun(H':Hp)(r:aJ X.K g H' (kv.map (·.2)) (kvs.map (·.2)))=>ahQ (K:=X.K) (g:=g) (H:=H') (fun p:Key×V=>decide (p.1≠Sum.inl j)) (fun p=>keyD p.1) (fun z=>!PyData.eqv z (.int j)) (vs:=kv.map (·.2)) (kvs:=kvs) (xs:=kv) (fun x _=>by
     cases hx:x.1 with
     |inl z=>by_cases hz:z=j <;> simp[keyD,PyData.eqv,hz]
     |inr z=>simp[keyD,PyData.eqv]) q2 (by simp) r
    have ez:(((kv.map (·.2)).zip kv).filter fun p=>decide (p.2.1≠Sum.inl j)).map (·.1)=(dropK kv (Sum.inl j)).map (·.2):=Nu (·.2) (fun p:Key×V=>decide (p.1≠Sum.inl j)) kv
    obtain⟨gr,I4⟩:=Mw (b:=false) (kvs':=kvs.filter fun p=>!PyData.eqv p.1 (.int j)) (o':=.dK (dropK kv (Sum.inl j))) I3 m1 m2 ha c1 (e3 _ _ c2) (c3.ex e3 I2.kd) c6 l1 l2 trivial fun gr=>⟨_,upd_same,(hf _ (q3.gr gr I3.kd)).1,by
     rw[←ez]
     exact(hf _ (q3.gr gr I3.kd)).2⟩
    exact k4 σ _ g ((Gr.ex (e2.trans e3)).trans gr) I4
   ·obtain⟨o',xs,vs,q1,q2,q3,q4,q5,q6⟩:=l3'
    have ek:=zY hkk
    rw[←ek,HS q3]at ha2
    rw[hw]at q2
    have q4':=q4
    rw[q3]at q4'
    cases rk with
    | @tup bb us _ hs' ht=>
     refine .inr ⟨o',xs,g,_,bb,kk,q1,q2,q4',rfl,.tup hs' ht,hkk,hdep,ha2,fun o2 nd=>?_⟩
     obtain⟨gr,I4⟩:=Mw (b:=true) (kvs':=kvs.filter fun p=>!PyData.eqv p.1 (.tuple ds)) (o':=iI l o2) I3 m1 m2 ha c1 (e3 _ _ c2) (c3.ex e3 I2.kd) c6 l1 l2 trivial fun gr=>by
      obtain⟨vs',i1,i2,i3,i4⟩:=afH kk q3 (q4.gr gr I3.kd) q5 (q6.gr gr I3.kd)
      rw[ek]at i1 i2 i4
      exact⟨o2,withoutH xs kk,vs',upd_same,by rw[hw];exact nd,i1,i2,i3,i4⟩
     exact k4 σ _ g ((Gr.ex (e2.trans e3)).trans gr) I4
  ·exact False.elim k4
 ·exact False.elim k3
end
def ItD(l:Addr)(o:Obj)(xs:List mV):It:=
 ⟨fun i H=>H l=some (iI l o)/\i < xs.length,fun i H x H'=>H'=H/\∃e,xs[i]?=some e/\x=.ref e.2.1,fun i H=>H l=some (iI l o)/\xs.length<=i⟩
theorem pin_at{X:Cx}{pins:List (Addr×Obj)}{σ:L2.St}{H:Hp}{s:Shared}{l:Addr}{o:Obj}(I:L2.Inv X pins σ H s)(h:H l=some (iI l o)):s.heap.get? l=some o:=(show ObjOk X.prog X.w H s.heap l (iI l o) from I.hok l _ h).1
theorem lA.at{w:World}{l:Addr}{o:Obj}{xs:List mV}{es:Array DictEntry}{ep:Nat}(n:lA w l o xs)(h:o.data=.dict es ep):es.size=xs.length/\∀(i:Nat) (e:mV),xs[i]?=some e->∃en,es[i]?=some en/\en.key=.ref e.2.1:=by
 obtain⟨es',ep',h1,h2⟩:=n.ent
 rw[h]at h1
 cases h1
 refine⟨?_,fun i e hi=>⟨adA w e,?_,rfl⟩⟩
 ·have:=congrArg List.length h2
  simpa using this
 ·rw[←aqX,h2,aqs,hi]
  rfl
theorem ale{P:Program}{w:World}{K:aqf}{tg:Expr}{l:Addr}{o:Obj}{xs:List mV}{es:Array DictEntry}{ep:Nat}(it:Addr)(n:lA w l o xs)(hod:o.data=.dict es ep):Turn P w K tg (ItD l o xs) [it] it (fun i h=>h.IsKeyIter it l i xs.length ep) where
 mem:=aqm.mpr rfl
 obj:=fun i h st b hb=>by
  cases aqm.mp hb
  obtain⟨oi,e,c,dd⟩:=st
  refine⟨oi,e,fun v z=>?_⟩
  rw[dd]at z
  cases z
 keep:=fun i h h' st k=>st.at (k it (aqm.mpr rfl))
 item:=by
  intro X hP hw hK hc i pins s σ H E I hf st hg
  subst hP hw hK
  obtain⟨g0,g1,g2,g3,g4,g5⟩:=hf it (aqm.mpr rfl)
  obtain⟨sz,ent⟩:=n.at hod
  have hlt:i < xs.length:=hg.2
  have hx:xs[i]?=some xs[i]:=aqi hlt
  obtain⟨en,e1,e2⟩:=ent i _ hx
  refine next_key_item st (pin_at I hg.1) hod sz e1 ?_
  intro h' st' sb
  have J:L2.Inv X pins σ H { s with heap:=h' }:=I.turned (t':=s.toks) (fun b ob hb e=>(sb.2 b hb).trans e) g0 g1 g3 g4 g5
  obtain⟨oi,a1,a2,a3⟩:=id st'
  exact⟨en.key,rfl,go_of (s:={ s with heap:=h' }) a1 a2 a3 (by decide) ⟨.ref xs[i].2.1,H,J,e2,⟨rfl,_,hx,rfl⟩,st',fun b hb=>(hf b hb).1⟩⟩
 done:=by
  intro X hP hw hK hc i pins s σ H E I hf st hg
  subst hP hw hK
  obtain⟨g0,g1,g2,g3,g4,g5⟩:=hf it (aqm.mpr rfl)
  exact next_key_end (I.ok.hd hc) st (pin_at I hg.1) hod (n.at hod).1 hg.2 fun h' eb=>⟨rfl,I.turned (t':=s.toks) (fun b ob hb e=>eb b ob hb e) g0 g1 g3 g4 g5⟩
 self:=fun A i s Q E st h=>by
  refine wpAny_pyIter_slot st.typeIs PySem.F.slot_dict_keyiterator_iter (wpAny_call_entry PySem.F.slot_dict_keyiterator_iter st.typeIs PySem.F.entry_dict_keyiterator_iter ?_ (PySem.F.args_dict_keyiterator_iter_1 _))
  exact wpAny_pure ⟨_,rfl,"dict_keyiterator",_,st.typeIs,PySem.F.slot_dict_keyiterator_next.lookup,h⟩
def al4(X:Cx)(td:TE):TI:=fun σ H R=>td σ H fun x H1=>∃l o xs,x=.ref l/\H1 l=some (iI l o)/\lA X.w l o xs/\R (ItD l o xs) H1
theorem aj8{X:Cx}{tg e:Expr}{td:TE}(he:PE X e td):PI X tg e (al4 X td):=by
 constructor
 intro pins s σ H R I h
 refine thn (he.run pins s σ H _ I h) ?_
 rintro u s1 ⟨x,H1,I1,rx,l,o,xs,rfl,hl,n,q⟩
 obtain rfl:u=Value.ref l:=rx
 obtain⟨es,ep,hd,_⟩:=n.ent
 refine iter_keys n.sys (pin_at I1 hl) n.ex hd (pi_one (tk:=s1.toks) I1 _ (ale _ n hd) ⟨_,Heap.get?_push_size _ rfl,rfl,?_⟩ q)
 rw[(n.at hd).1] <;> rfl
theorem af0{K:aqf}{aj:aQ}{l:Addr}{o:Obj}{xs:List mV}{ks:List Dat}:Jm K (ItD l o xs) (fun g H=>H l=some (iI l o)/\aJ K g H (xs.map fun x=>V.ref x.2.1) ks) ks where
 go:=fun g i H c hi=>⟨c.1,by have:=c.2.length;simp at this;omega⟩
 yld:=fun g i H x H' d k c e y=>by
  obtain⟨rfl,en,h1,rfl⟩:=y
  obtain⟨v,h2,h3⟩:=c.2.get e
  rw[aqs,h1]at h2
  cases h2
  exact⟨Ex.refl _,h3⟩
 stop:=fun g i H c e=>⟨c.1,by have:=c.2.length;simp at this;omega⟩
 ex:=fun g H H' k c e=>⟨e _ _ c.1,c.2.ex e k⟩
 add:=fun g g' H H' k c r e=>⟨e _ _ c.1,c.2.gr r k⟩
def Cg(f:Str)(o:QF):IF:=fun M ρ=>(o M ρ).bind fun od=>match yu M f od with
 |some (_,_,true,kvs)=>.ok (kvs.map (·.1))
 |_=>.bad
def CP(f:Str)(o:QF):QF:=fun M ρ=>(o M ρ).bind fun od=>match yu M f od with
 |some (_,_,_,kvs)=>.ok (.list (kvs.map (·.1)))
 |none=>.bad
section
variable{X:Cx}{aj:aQ}{W:WX}{o tg:Expr}{f:Str}{pos p p1:Pos}{fo:QF}
theorem aeJ(co:jr X.K aj)(hw:aj.w=X.w)(ho:QW aj X W o fo)(hb:baseOk o=true):QI aj X W false tg (.Attribute o f p1) (Cg f fo):=by
 have h0:=aj8 (tg:=tg) (pe_fld (X:=X) (pos:=p1) (f:=f) ho (mD hb))
 refine⟨fun pins s σ H R I h=>h0.run pins s σ H R I ?_⟩
 obtain⟨g,ρ,M,J,h⟩:=h
 unfold Cg at h
 refine tW.go J h.bnd fun od u H1 k2 e1 ru=>?_
 have J1:=J.ex e1
 split at k2
 ·next h i kvs hl=>
  obtain⟨a,C,dx,fs,l,rfl,m1,m2,ml,ha,rfl,c1,c2,c3,c4,c5,c6,l1,l2,o',xs,vs,q1,q2,q3,q4,q5,q6⟩:=Ew co J1.wok ru hl
  rw[hw]at q2
  exact⟨a,C,dx,fs,.ref l,rfl,c2,c4,c5,l1,l,o',xs,rfl,q1,q2,k2 _ _ H1 e1 (af0 (aj:=aj)) ⟨q1,q4⟩ fun z=>nomatch z⟩
 ·exact False.elim k2
end
theorem aef{P:Program}{w:World}{A:Around}{l I:Addr}{o:Obj}{xs:List mV}{es:Array DictEntry}{ep:Nat}(hh:A.handled=none)(hne:l≠I)(n:lA w l o xs)(hd:o.data=.dict es ep):Walks P w A I [I,l] [I] xs.length (fun i v=>∃e,xs[i]?=some e/\v=Value.ref e.2.1) (fun i h=>h.IsKeyIter I l i xs.length ep/\h.get? l=some o) where
 sub:=fun b hb=>by simp at hb;simp[hb]
 frame:=fun i h h' st k=>⟨st.1.at (k I (by simp)),k l (by simp) o st.2⟩
 item:=fun i s Q E hi st hQ=>by
  obtain⟨sz,ent⟩:=n.at hd
  have hx:xs[i]?=some xs[i]:=aqi hi
  obtain⟨en,e1,e2⟩:=ent i _ hx
  refine next_key_item st.1 st.2 hd sz e1 ?_
  intro h' st' sb
  exact hQ en.key h' s.toks ⟨_,hx,e2⟩ ⟨st',(sb.2 l hne).trans st.2⟩ fun b ob hb e=>(sb.2 b fun z=>hb (by simp[z])).trans e
 done:=fun s Q E st hQ=>next_key_end hh st.1 st.2 hd (n.at hd).1 (aqF _) fun h' eb=>hQ h' s.toks fun b ob hb e=>eb b ob (fun z=>hb (by simp[z])) e
 self:=fun i s Q E st hQ=>wpAny_pyIter_keyiter st.1 hQ
theorem agH{P:Program}{w:World}{l:Addr}{o:Obj}{xs:List mV}(n:lA w l o xs):PySem.W.KdlSrc P w "dict" l l xs.length (fun i v=>∃e,xs[i]?=some e/\v=Value.ref e.2.1) (fun h=>h.get? l=some o) where
 type:=fun s e=>⟨o,e,n.ex.1⟩
 there:=fun h e=>⟨Heap.lt_size e,Heap.lt_size e⟩
 keep:=fun h h' e k=>k l (.inl rfl) o e
 notList:=by decide
 notTuple:=by decide
 hint:=fun A E s Q e hq=>PySem.W.kdl_hint_dict ⟨o,e,n.ex.1⟩ hq
 iter:=fun A s hh e=>by
  obtain⟨es,ep,hd,_⟩:=n.ent
  refine⟨_,_,fun E Q hq=>iter_keys n.sys e n.ex hd hq,aef hh (aqN (Heap.lt_size e)) n hd,⟨_,Heap.get?_push_size _ rfl,rfl,?_⟩,Heap.get?_push_of_some _ e⟩
  rw[(n.at hd).1] <;> rfl
def ade(X:Cx):List V->Hp->VK->Prop:=fun xs H Q=>(∃p kvs,xs=[.ref p]/\H p=some (.dK kvs)/\∀q,H q=none->Q (.ref q) (upd H q (.lst (kvs.map fun kv=>kV kv.1))))∨∃p o es,xs=[.ref p]/\H p=some (iI p o)/\lA X.w p o es/\∀q,H q=none->Q (.ref q) (upd H q (.lst (es.map fun e=>V.ref e.2.1)))
theorem abU{X:Cx}(hc:X.calm=true):CallR X (.type "list") (ade X):=by
 intro pins s σ H xs us Q I r h
 rcases h with h|⟨p,o,es,rfl,hp,n,q⟩
 ·exact call_list_dK hc pins s σ H xs us Q I r h
 ·obtain⟨u,rfl,rx⟩:=vals1 r
  obtain rfl:u=Value.ref p:=rx
  refine PySem.W.kdl_call (agH n) (I.ok.hd hc) (pin_at I hp) n.len ?_
  intro h' tk acc c' keep hS hacc
  have el:acc.toList.length=es.length:=by
   rw[aqP]
   exact hacc.1
  refine⟨.ref s.heap.objs.size,upd H s.heap.objs.size (.lst (es.map fun e=>V.ref e.2.1)),I.laid keep (aqF _) (show ObjOk X.prog X.w _ _ _ (.lst (es.map fun e=>V.ref e.2.1)) from⟨by rw[aqr];exact n.len,acc.toList,c',?_,?_⟩),rfl,q _ (I.hok.fresh (aqF _))⟩
  ·refine vals_of_at (by rw[aqr,el]) fun j x w h1 h2=>?_
   obtain⟨e,he,rfl⟩:=hacc.2 j w (by rw[←aqX];exact h2)
   rw[aqs,he]at h1
   cases h1
   rfl
  ·rw[Array.toArray_toList]
   exact hS
section
variable{X:Cx}{aj:aQ}{W:WX}{o e:Expr}{f:Str}{pos p p1 pos':Pos}{fo:QF}
theorem Zf{K:aqf}{g:Gh}{H:Hp}:∀{kv:List (Key×V)} {kvs:List (Dat×Dat)},kvs.map (·.1)=kv.map (fun p=>keyD p.1)->aJ K g H (kv.map fun p=>kV p.1) (kvs.map (·.1))
 |[],[],_=>.nil
 |[],_::_,h=>by cases h
 |_::_,[],h=>by cases h
 |a::kv,b::kvs,h=>by
  simp only[aqj,List.cons.injEq]at h
  rw[aqj,aqj,h.1]
  refine .cons ?_ (Zf h.2)
  cases a.1 with
  |inl i=>exact .int i
  |inr x=>exact .str x
theorem afc(co:jr X.K aj)(hw:aj.w=X.w)(σ:L2.St)(H:Hp)(Q:VK)(h:tQ X.K aj W (CP f fo) σ H Q):tFld X.K (tW X.K aj W fo) f σ H fun x H1=>ade X [x] H1 Q:=by
 obtain⟨g,ρ,M,J,h⟩:=h
 unfold CP at h
 refine tW.go J h.bnd fun od u H1 k2 e1 ru=>?_
 have J1:=J.ex e1
 split at k2
 ·next h i b kvs hl=>
  obtain⟨a,C,dx,fs,l,rfl,m1,m2,ml,ha,rfl,c1,c2,c3,c4,c5,c6,l1,l2,l3⟩:=Ew co J1.wok ru hl
  refine⟨a,C,dx,fs,.ref l,rfl,c2,c4,c5,l1,?_⟩
  cases b with
  |false=>
   obtain⟨kv,q1,q2,q3⟩:=l3
   exact .inl ⟨l,kv,rfl,q1,fun q nq=>k2 (.ref q) _ (e1.trans (Ex.new nq)) (.lst (.inl ⟨.inl upd_same,J1.kd.fresh nq⟩) (Zf q2))⟩
  |true=>
   obtain⟨o',xs,vs,q1,q2,q3,q4,q5,q6⟩:=l3
   rw[hw]at q2
   exact .inr ⟨l,o',xs,rfl,q1,q2,fun q nq=>k2 (.ref q) _ (e1.trans (Ex.new nq)) (.lst (.inl ⟨.inl upd_same,J1.kd.fresh nq⟩) (q4.ex (Ex.new nq) J1.kd))⟩
 ·exact False.elim k2
theorem ae0(co:jr X.K aj)(hw:aj.w=X.w)(hc:X.calm=true)(hg:Gl X "list")(hm:X.mg "list"=none)(ho:QW aj X W o fo)(hb:baseOk o=true):QE aj X W (.Call (.Name "list" p) [.Attribute o f p1] [] pos) (CP f fo):=by
 have h1:=pa_cons (pe_fld (X:=X) (pos:=p1) (f:=f) ho (mD hb)) pa_nil (cO rfl [])
 have hv:BV (.type "list") "list":=⟨by decide +kernel,by decide,by decide⟩
 refine PE.weak (pe_callTy (pos:=pos) (p:=p) (abU hc) hg hm hv.1 h1 hv.2.1 hv.2.2 (cO rfl []) (by with_unfolding_all rfl)) fun σ H Q h=>?_
 exact afc co hw σ H Q h
def Mq(ft:Ft)(o:QF)(f:Str)(b:Bool):SF:=fun M ρ=>((o (M++[⟨"",[]⟩]) ρ).at (M++[⟨"",[]⟩])).then ρ fun od M2=>match jV M2 od with
 |some (h,i)=>match ft.has i.cls f&&decide (i.fs.length < 100) with
  |true=>.next ρ (M2.set h (i.put f (.dic b [])))
  |false=>.bad
 |none=>.bad
def alo(X:Cx)(b:Bool):TE:=fun _ H Q=>∀p,H p=none->match b with
 |false=>Q (.ref p) (upd H p (.dK []))
 |true=>∀o,lA X.w p o []->Q (.ref p) (upd H p (iI p o))
theorem ahe{b:Bool}:PE X (.Dict [] [] pos) (alo X b):=by
 cases b with
 |false=>exact PE.weak pe_dnewK fun σ H Q h p np=>h p np
 |true=>
  refine⟨fun pins s σ H Q I h=>wpAny_Dict_empty ?_⟩
  have hz:(s.heap.push { cls:=.type "dict",data:=.dict #[] }).get? s.heap.objs.size=some { cls:=.type "dict",data:=.dict #[] }:=Heap.get?_push_size _ rfl
  have hs:(s.heap.objs.size==sysModules)=false:=beq_eq_false_iff_ne.mpr (Ne.symm (aqN I.big))
  exact⟨.ref s.heap.objs.size,_,I.laid (a:=s.heap.objs.size) (o:=iI s.heap.objs.size _) (t':=s.toks) (fun _ _ q=>Heap.get?_push_of_some _ q) (aqF _) (KZ hz),rfl,h _ (I.hok.fresh (aqF _)) _ ⟨hs,⟨rfl,rfl,rfl⟩,⟨#[],0,rfl,rfl⟩,List.nodup_nil,aqW _,fun x hx=>absurd hx aqO⟩⟩
theorem ag9{ft:Ft}{b:Bool}(co:jr X.K aj)(fk:Lf ft aj)(hw:aj.w=X.w)(ho:QW aj X W o fo)(hs:swapsWith (.Dict [] [] p) (some (.Attribute o f pos')) pos.line X.env=pure false):SE aj X W false (.Assign [.Attribute o f pos'] (.Dict [] [] p) pos) (Mq ft fo f b):=by
 refine PS.weak (ps_fld ho (ahe (b:=b)) hs) fun D σ H ⟨g,ρ,M,I,z⟩=>?_
 have core:∀(l:Addr) (ob:HO),H l=none->Jd ob->(∀(g':Gh) (H':Hp),H' l=some ob->ju X.K aj g' H' l b [])->tW X.K aj W fo σ (upd H l ob) (fun x H2=>∃a C dx fs,x=.ref a/\H2 a=some (.ins C dx fs)/\Cls X.K C/\NoAttr X.K C f/\fs.length < 1000/\D.nx σ (upd H2 a (.ins C dx (putF f (.ref l) fs)))):=by
  intro l ob nl mu at'
  obtain⟨gr,I1,tb,ow,mm⟩:=Kc I nl (Ex.new nl) upd_same mu
  unfold Mq at z
  have k1:=Out.iZ (dw (σ:=σ) z)
  refine tW.go I1 (k1.mono (fun _ y=>y) fun x y H' c dd ex rx=>y H' _ c dd (gr.trans (Gr.ex ex)) (I1.ex ex) rx) fun od u H2 k2 e2 ru=>?_
  have I2:=I1.ex e2
  split at k2
  ·next h i hi=>
   split at k2
   ·next hb=>
    rw[aqg]at hb
    obtain⟨a,C,dx,fs,_,m1,m2,ha,rfl,c1,c2,c3,c4,c5,c6⟩:=GJ co fk I2.wok ru hi hb.1
    have nla:l≠a:=fun z=>by
     subst z
     cases I2.wok.inj _ _ _ ha tb
     rw[mm]at m1
     cases m1
     exact m2 rfl
    refine⟨a,C,dx,fs,rfl,c2,c4,c5,?_,?_⟩
    ·have:=of_decide_eq_true hb.2
     rw[c3.len]
     omega
    ·have ch:=Ul (f:=f) (C:=C) (dx:=dx) (fs':=putF f (.ref l) fs) I2.kd I2.wok ha m1 m2 tb mm ow
     have w':=I2.wok.chg I2.kd ch ha m1 m2 c6 c1 c3 upd_same (v:=.ref l) (fl:=.dic b []) ⟨l,rfl,if_pos rfl,at' _ _ (by rw[upd_ne nla];exact e2 _ _ upd_same)⟩
     exact k2 σ _ _ ((gr.trans (Gr.ex e2)).trans ch.gc.gr) (I2.chg ch w')
   ·exact False.elim k2
  ·exact False.elim k2
 intro l nl
 cases b with
 |false=>exact core l _ nl trivial fun g' H' h=>⟨[],h,rfl,.nil⟩
 |true=>exact fun ob nd=>core l _ nl trivial fun g' H' h=>⟨ob,[],[],h,by rw[hw];exact nd,rfl,.nil,.nil,.nil⟩
end
def akn(X:Cx)(D:Addr)(vs:List Nat)(g:TG)(tk:TE)(σ:L2.St)(Nx:Hp->Prop)(x:V)(H:Hp):Prop:=
 g x (L2.wipe σ vs) H fun σ2 H2=>L2.wipe σ2 vs=L2.wipe σ vs/\tk σ2 H2 fun y H4=>∃(o:Obj) (xs:List mV) (gg:Gh) (d:Dat) (b:Addr) (k:NestedKey),y=.ref b/\H4 D=some (iI D o)/\lA X.w D o xs/\aJ X.K gg H4 (xs.map fun x=>V.ref x.2.1) (xs.map fun x=>x.1.data)/\Rep X.K gg H4 y d/\sU d=some k/\k.depth<=8/\xs.length < sizeLine/\
  ∀o',lA X.w D o' (storedH xs k b (.bool true))->Nx (upd H4 D (iI D o'))
def aik(X:Cx)(wi:TI)(g:TG)(tk:TE)(vs:List Nat):TE:=fun σ H Q=>wi σ H fun J H1=>∀D,H1 D=none->∃W:Nat->Nat->Hp->Prop,(∃m,∀o,lA X.w D o []->W 0 m (upd H1 D (iI D o)))/\
 ∀i m H,W i m H->(J.stop i H/\Q (.ref D) H)∨(J.go i H/\∃Nx:Hp->Prop,(∀H',Nx H'->∃m',m' < m/\W (i+1) m' H')/\∀x H',J.yld i H x H'->akn X D vs g tk σ Nx x H')
section
variable{X:Cx}
theorem afp{pins:List (Addr×Obj)}{σ:L2.St}{H:Hp}{s:Shared}{E:Value->Shared->Prop}{D b:Addr}{o:Obj}{xs:List mV}{gg:Gh}{d:Dat}{k:NestedKey}{u:Value}{Q:Unit->Shared->Prop}(hu:X.A.units+64 < cLine)(I:L2.Inv X pins σ H s)(hD:H D=some (iI D o))(n:lA X.w D o xs)(hr:aJ X.K gg H (xs.map fun x=>V.ref x.2.1) (xs.map fun x=>x.1.data))(hk:Rep X.K gg H (.ref b) d)(hd:sU d=some k)(h8:k.depth<=8)(hz:xs.length < sizeLine)(ru:RelV (.bl true) u)
  (q:∀s' o',lA X.w D o' (storedH xs k b (.bool true))->L2.Inv X pins σ (upd H D (iI D o')) s'->Q () s'):wpAny (model X.prog X.w) X.A (dictSet D (.ref b) u) Q E s:=by
 obtain rfl:u=.bool true:=ru
 refine wpAny_dictSet_heap (knd:=nestedKind X.prog X.w) (k:=k) (hsz:=Nat.le_of_lt hz) (show X.A.units+8 < cLine by omega) ⟨key_is I hk hd rfl,h8⟩ (Gi I hD n rfl hr) ?_
 intro h' dd hs'
 obtain⟨o',es,ep,g1,g2,g3,g4,g5,g6⟩:=dd
 have nd:lA X.w D o' (storedH xs k b (.bool true)):=⟨n.sys,g2,⟨es,ep,g3,g4⟩,g6,by have:=Rz (xs:=xs) (k:=k) (b:=b) (u:=.bool true);omega,RD n.dep h8⟩
 exact q _ o' nd (d_write I (by rw[hD];exact True.intro) hs' ⟨o',g1⟩ (KZ g1))
theorem ahF{kx tg iter:Expr}{scope:Scope}{own:List (PySem.Str×Nat)}{pos vp:Pos}{vj:Nat}{wi:TI}{g:TG}{tk:TE}(hc:X.calm=true)(hN:X.N.Nodup)(hu:X.A.units+64 < cLine)(hi:PI X tg iter wi)(ok:BlkOk X.N X.env.scope scope own)
  (hg:∀(t:Shared) (G:Hp) (C:Addr) (cl:List (PySem.Str×Addr)) (fp:List Addr),PG (X.blk t G scope (compEnvC scope cl C X.env) fp) tg g)
  (hk:∀(t:Shared) (G:Hp) (C:Addr) (cl:List (PySem.Str×Addr)) (fp:List Addr),PE (X.blk t G scope (compEnvC scope cl C X.env) fp) kx tk) (hs:∀x,foldedSetIterable iter X.env x=pure x) :
  PE X (.DictComp kx (.Constant (.bool true) vj vp) [⟨tg,iter,[],0⟩] scope pos) (aik X wi g tk (own.map (·.2))):=by
 refine⟨fun pins s σ H Q I h=>?_⟩
 rw[arm_eval_DictComp]
 have cells:∀y∈scope.names,y.2=.free->∃c,X.env.cells.lookup y.1=some c:=fun y hy e=>(ok.free y hy e).elim (fun k=>I.ok.has _ (.inl k)) (fun k=>I.ok.has _ (.inr k))
 refine wpAny_comprehension_free rfl hs (closure_ok cells) ok.kind (fun y hy e=>by rw[ok.uniq y hy,e]) (thn (hi.run pins s σ H _ I h) fun _ _ hx=>thn hx fun itv t0 h0=>?_)
 obtain⟨it,fp,tn,J,G0,rfl,I0,T,st0,f0,q⟩:=h0
 refine wpAny_newObj_type (newEnv_comp ?_)
 -- the new dict,at D
 obtain⟨D,hD⟩:∃D,D=t0.heap.objs.size:=⟨_,rfl⟩
 rw[←hD]
 obtain⟨W,⟨m0,w00⟩,turn⟩:=q D (I0.hok.fresh (Nat.le_of_eq hD.symm))
 obtain⟨ob,hob⟩:∃ob:Obj,ob={ cls:=.type "dict",data:=.dict #[] }:=⟨_,rfl⟩
 have nd0:lA X.w D ob []:=by
  rw[hob]
  exact⟨by rw[hD];exact beq_eq_false_iff_ne.mpr (Ne.symm (aqN I0.big)),⟨rfl,rfl,rfl⟩,⟨#[],0,rfl,rfl⟩,List.nodup_nil,aqW _,fun x hx=>absurd hx aqO⟩
 have w0:=w00 ob nd0
 rw[←hob]
 obtain⟨t1,ht1⟩:∃t1:Shared,t1={ t0 with heap:=t0.heap.push ob }:=⟨_,rfl⟩
 obtain⟨G1,hG1⟩:∃G1,G1=upd G0 D (iI D ob):=⟨_,rfl⟩
 rw[←hG1]at w0
 have grow:∀b o,t0.heap.get? b=some o->t1.heap.get? b=some o:=fun b o e=>by rw[ht1];exact Heap.get?_push_of_some _ e
 have I1:L2.Inv X pins σ G1 t1:=by
  rw[ht1,hG1]
  refine I0.laid (t':=t0.toks) (fun b o e=>Heap.get?_push_of_some _ e) (Nat.le_of_eq hD.symm) (KZ ?_)
  rw[hD]
  exact Heap.get?_push_size _ (by rw[hob];rfl)
 have small:∀b∈fp,b < t0.heap.objs.size:=fun b hb=>by
  obtain⟨o,e,_⟩:=T.obj _ _ st0 b hb
  exact Heap.lt_size e
 have f1:∀b∈fp,FpOk X pins G1 b/\b < t1.heap.objs.size:=fun b hb=>by
  have hlt:=small b hb
  refine⟨⟨?_,(f0 b hb).2⟩,by rw[ht1];show b < (t0.heap.push ob).objs.size;rw[Heap.size_push];exact ara hlt⟩
  rw[hG1,upd_ne (by rw[hD];exact aqN hlt)]
  exact(f0 b hb).1
 have st1:tn 0 t1.heap:=T.keep _ _ _ st0 fun b _ o e=>grow b o e
 have I2:=block_start I1 ok hN f1
 have pg:=hg t1 G1 t1.heap.objs.size (cellsFrom (t1.heap.objs.size+1) scope.names (cloFrom X.env.cells scope.names [])) fp
 have pk:=hk t1 G1 t1.heap.objs.size (cellsFrom (t1.heap.objs.size+1) scope.names (cloFrom X.env.cells scope.names [])) fp
 have none1:∀b∈fp,G1 b=none:=fun b hb=>(f1 b hb).1.1
 rw[show({ t0 with heap:=t0.heap.push ob }:Shared)=t1 from ht1.symm]
 obtain⟨ce,hce⟩:∃ce,ce=compEnvC scope (cellsFrom (t1.heap.objs.size+1) scope.names (cloFrom X.env.cells scope.names [])) t1.heap.objs.size X.env:=⟨_,rfl⟩
 rw[←hce]at I2 pg pk
 have cL:ce.locals=t1.heap.objs.size:=by rw[hce];rfl
 obtain⟨t2,ht2⟩:∃t2:Shared,t2={ t1 with heap:=pushCells (t1.heap.push { cls:=.type "dict",data:=.dict #[] }) scope.names }:=⟨_,rfl⟩
 rw[←ht2]at I2
 have st2:tn 0 t2.heap:=T.keep _ _ _ st1 fun b _ o e=>by rw[ht2];exact pushCells_keeps _ _ _ _ (Heap.get?_push_of_some _ e)
 have still:∀{σ':L2.St} {G':Hp} {t':Shared},L2.Inv (X.blk t1 G1 scope ce fp) [] σ' G' t'->(∀b∈fp,G' b=none)->∀b∈fp,FpOk (X.blk t1 G1 scope ce fp) [] G' b:=fun I' hn b hb=>
  ⟨hn b hb,(I'.ok.exf b hb).1,I'.ok.exfs b hb,.inl hb,fun x c e=>(I'.ok.exf b hb).2 x c e,fun p hp=>absurd (show p∈([]:List (Addr×Obj))++[] from hp) (by simp)⟩
 have pt:PTs (X.blk t1 G1 scope ce fp) [] tYes:=pts_nil
 have pv:PE (X.blk t1 G1 scope ce fp) (.Constant (.bool true) vj vp) (tC (.bl true)):=pe_bl
 have loop:codeAny (model X.prog X.w) X.A (.compLoop (.DictComp kx (.Constant (.bool true) vj vp) [⟨tg,iter,[],0⟩] scope pos) 0 (.ref it) (.ref D) ce) (compPost (model X.prog X.w) X.A X.xe none (EP X pins σ Q) (.ref D) t1.heap.objs.size) t2:=by
  refine compLoop_anyD (fun n t'=>∃i G',L2.Inv (X.blk t1 G1 scope ce fp) [] (L2.wipe σ (own.map (·.2))) G' t'/\tn i t'.heap/\(∀b∈fp,G' b=none)/\W i n G') ?_ m0 ⟨0,G1,I2,st2,none1,w0⟩
  rintro n t3 ⟨i,G3,I3,st3,n3,w3⟩
  rcases turn i n G3 w3 with⟨stop,fin⟩|⟨go,Nx,hNx,step⟩
  ·refine thnF (T.done (X.blk t1 G1 scope ce fp) rfl rfl rfl hc i [] t3 _ G3 (fun _ _=>False) I3 (still I3 n3) st3 stop) fun r t4 ⟨hr,I4⟩=>?_
   subst hr
   have I5:L2.Inv X pins σ G3 t4:=I1.call' (ch:=fp) I4.os I4.base I4.hok I4.bare fun b hb=>⟨(f1 b hb).1.2.2.2.1,(f1 b hb).1.2.1,(f1 b hb).1.2.2.2.2.1,(f1 b hb).1.2.2.2.2.2⟩
   have nC:G3 t1.heap.objs.size=none:=by rw[←cL];exact I4.free
   obtain⟨m,hn,_⟩:=I4.loc
   have hn':t4.heap.Ns t1.heap.objs.size m:=by rw[←cL];exact hn
   obtain⟨a0,a1,_,a3,a4,a5⟩:=I1.fpOk (aqF _) nC
   exact⟨m,hn',fun h'' sb=>⟨.ref D,G3,I5.turned (t':=t4.toks) (fun b o hb e=>(sb.2 b hb).trans e) a0 a1 a3 a4 a5,rfl,fin⟩⟩
  ·refine thnF (T.item (X.blk t1 G1 scope ce fp) rfl rfl rfl hc i [] t3 _ G3 (fun _ _=>False) I3 (still I3 n3) st3 go) fun r t4 ⟨u,hr,h4⟩=>?_
   subst hr
   refine thnF h4 fun _ t5 ⟨x,G5,I5,r5,y5,st5,n5⟩=>?_
   refine thnF (pg.run _ t5 _ G5 x u _ (I5.pinned (still I5 n5) (T.obj _ _ st5)) r5 (step x G5 y5)) fun _ t6 ⟨σ6,G6,I6,hw6,q6⟩=>?_
   refine thnF (pt.run _ t6 σ6 G6 (fun b G=>b=true/\G=G6) I6 ⟨rfl,rfl⟩) fun b t7 ⟨G7,I7,hb7,hG7⟩=>?_
   subst hb7 hG7
   have over:∀{t':Shared} {G':Hp},L2.Inv (X.blk t1 G1 scope ce fp) ([]++pinsAt fp t5.heap) σ6 G' t'->Nx G'->∃m,m < n/\∃i G',L2.Inv (X.blk t1 G1 scope ce fp) [] (L2.wipe σ (own.map (·.2))) G' t'/\tn i t'.heap/\(∀b∈fp,G' b=none)/\W i m G':=fun {t' G'} I' nx=>by
    obtain⟨m',hm,w'⟩:=hNx G' nx
    have pin:∀b∈fp,∀o,t5.heap.get? b=some o->t'.heap.get? b=some o/\G' b=none:=fun b hb o e=>
     let z:=I'.pin (b,o) (aqY _ (aqY _ (mem_pinsAt hb e)))
     ⟨z.1,z.2.1⟩
    refine⟨m',hm,i+1,G',(I'.unpinned (pins:=[])).weak (by rw[←hw6,wipe_length]) (fun j v e=>?_),T.keep _ _ _ st5 fun b hb o e=>(pin b hb o e).1,fun b hb=>?_,w'⟩
    ·rw[←hw6]at e
     exact(wipe_some e).1
    ·obtain⟨o,e,_⟩:=T.obj _ _ st5 b hb
     exact(pin b hb o e).2
   simp only[if_true]
   refine thnF (pk.run _ t7 σ6 _ _ I7 q6) fun z t8 ⟨yv,G8,I8,r8,o8,xs8,g8,d8,b8,k8,ey,hD8,n8,hr8,hk8,hd8,h88,hz8,nx⟩=>?_
   subst ey
   obtain rfl:z=Value.ref b8:=r8
   refine thnF (pv.run _ t8 σ6 G8 (fun v G=>v=.bl true/\G=G8) I8 ⟨rfl,rfl⟩) fun z2 t9 ⟨y9,G9,I9,r9,hv9,hG9⟩=>?_
   subst hv9 hG9
   exact afp (X:=X.blk t1 G1 scope ce fp) hu I9 hD8 n8 hr8 hk8 hd8 h88 hz8 r9 fun s' o' nd I10=>over I10 (nx o' nd)
 have done:=codeAny_compStart_dict loop (T.self X.A 0 _ _ _ st2 loop)
 rw[hce,ht2]at done
 subst hob
 exact done
end
def Dm(tg:fL)(tk:QF)(M:Mo)(ρ:Env):List Dat->List (Dat×Dat)->Out (List (Dat×Dat))
 |[],acc=>.ok acc
 |d::ds,acc=>match tg d ρ with
  |none=>.bad
  |some ρ1=>(xV (tk M ρ1)).bind fun kd=>(dhas true acc kd).bind fun r=>Dm tg tk M ρ ds (match r with
   |true=>acc
   |false=>acc++[(kd,.bool true)])
def qDc(it:IF)(tg:fL)(vs:List Nat)(tk:QF):Mo->Env->Out (List (Dat×Dat)):=fun M ρ=>(it M ρ).bind fun ds=>Out.when (decide (ds.length<=50000)) (Dm tg tk M (bZ ρ vs) ds [])
def aic(K:aqf)(aj:aQ)(W:WX)(f:Mo->Env->Out (List (Dat×Dat))):TE:=fun σ H Q=>∃g ρ M,SInv K aj σ H g ρ M/\(f M ρ).sat (fun kvs=>∀l o H',H l=none->Ex H H'->H' l=some (iI l o)->ju K aj (g.add l) H' l true kvs->Q (.ref l) H') (qM K aj W g H σ)
section
variable{X:Cx}{aj:aQ}{W:WX}
theorem U9{tg:fL}{tk:QF}{M:Mo}{ρ:Env}:∀{ds:List Dat} {acc:List (Dat×Dat)} {x:dN},Dm tg tk M ρ ds acc≠.exc x
 |[],_,_,h=>nomatch h
 |d::ds,acc,x,h=>by
  rw[Dm]at h
  split at h
  ·cases h
  ·next ρ1 e=>
   cases h1:tk M ρ1 with
   |bad=>rw[h1]at h;cases h
   |exc y=>rw[h1]at h;cases h
   |ok kd=>
    rw[h1]at h
    have h:((dhas true acc kd).bind fun r=>Dm tg tk M ρ ds (match r with
     |true=>acc
     |false=>acc++[(kd,.bool true)]))=.exc x:=h
    cases h2:dhas true acc kd with
    |bad=>rw[h2]at h;cases h
    |exc y=>
     unfold dhas at h2
     split at h2
     ·cases h2
     ·split at h2
      ·split at h2 <;> cases h2
      ·cases h2
     ·cases h2
    |ok r=>
     rw[h2]at h
     exact U9 h
theorem aex{xs:List mV}{k:NestedKey}(h:∀x∈xs,x.2.2=.bool true):xs.map (putAt k (.bool true))=xs:=by
 have:∀x∈xs,putAt k (.bool true) x=x:=fun x hx=>by
  unfold putAt
  split
  ·obtain⟨a,b,c⟩:=x
   have:c=.bool true:=h _ hx
   rw[this]
  ·rfl
 calc xs.map (putAt k (.bool true))=xs.map id:=List.map_congr_left this
  _=xs:=List.map_id xs
theorem aaG:∀{xs:List mV},(∀x∈xs,x.2.2=.bool true)->Vals (List.replicate xs.length (.bl true)) (xs.map (·.2.2))
 |[],_=>.nil
 |x::xs,h=>by
  rw[aqu,List.replicate_succ,aqj,h x aql]
  exact .cons rfl (aaG fun y hy=>h y (aqk _ hy))
theorem aae{K:aqf}{g:Gh}{H:Hp}:∀{kvs:List (Dat×Dat)} {n:Nat},n=kvs.length->(∀p∈kvs,p.2=.bool true)->aJ K g H (List.replicate n (.bl true)) (kvs.map (·.2))
 |[],_,h,_=>by subst h;exact .nil
 |p::kvs,_,e,h=>by
  subst e
  rw[aqu,List.replicate_succ,aqj,h p aql]
  exact .cons (.bl true) (aae rfl fun y hy=>h y (aqk _ hy))
theorem ala{it:IF}{tg:fL}{js vs:List Nat}{tk:QF}(hw:aj.w=X.w)(hj:∀j∈js,j∈vs)(σ:L2.St)(H:Hp)(Q:VK)(h:aic X.K aj W (qDc it tg vs tk) σ H Q) :
  aik X (tI X.K aj W false it) (zQ X.K aj js tg) (tQ X.K aj WF tk) vs σ H Q:=by
 obtain⟨g,ρ,M,I,h⟩:=h
 refine⟨g,ρ,M,I,h.bnd.mono (fun ds hk J C H1 e1 w c _ D nD=>?_) fun _ z=>z⟩
 obtain⟨hz,hk⟩:=hk.pY
 have hlen:=of_decide_eq_true hz
 obtain⟨total,htot,hQ⟩:∃total,Dm tg tk M (bZ ρ vs) ds []=.ok total/\∀l o H',H l=none->Ex H H'->H' l=some (iI l o)->ju X.K aj (g.add l) H' l true total->Q (.ref l) H':=by
  cases hc:Dm tg tk M (bZ ρ vs) ds [] with
  |bad=>rw[hc]at hk;exact False.elim hk
  |exc x=>exact absurd hc U9
  |ok total=>
   rw[hc]at hk
   exact⟨total,rfl,hk⟩
 have I1:=(I.ex e1).wipe vs
 have kD:∀{Ha:Hp} {o:Obj},Ex H1 Ha->Ha D=some (iI D o)->SInv X.K aj (L2.wipe σ vs) Ha (g.add D) (bZ ρ vs) M:=fun ea hu=>I1.add nD ea hu trivial
 let Pv:Nat->Hp->Prop:=fun i Ha=>Ex H1 Ha/\i<=ds.length/\∃o xs acc,Ha D=some (iI D o)/\lA X.w D o xs/\acc.map (·.1)=xs.map (fun x=>x.1.data)/\aJ X.K (g.add D) Ha (xs.map fun x=>V.ref x.2.1) (acc.map (·.1))/\(∀x∈xs,x.2.2=.bool true)/\(∀p∈acc,p.2=.bool true)/\acc.length<=i/\Dm tg tk M (bZ ρ vs) (ds.drop i) acc=.ok total
 refine⟨fun i m Ha=>m=ds.length - i/\Pv i Ha,⟨ds.length,fun o n0=>⟨rfl,Ex.new nD,aqW _,o,[],[],upd_same,n0,rfl,.nil,fun x hx=>absurd hx aqO,fun x hx=>absurd hx aqO,aqF _,by rw[arp];exact htot⟩⟩,?_⟩
 rintro i m Ha ⟨rfl,ea,hi,o,xs,acc,hu,nd,hK,hR,hT,hA,hy,hs⟩
 have Ia:=kD ea hu
 have Ca:=w.add g (g.add D) H1 Ha (I.kd.ex e1) c (Gh.Gg nD ea) ea
 have lxs:xs.length=acc.length:=by
  have:=congrArg List.length hK
  simpa using this.symm
 by_cases hlt:i < ds.length
 ·refine .inr ⟨w.go _ i Ha Ca hlt,Pv (i+1),fun H' p=>⟨ds.length - (i+1),by omega,rfl,p⟩,fun x H' y=>?_⟩
  have hd:ds[i]?=some ds[i]:=aqi hlt
  obtain⟨e2,rx⟩:=w.yld _ i Ha x H' _ Ia.kd Ca hd y
  have I2:=Ia.ex e2
  rw[aq1 hlt,Dm]at hs
  split at hs
  ·cases hs
  ·next ρ1 he=>
   refine⟨g.add D,_,M,_,ρ1,I2,rx,he,fun ws I3=>⟨zF js ws _ vs hj |>.trans (Di σ vs),?_⟩⟩
   cases htk:tk M ρ1 with
   |bad=>rw[htk]at hs;cases hs
   |exc z=>rw[htk]at hs;cases hs
   |ok kd=>
    rw[htk]at hs
    have hs:((dhas true acc kd).bind fun r=>Dm tg tk M (bZ ρ vs) (ds.drop (i+1)) (match r with
     |true=>acc
     |false=>acc++[(kd,.bool true)]))=.ok total:=hs
    refine⟨g.add D,ρ1,M,I3,?_⟩
    rw[htk]
    intro v H4 e4 ry
    have I4:=I3.ex e4
    have hu4:=e4 _ _ (e2 _ _ hu)
    have hR4:=(hR.ex e2 Ia.kd).ex e4 I2.kd
    cases hh:dhas true acc kd with
    |bad=>rw[hh]at hs;cases hs
    |exc z=>rw[hh]at hs;cases hs
    |ok r=>
     rw[hh]at hs
     obtain⟨ha2,hcase⟩:=Uc hh
     rcases hcase with⟨z,_⟩|⟨_,dd,kk,rfl,hkk,hdep⟩
     ·cases z
     ·have ek:=zY hkk
      rw[←ek,HS hK]at ha2
      have hRx:=hR4
      rw[hK]at hRx
      cases ry with
      | @tup bb us _ hs' ht=>
       refine⟨o,xs,g.add D,_,bb,kk,rfl,hu4,nd,hRx,.tup hs' ht,hkk,hdep,sz_lt (by omega),fun o' nd'=>?_⟩
       have eD:Ex H1 (upd H4 D (iI D o')):=Ex.mut ((ea.trans e2).trans e4) nD
       have lD:(g.add D).Lo D:=.inr rfl
       have up:Gr true (g.add D) (g.add D) H4 (upd H4 D (iI D o')):=Gr.upd I4.kd hu4 (.inr lD)
       cases r with
       |true=>
        obtain⟨q,hq⟩:=Option.isSome_iff_exists.mp ha2
        rw[storedH_old hq,aex hT]at nd'
        exact⟨eD,hlt,o',xs,acc,upd_same,nd',hK,hR4.gr up I4.kd,hT,hA,by omega,hs⟩
       |false=>
        have hn:atKey xs kk=none:=by
         cases hv:atKey xs kk with
         |none=>rfl
         |some _=>rw[hv]at ha2;cases ha2
        rw[storedH_new hn]at nd'
        have hs:Dm tg tk M (bZ ρ vs) (ds.drop (i+1)) (acc++[(.tuple dd,.bool true)])=.ok total:=hs
        refine⟨eD,hlt,o',xs++[(kk,bb,.bool true)],acc++[(.tuple dd,.bool true)],upd_same,nd',by simp[hK,ek],?_,?_,?_,by simp;omega,hs⟩
        ·rw[List.map_append,List.map_append]
         exact(hR4.gr up I4.kd).back ((Rep.tup hs' ht).gr up I4.kd)
        ·intro x hx
         rcases aqp.mp hx with z|z
         ·exact hT x z
         ·rw[aqm.mp z]
        ·intro x hx
         rcases aqp.mp hx with z|z
         ·exact hA x z
         ·rw[aqm.mp z]
 ·have e:i=ds.length:=by omega
  refine .inl ⟨w.stop _ i Ha Ca e,?_⟩
  rw[e,aq5]at hs
  cases hs
  exact hQ D o Ha (CJ e1 D nD) (e1.trans ea) hu ⟨o,xs,List.replicate xs.length (.bl true),hu,by rw[hw];exact nd,hK,hR,aaG hT,aae lxs hA⟩
def Qe(ft:Ft)(o:QF)(f:Str)(e:Mo->Env->Out (List (Dat×Dat))):SF:=fun M ρ=>((e M ρ).at M).then ρ fun kvs _=>((o (M++[⟨"",[]⟩]) ρ).at (M++[⟨"",[]⟩])).then ρ fun od M2=>match jV M2 od with
 |some (h,i)=>match ft.has i.cls f&&decide (i.fs.length < 100) with
  |true=>.next ρ (M2.set h (i.put f (.dic true kvs)))
  |false=>.bad
 |none=>.bad
end
theorem Xa{K:aqf}{g:Gh}{H:Hp}{l:Addr}{vs:List V}{ds:List Dat}(h:aJ K (g.add l) H vs ds):aJ K (g.push l) H vs ds:=aJ.mv (g:=g.add l) (g':=g.push l) (fun h a z=>by
  have z:g.tbl[h]?=some a:=z
  show(g.tbl++[l])[h]?=some a
  rw[aqq (aqh.mp z).1]
  exact z) (fun a z=>by
  rcases Ym z with z|rfl
  ·rcases z with z|z|z
   ·exact .inl z
   ·exact .inr (.inl z)
   ·exact .inr (.inr (show g.Lo a∨a=l from Or.inl z))
  ·exact .inr (.inr (show g.Lo a∨a=a from Or.inr rfl))) h
section
variable{X:Cx}{aj:aQ}{W:WX}{o e:Expr}{f:Str}{pos pos':Pos}{ft:Ft}{fo:QF}
theorem agq{fe:Mo->Env->Out (List (Dat×Dat))}{te:TE}(co:jr X.K aj)(fk:Lf ft aj)(ho:QW aj X W o fo)(he:PE X e te)(hte:∀σ H Q,aic X.K aj W fe σ H Q->te σ H Q)(hs:swapsWith e (some (.Attribute o f pos')) pos.line X.env=pure false):SE aj X W false (.Assign [.Attribute o f pos'] e pos) (Qe ft fo f fe):=by
 refine PS.weak (ps_fld ho he hs) fun D σ H ⟨g,ρ,M,I,z⟩=>hte σ H _ ⟨g,ρ,M,I,?_⟩
 unfold Qe at z
 cases hf:fe M ρ with
 |exc x=>rw[hf]at z;exact fun H' c dd e r=>z σ H' g c dd (Gr.ex e) (I.ex e) r.fr
 |bad=>rw[hf]at z;exact False.elim z
 |ok kvs=>
  rw[hf]at z
  intro l ob H1 nl e1 hl dic
  obtain⟨gr,I1,tb,ow,mm⟩:=Kc I nl e1 hl trivial
  have dic1:ju X.K aj (g.push l) H1 l true kvs:=by
   obtain⟨o',xs,vs,q1,q2,q3,q4,q5,q6⟩:=dic
   exact⟨o',xs,vs,q1,q2,q3,Xa q4,q5,Xa q6⟩
  have z:(((fo (M++[⟨"",[]⟩]) ρ).at (M++[⟨"",[]⟩])).then ρ fun od M2=>match jV M2 od with
   |some (h,i)=>match ft.has i.cls f&&decide (i.fs.length < 100) with
    |true=>.next ρ (M2.set h (i.put f (.dic true kvs)))
    |false=>.bad
   |none=>.bad).sat (sN X.K aj false D.nx g H) (sR X.K aj false D.rt g H) (sN X.K aj false D.bk g H) (sN X.K aj false D.ct g H) (sX X.K aj W false g H):=z
  have k1:=Out.iZ (dw (σ:=σ) z)
  refine tW.go I1 (k1.mono (fun _ y=>y) fun x y H' c dd ex rx=>y H' _ c dd (gr.trans (Gr.ex ex)) (I1.ex ex) rx) fun od u H2 k2 e2 ru=>?_
  have I2:=I1.ex e2
  split at k2
  ·next h i hi=>
   split at k2
   ·next hb=>
    rw[aqg]at hb
    obtain⟨a,C,dx,fs,_,m1,m2,ha,rfl,c1,c2,c3,c4,c5,c6⟩:=GJ co fk I2.wok ru hi hb.1
    have nla:l≠a:=fun z=>by
     subst z
     cases I2.wok.inj _ _ _ ha tb
     rw[mm]at m1
     cases m1
     exact m2 rfl
    refine⟨a,C,dx,fs,rfl,c2,c4,c5,?_,?_⟩
    ·have:=of_decide_eq_true hb.2
     rw[c3.len]
     omega
    ·have ch:=Ul (f:=f) (C:=C) (dx:=dx) (fs':=putF f (.ref l) fs) I2.kd I2.wok ha m1 m2 tb mm ow
     have w':=I2.wok.chg I2.kd ch ha m1 m2 c6 c1 c3 upd_same (v:=.ref l) (fl:=.dic true kvs) ⟨l,rfl,if_pos rfl,ju.chg ch.gc.gr I2.kd (upd_ne nla) (dic1.ex e2 I1.kd)⟩
     exact k2 σ _ _ ((gr.trans (Gr.ex e2)).trans ch.gc.gr) (I2.chg ch w')
   ·exact False.elim k2
  ·exact False.elim k2
end
end Rf
namespace Ear
open PySem PySem.Spec PyProof.Rows L2 Evl RZ
abbrev wU(K:aqf)(H:Hp)(v:V)(r:Rw):Prop:=Dp K H v (rD r)
@[irreducible]def Kg (K:aqf) (w:World):List V->Hp->VK->Prop:=fun vs H Q=>∃(l:Addr) (ws:List V) (R D:List Rw),vs=[V.ref l]/\SqL K H l ws/\eY (wU K H) ws R/\D.length<=76/\(∀r∈R,r∈D)/\
 ∀(p:Addr) (L:List Ent),H p=none->(∀e∈L,wU K H (.ref e.1) e.2)->(L.map Prod.snd).Nodup->(∀r,r∈L.map Prod.snd↔r∈R)->L.length<=76->Q (.ref p) (upd H p (Mp w p L))
@[irreducible]def OJ (K:aqf) (w:World):List V->Hp->VK->Prop:=fun vs H Q=>∃(a:Addr) (L:List Ent),vs=[V.ref a]/\H a=some (Mp w a L)/\(∀e∈L,wU K H (.ref e.1) e.2)/\(L.map Prod.snd).Nodup/\L.length<=76/\
 ∀(ys:List V) (M:List Rw) (p:Addr),eY (wU K H) ys M->Fd M->(∀r,r∈M↔r∈L.map Prod.snd)->H p=none->Q (.ref p) (upd H p (.lst ys))
section
variable{X:Cx}
theorem aeu{pins:List (Addr×Obj)}{σ:L2.St}{H:Hp}{s:Shared}(I:Inv X pins σ H s){t:Addr}{r:Rw}(h:wU X.K H (.ref t) r):RI s.heap r t:=by
 refine⟨?_,by rw[ael];decide⟩
 unfold wU rD dT at h
 cases h with
 |tup h1 t1=>
  cases t1 with
  |cons a1 t1=>
   cases t1 with
   |cons a2 t1=>
    cases t1
    cases a1
    cases a2 with
    |tup h2 t2=>
     obtain⟨us,rv,⟨o,ho,hc,n,hd⟩,_⟩:=I.tuple h1
     obtain⟨us2,rv2,⟨o2,ho2,hc2,n2,hd2⟩,_⟩:=I.tuple h2
     refine .tup ho hc hd ?_
     cases rv with
     |cons r1 rv=>
      cases rv with
      |cons r2 rv=>
       cases rv
       obtain⟨tk,rfl⟩:=r1
       cases r2
       have e:∀{vs:List V} {l:List Int},DpAll X.K H vs (l.map PyData.int)->vs=l.map V.int:=by
        intro vs l
        induction l generalizing vs with
        |nil=>intro z;cases z;rfl
        |cons i l ih=>
         intro z
         cases z with
         |cons b1 b2=>
          cases b1
          rw[ih b2]
          rfl
       rw[e t2]at rv2
       exact .cons (.int r.1 tk) (.cons (.tup ho2 hc2 hd2 (by simpa using Vp (P:=X.prog) (w:=X.w) r.2 us2 rv2)) .nil)
theorem Qg{K:aqf}{H:Hp}:∀(ws:List V) (R:List Rw),eY (wU K H) ws R->∃ks:List Ent,ws=(ks.map fun p=>V.ref p.1)/\ks.map Prod.snd=R/\∀p∈ks,wU K H (.ref p.1) p.2
 |[],[],_=>⟨[],rfl,rfl,by simp⟩
 |[],_::_,h=>nomatch h.1
 |_::_,[],h=>nomatch h.1
 |v::ws,r::R,h=>by
  obtain⟨ks,e1,e2,e3⟩:=Qg ws R ⟨aro h.1,fun i v x a b=>h.2 (i+1) v x a b⟩
  have hr:wU K H v r:=h.2 0 v r rfl rfl
  have ev:∃t,v=.ref t:=by
   have z:=hr
   unfold wU rD at z
   cases z with
   |tup _ _=>exact⟨_,rfl⟩
  obtain⟨t,rfl⟩:=ev
  refine⟨(t,r)::ks,by rw[aqj,←e1],by rw[aqj,e2],fun p hp=>?_⟩
  rcases aqv.mp hp with e|hp
  ·rw[e];exact hr
  ·exact e3 p hp
theorem ZQ(hu:X.A.units+65 < cLine)(hc:X.calm=true):CallR X (.type "set") (Kg X.K X.w):=by
 intro pins s σ H vs us Q I r h
 unfold Kg at h
 obtain⟨l,ws,R,D,rfl,hl,hA,hD,hRD,q⟩:=h
 rw[Vals.ref1 r]
 obtain⟨ks,e1,e2,e3⟩:=Qg ws R hA
 obtain⟨its,rv,pl,hz⟩:=I.list hl
 rw[e1]at rv
 have mem:∀p∈ks,p.2∈R:=fun p hp=>by
  rw[←e2]
  exact aqt.mpr ⟨p,hp,rfl⟩
 have hn:H s.heap.objs.size=none:=I.hok.fresh (aqF _)
 refine ZJ (P:=X.prog) (w:=X.w) (hf:=fun r=>(nJ X.prog X.w).hash r) (fun _=>rfl) ks D hD (fun p hp=>hRD _ (mem p hp)) (I.ok.hd hc) pl.isList (by simpa using Vt rv) (fun p hp=>aeu I (e3 p hp)) (by omega) fun h' tk L es ep t S g k=>?_
 have fitL:t.fits es.size=true:=qF.fits (s:={ s with heap:=h',toks:=tk }) S
 have new:ObjOk X.prog X.w (upd H s.heap.objs.size (Mp X.w s.heap.objs.size L)) h' s.heap.objs.size (Mp X.w s.heap.objs.size L):=by
  obtain⟨o,ho,hr⟩:=S.ob
  refine⟨⟨_,es,ep,t,S.ob,S.en,fitL,S.tab.ris,S.ld⟩,⟨o,ho⟩,fun h1 h2 z k2=>?_⟩
  obtain⟨hf2,es2,ep2,t2,⟨o2,ho2,hr2⟩,rest⟩:=(show abj X.w h1 s.heap.objs.size L from z)
  exact⟨hf2,es2,ep2,t2,⟨o2,k2 o2 ho2,hr2⟩,rest⟩
 refine⟨.ref s.heap.objs.size,upd H s.heap.objs.size (Mp X.w s.heap.objs.size L),I.laid (t':=tk) k (aqF _) new,rfl,q _ L hn (fun e he=>e3 e (arb (g.sub e he))) S.nd (fun r=>⟨fun m=>?_,fun m=>?_⟩) S.few⟩
 ·obtain⟨e,he,e5⟩:=aqt.mp m
  rw[←e5]
  exact mem e (arb (g.sub e he))
 ·rw[←e2]at m
  obtain⟨p,hp,e5⟩:=aqt.mp m
  rw[←e5]
  exact g.all p (by rw[List.take_length];exact hp)
theorem abM(hu:X.A.units+65 < cLine)(hc:X.calm=true):CallR X (.builtin "sorted") (OJ X.K X.w):=by
 intro pins s σ H vs us Q I r h
 unfold OJ at h
 obtain⟨a,L,rfl,ha,hL,nd,few,q⟩:=h
 rw[Vals.ref1 r]
 obtain⟨hf,es,ep,t,⟨o,ho,hex,hd⟩,en,fit,ris,led⟩:abj X.w s.heap a L:=(I.hok a _ ha).1
 have len:=yN en
 have ev:∀K:List Ent,(∀p∈K,p∈L)->PySem.W.EachIs (fun v (r:Rw)=>(∃p∈L,v=Value.ref p.1/\r=p.2)/\∃as,Reads s.heap v (rD r) as) ((ents hf K).map (·.2)) (K.map Prod.snd):=by
  intro K
  induction K with
  |nil=>exact fun _=>.nil
  |cons p K ih=>
   intro hK
   have hp:=hK p aql
   exact .cons ⟨⟨p,hp,rfl,rfl⟩,Dp.reads I (rD p.2) (.ref p.1) (.ref p.1) (hL p hp) rfl⟩ (ih fun x hx=>hK x (aqk _ hx))
 refine ZD (enc:=rD) (bs:=L.map Prod.snd) (I.ok.hd hc) ⟨o,ho,hex.1,hd⟩ fit (by unfold scanBound;omega) ris led (by rw[en];exact ev L fun p hp=>hp) (PySem.W.AllAlike.of Vc) (PySem.W.Sortable.tuples fun b=>⟨_,_,rfl⟩) (fun b _=>by rw[(adf b).2];omega) fun s' p out c cs k g' o' hp hg pc eo=>?_
 have mp:=List.mergeSort_perm cs (PySem.W.dataLe false rD)
 have ndm:(cs.mergeSort (PySem.W.dataLe false rD)).Nodup:=(mp.trans pc).nodup_iff.mpr nd
 have srt:=ard (le:=PySem.W.dataLe false rD) (fun a b c k1 k2=>by rw[K8,decide_eq_true_eq]at *;exact List.le_trans k1 k2) (fun a b=>by rw[K8,K8,arn,decide_eq_true_eq,decide_eq_true_eq];exact List.le_total _ _) cs
 generalize cs.mergeSort (PySem.W.dataLe false rD)=M at mp ndm srt eo
 obtain⟨ys,v1,v2⟩:=Vw out M eo
 have up:Fd M:=by
  refine List.Pairwise.imp₂ (fun a b h1 h2=>?_) srt ndm
  rw[K8,decide_eq_true_eq]at h1
  by_cases c:rk a < rk b
  ·exact c
  ·exact absurd (Zm (List.le_antisymm h1 (List.not_lt.mp c))) h2
 have hfr:H p=none:=I.hok.fresh hp
 have hlen:ys.length<=sizeLine:=by
  rw[v2.1,mp.length_eq,pc.length_eq,aqr,sizeLine_eq]
  omega
 have J:Inv X pins σ (upd H p (.lst ys)) { s with heap:=s'.heap,gens:=s'.gens,drawn:=s'.drawn,toks:=s'.toks }:=
  I.call (ch:=[]) (Un.laid k hp hfr) (I.hok.laid k hp ⟨hlen,out,c,v1,hg⟩) (by rw[g'];exact I.bare) (fun _ z=>nomatch z)
 have es':s'={ s with heap:=s'.heap,gens:=s'.gens,drawn:=s'.drawn,toks:=s'.toks }:=by
  cases s'
  cases s
  cases o'
  rfl
 rw[es']
 refine⟨.ref p,_,J,rfl,q ys M p (v2.imp fun v r ⟨e,he,h1,h2⟩=>?_) up (fun r=>(mp.trans pc).mem_iff) hfr⟩
 subst h1 h2
 exact hL e he
end
end Ear
namespace Rf
open PySem PySem.Spec PyProof.Rows L2 Evl
def abn:Dat->Option Ear.Rw
 |.tuple [.int o,.tuple ds]=>(intsOf ds).map fun l=>(o,l)
 |_=>none
def Bq:List Dat->Option (List Ear.Rw)
 |[]=>some []
 |d::ds=>(abn d).bind fun r=>(Bq ds).bind fun rs=>some (r::rs)
theorem JK:∀{ds:List Dat} {l:List Int},intsOf ds=some l->ds=l.map PyData.int
 |[],l,h=>by cases h;rfl
 |.int i::ds,l,h=>by
  rw[intsOf,aqR]at h
  obtain⟨r,h1,rfl⟩:=h
  rw[JK h1]
  rfl
 |.none::_,_,h=>by cases h
 |.bool _::_,_,h=>by cases h
 |.str _::_,_,h=>by cases h
 |.list _::_,_,h=>by cases h
 |.tuple _::_,_,h=>by cases h
 |.dict _::_,_,h=>by cases h
theorem ahk{d:Dat}{r:Ear.Rw}(h:abn d=some r):d=Ear.rD r:=by
 unfold abn at h
 split at h
 ·next o ds=>
  rw[aqR]at h
  obtain⟨l,h1,rfl⟩:=h
  rw[JK h1]
  rfl
 ·cases h
theorem O6:∀{ds:List Dat} {rs:List Ear.Rw},Bq ds=some rs->ds=rs.map Ear.rD
 |[],_,h=>by cases h;rfl
 |d::ds,_,h=>by
  rw[Bq]at h
  obtain⟨r,h1,h⟩:=aqe.mp h
  obtain⟨rs,h2,h⟩:=aqe.mp h
  cases h
  rw[ahk h1,O6 h2]
  rfl
def oW(R:List Ear.Rw):List Ear.Rw:=R.mergeSort fun a b=>decide (Ear.rk a<=Ear.rk b)
def sortI(l:List Int):List Int:=l.mergeSort fun a b=>decide (a<=b)
def bH(R:List Ear.Rw):List Ear.Rw:=oW R.eraseDups
def afU(l:List Int):List Int:=sortI l.eraseDups
theorem Yn:∀(n:Nat) (l:List Int),mU n (l.map PyData.int)=true:=fun n l=>by
 induction l with
 |nil=>rfl
 |cons i l ih=>simp[mU,okd,ih]
theorem JG(n:Nat)(r:Ear.Rw):okd (n+2) (Ear.rD r)=true:=by
 unfold Ear.rD Ear.dT
 simp[okd,mU,Yn]
theorem aaN(n:Nat)(R:List Ear.Rw):mU (n+2) (R.map Ear.rD)=true:=by
 induction R with
 |nil=>rfl
 |cons r R ih=>simp[mU,JG,ih]
def zA:Dat->Out Dat
 |.list ds=>match intsOf ds with
  |some l=>.ok (.list ((sortI l).map PyData.int))
  |none=>match Bq ds with
   |some R=>.ok (.list ((oW R).map Ear.rD))
   |none=>.bad
 |_=>.bad
def QM:Dat->Out Dat
 |.list ds=>match Bq ds with
  |some R=>match decide (R.eraseDups.length<=76) with
   |true=>.ok (.list ((bH R).map Ear.rD))
   |false=>.bad
  |none=>.bad
 |_=>.bad
theorem V4{β:Type}{enc:β->Dat}{le:β->β->Bool}(h:∀a b,PySem.W.dataLe false id (enc a) (enc b)=le a b)(l:List β):(l.map enc).mergeSort (PySem.W.dataLe false id)=(l.mergeSort le).map enc:=by
 rw[List.map_mergeSort (r:=le) (s:=PySem.W.dataLe false id) (fun a _ b _=>(h a b).symm)]
theorem Am{α:Type}[BEq α][LawfulBEq α]{l:List α}{x:α}:x∈l.eraseDups↔x∈l:=by
 induction hn:l.length using Nat.strongRecOn generalizing l with
 |_ n ih=>
  cases l with
  |nil=>simp
  |cons a r=>
   rw[List.eraseDups_cons]
   simp only[aqu]at hn
   have hl:(r.filter fun b=>!b==a).length<=r.length:=aqw _ _
   rw[aqv,ih _ (by omega) rfl,aqC,aqv]
   constructor
   ·rintro(h|h)
    ·exact .inl h
    ·exact .inr h.1
   ·rintro(h|h)
    ·exact .inl h
    ·by_cases e:x=a
     ·exact .inl e
     ·exact .inr ⟨h,by simpa using e⟩
theorem Pq{α:Type}[BEq α][LawfulBEq α]{l:List α}:l.eraseDups.Nodup:=by
 induction hn:l.length using Nat.strongRecOn generalizing l with
 |_ n ih=>
  cases l with
  |nil=>simp
  |cons a r=>
   rw[List.eraseDups_cons]
   simp only[aqu]at hn
   have hl:(r.filter fun b=>!b==a).length<=r.length:=aqw _ _
   refine arl.mpr ⟨fun h=>?_,ih _ (by omega) rfl⟩
   rw[Am,aqC]at h
   simpa using h.2
theorem dB{R:List Ear.Rw}{r:Ear.Rw}:r∈bH R↔r∈R:=by
 unfold bH oW
 rw[List.mem_mergeSort,Am]
theorem Oh(R:List Ear.Rw):Ear.Fd (bH R):=by
 unfold Ear.Fd bH oW
 have srt:=ard (le:=fun a b:Ear.Rw=>decide (Ear.rk a<=Ear.rk b)) (fun a b c k1 k2=>by rw[decide_eq_true_eq]at *;exact List.le_trans k1 k2) (fun a b=>by rw[arn,decide_eq_true_eq,decide_eq_true_eq];exact List.le_total _ _) R.eraseDups
 have nd:(R.eraseDups.mergeSort fun a b=>decide (Ear.rk a<=Ear.rk b)).Nodup:=(List.mergeSort_perm _ _).nodup_iff.mpr Pq
 refine List.Pairwise.imp₂ (fun a b h1 h2=>?_) srt nd
 rw[decide_eq_true_eq]at h1
 by_cases c:Ear.rk a < Ear.rk b
 ·exact c
 ·exact absurd (Ear.Zm (List.le_antisymm h1 (List.not_lt.mp c))) h2
section
variable{K:aqf}{g:Gh}{H:Hp}
theorem Ol{xs:List V}{ds:List Dat}(h:aJ K g H xs ds):∀{ys:List V} {es:List Dat},Ear.eY (Ear.aeF xs ds) ys es->aJ K g H ys es
 |[],[],_=>.nil
 |[],_::_,z=>nomatch z.1
 |_::_,[],z=>nomatch z.1
 |y::ys,e::es,z=>by
  obtain⟨i,h1,h2⟩:=z.2 0 y e rfl rfl
  obtain⟨d,h3,h4⟩:=h.get' h1
  rw[h2]at h3
  cases h3
  exact .cons h4 (Ol h ⟨aro z.1,fun i v x a b=>z.2 (i+1) v x a b⟩)
end
section
variable{X:Cx}{aj:aQ}{W:WX}{a:Expr}{fa:QF}{p p2 pos pos2:Pos}
theorem agr:Jr aj X.K W zA (Ear.Hv X.K):=fun σ g H x d Q k rx h=>by
 unfold zA at h
 split at h
 ·next ds=>
  obtain⟨l,us,rfl,h1,h2⟩:=jd rx
  unfold Ear.Hv
  split at h
  ·next ns hn=>
   have e:=JK hn
   subst e
   refine⟨l,us,ns.map PyData.int,rfl,h1,h2.dp (n:=12) (Yn 12 ns),PySem.W.AllAlike.of (fun a b=>by simp[PySem.W.alike]),PySem.W.Sortable.others (fun b=>⟨(fun z=>nomatch z),fun xs z=>nomatch z⟩),fun d hd=>by
    obtain⟨i,_,rfl⟩:=aqt.mp hd
    simp[PyData.depth],fun ys q hy nq=>?_⟩
   have hs:=V4 (enc:=PyData.int) (le:=fun a b:Int=>decide (a<=b)) (fun a b=>congrFun (congrFun (PySem.W.dataLe_int (fun k:Int=>k)) a) b) ns
   rw[hs]at hy
   exact h (.ref q) _ (Ex.new nq) (.lst (.inl ⟨.inl upd_same,k.fresh nq⟩) ((Ol h2 hy).ex (Ex.new nq) k))
  ·split at h
   ·next R hR=>
    have e:=O6 hR
    subst e
    refine⟨l,us,R.map Ear.rD,rfl,h1,h2.dp (n:=12) (aaN 10 R),PySem.W.AllAlike.of Ear.Vc,PySem.W.Sortable.tuples (fun b=>⟨_,_,rfl⟩),fun d hd=>by
     obtain⟨i,_,rfl⟩:=aqt.mp hd
     rw[(Ear.adf i).2]
     decide,fun ys q hy nq=>?_⟩
    ·have hs:=V4 (enc:=Ear.rD) (le:=fun a b:Ear.Rw=>decide (Ear.rk a<=Ear.rk b)) (fun a b=>by rw[←Ear.K8];rfl) R
     rw[hs]at hy
     exact h (.ref q) _ (Ex.new nq) (.lst (.inl ⟨.inl upd_same,k.fresh nq⟩) ((Ol h2 hy).ex (Ex.new nq) k))
   ·exact False.elim h
 ·exact False.elim h
theorem ags(hu:X.A.units+65 < cLine)(hg:Gl X "sorted")(hm:X.mg "sorted"=none)(ha:QW aj X W a fa)(hs:nst a=true):QE aj X W (.Call (.Name "sorted" p) [a] [] pos) (eX zA fa):=
 afB (.inl rfl) (Ear.abp hu) agr hg hm ⟨by decide +kernel,by decide,by decide⟩ ha hs
theorem aaZ{K:aqf}{g:Gh}{H:Hp}:∀{vs:List V} {l:List Int},DpAll K H vs (l.map PyData.int)->aJ K g H vs (l.map PyData.int)
 |_,[],.nil=>.nil
 |_,_::_,.cons (.int i) t=>.cons (.int i) (aaZ t)
theorem acz{K:aqf}{g:Gh}{H:Hp}{v:V}{r:Ear.Rw}(h:Ear.wU K H v r):Rep K g H v (Ear.rD r):=by
 unfold Ear.wU Ear.rD at h
 cases h with
 |tup h1 t1=>
  cases t1 with
  |cons a1 t1=>
   cases a1
   cases t1 with
   |cons a2 t2=>
    cases t2
    cases a2 with
    |tup h2 t3=>exact .tup h1 (.cons (.int _) (.cons (.tup h2 (aaZ t3)) .nil))
theorem Uz{K:aqf}{g:Gh}{H:Hp}:∀{vs:List V} {R:List Ear.Rw},aJ K g H vs (R.map Ear.rD)->Ear.eY (Ear.wU K H) vs R
 |_,[],.nil=>⟨rfl,fun i v x a b=>by simp at a⟩
 |_,r::R,.cons h t=>by
  have ih:=Uz t
  refine⟨congrArg (· + 1) ih.1,fun i v x a b=>?_⟩
  cases i with
  |zero=>
   simp at a b
   subst a b
   exact h.dp (n:=12) (JG 10 _)
  |succ i=>exact ih.2 i v x (by simpa using a) (by simpa using b)
theorem UG{K:aqf}{g:Gh}{H:Hp}:∀{vs:List V} {R:List Ear.Rw},Ear.eY (Ear.wU K H) vs R->aJ K g H vs (R.map Ear.rD)
 |[],[],_=>.nil
 |[],_::_,h=>nomatch h.1
 |_::_,[],h=>nomatch h.1
 |v::vs,r::R,h=>.cons (acz (h.2 0 v r rfl rfl)) (UG ⟨aro h.1,fun i v x a b=>h.2 (i+1) v x a b⟩)
theorem ahC(hu:X.A.units+65 < cLine)(hc:X.calm=true)(hg:Gl X "sorted")(hm:X.mg "sorted"=none)(hg2:Gl X "set")(hm2:X.mg "set"=none)(ha:QW aj X W a fa)(hs:nst a=true):QE aj X W (.Call (.Name "sorted" p) [.Call (.Name "set" p2) [a] [] pos2] [] pos) (eX QM fa):=by
 have h0:=pa_cons ha pa_nil (cO hs [])
 have h1:PE X (.Call (.Name "set" p2) [a] [] pos2) _:=pe_callTy (Ear.ZQ hu hc) hg2 hm2 (by decide +kernel) h0 (by decide) (by decide) (cO hs []) (by with_unfolding_all rfl)
 have h2:=pa_cons h1 pa_nil (cO rfl [])
 refine PE.weak (pe_callB (p:=p) (pos:=pos) (Ear.abM hu hc) hg hm (by decide +kernel) h2 (by decide) (by decide) (cO rfl []) (by with_unfolding_all rfl)) fun σ H Q ⟨g,ρ,M,I,h⟩=>?_
 refine tW.go I h.bnd fun d v H1 h1 e1 r1=>?_
 have I1:=I.ex e1
 unfold QM at h1
 split at h1
 ·next ds=>
  split at h1
  ·next R hR=>
   split at h1
   ·next hd=>
    have e:=O6 hR
    subst e
    obtain⟨l,us,rfl,s1,s2⟩:=jd r1
    unfold Ear.Kg
    refine⟨l,us,R,R.eraseDups,rfl,s1,Uz s2,of_decide_eq_true hd,fun r hr=>Am.mpr hr,fun q L nq hL nd mem few=>?_⟩
    have eq:Ex H1 (upd H1 q (Ear.Mp X.w q L)):=Ex.new nq
    unfold Ear.OJ
    refine⟨q,L,rfl,upd_same,fun e he=>?_,nd,few,fun ys S z hy up ms nz=>?_⟩
    ·exact(Rep.ex eq I1.kd (acz (g:=g) (hL e he))).dp (n:=12) (JG 10 _)
    ·have hS:S=bH R:=Ear.adE up (Oh R) fun r=>by rw[ms,mem,dB]
     subst hS
     have I2:=I1.ex eq
     exact h1 (.ref z) _ ((e1.trans eq).trans (Ex.new nz)) (.lst (.inl ⟨.inl upd_same,I2.kd.fresh nz⟩) ((UG hy).ex (Ex.new nz) I2.kd))
   ·exact False.elim h1
  ·exact False.elim h1
 ·exact False.elim h1
def af4(it:IF)(tg:fL)(vs:List Nat)(tt:QT)(te:QF):QF:=fun M ρ=>(Ad it tg vs tt te M ρ).bind fun ds=>match intsOf ds with
 |some l=>Out.when (decide (l.length<=4000)) (.ok (.list ((afU l).map PyData.int)))
 |none=>.bad
end
def zm(ρ:Env):Bool:=ρ.all fun o=>match o with
 |some (.mut _)=>false
 |_=>true
theorem XJ{ρ:Env}(h:zm ρ=true){i:Nat}{xs:List Dat}:ρ[i]?≠some (some (.mut xs)):=fun z=>by
 have:=aqD.mp h _ (aqn z)
 cases this
theorem SInv.loc{K:aqf}{aj:aQ}{σ:L2.St}{H:Hp}{g:Gh}{ρ:Env}{M:Mo}{D:Addr}{us us':List V}(I:SInv K aj σ H g ρ M)(n:zm ρ=true)(hD:H D=some (.lst us))(lo:g.Lo D):SInv K aj σ (upd H D (.lst us')) g ρ M where
 kd:=I.kd.upd trivial
 wok:=I.wok.loc I.kd hD lo
 len:=I.len
 dat:=fun i d h=>by
  obtain⟨v,h1,h2⟩:=I.dat i d h
  exact⟨v,h1,ahj I.kd hD lo h2⟩
 own:=fun i xs h=>absurd h (XJ n)
 sep:=fun i j xs ys l ne h1=>absurd h1 (XJ n)
def gQ(tg:fL)(tt:QT)(it1:IF)(tg1:fL)(vs1:List Nat)(tt1:QT)(te:QF)(M:Mo)(ρ:Env):List Dat->Out (List Dat)
 |[]=>.ok []
 |d::ds=>match tg d ρ with
  |none=>.bad
  |some ρ1=>(xV (tt M ρ1)).bind fun b=>if b=true then Out.when (zm ρ1) ((xV (it1 M ρ1)).bind fun es=>(dD tg1 tt1 te M (bZ ρ1 vs1) es).bind fun r1=>(gQ tg tt it1 tg1 vs1 tt1 te M ρ ds).bind fun r=>.ok (r1++r)) else gQ tg tt it1 tg1 vs1 tt1 te M ρ ds
def aag(it:IF)(tg:fL)(vs:List Nat)(tt:QT)(it1:IF)(tg1:fL)(vs1:List Nat)(tt1:QT)(te:QF):IF:=fun M ρ=>(it M ρ).bind fun ds=>(gQ tg tt it1 tg1 vs1 tt1 te M (bZ ρ vs) ds).bind fun r=>Out.when (decide (r.length<=50000)) (.ok r)
def Cy(it:IF)(tg:fL)(vs:List Nat)(tt:QT)(it1:IF)(tg1:fL)(vs1:List Nat)(tt1:QT)(te:QF):QF:=fun M ρ=>(aag it tg vs tt it1 tg1 vs1 tt1 te M ρ).bind fun r=>.ok (.list r)
theorem wH{tg tg1:fL}{tt tt1:QT}{te:QF}{it1:IF}{vs1:List Nat}{M:Mo}{ρ:Env}:∀{ds:List Dat} {x:dN},gQ tg tt it1 tg1 vs1 tt1 te M ρ ds≠.exc x
 |[],_,h=>nomatch h
 |d::ds,x,h=>by
  rw[gQ]at h
  split at h
  ·cases h
  ·next ρ1 e=>
   cases h1:tt M ρ1 with
   |bad=>rw[h1]at h;cases h
   |exc y=>rw[h1]at h;cases h
   |ok b=>
    rw[h1]at h
    cases b with
    |false=>exact wH (ds:=ds) (x:=x) h
    |true=>
     cases hn:zm ρ1 with
     |false=>rw[hn]at h;cases h
     |true=>
      rw[hn]at h
      cases h2:it1 M ρ1 with
      |bad=>rw[h2]at h;cases h
      |exc y=>rw[h2]at h;cases h
      |ok es=>
       rw[h2]at h
       have h:((dD tg1 tt1 te M (bZ ρ1 vs1) es).bind fun r1=>(gQ tg tt it1 tg1 vs1 tt1 te M ρ ds).bind fun r=>Out.ok (r1++r))=.exc x:=h
       cases h3:dD tg1 tt1 te M (bZ ρ1 vs1) es with
       |bad=>rw[h3]at h;cases h
       |exc y=>exact absurd h3 rA
       |ok r1=>
        rw[h3]at h
        have h:((gQ tg tt it1 tg1 vs1 tt1 te M ρ ds).bind fun r=>Out.ok (r1++r))=.exc x:=h
        cases h4:gQ tg tt it1 tg1 vs1 tt1 te M ρ ds with
        |bad=>rw[h4]at h;cases h
        |exc y=>exact absurd h4 wH
        |ok r=>rw[h4]at h;cases h
section
variable{K:aqf}{aj:aQ}{W:WX}
theorem agy{it it1:IF}{tg tg1:fL}{js vs js1 vs1:List Nat}{tt tt1:QT}{te:QF}(hj:∀j∈js,j∈vs)(hj1:∀j∈js1,j∈vs1)(σ:L2.St)(H:Hp)(Q:VK)(h:tFr K aj W (aag it tg vs tt it1 tg1 vs1 tt1 te) σ H Q) :
  tLc2 (tI K aj W false it) (zQ K aj js tg) (j9 K aj WF tt) (tI K aj WF true it1) (zQ K aj js1 tg1) (j9 K aj WF tt1) (tQ K aj WF te) vs vs1 σ H Q:=by
 obtain⟨g,ρ,M,I,h⟩:=h
 refine⟨g,ρ,M,I,h.bnd.mono (fun ds hk J C H1 e1 w c _ D nD=>?_) fun _ z=>z⟩
 obtain⟨total,htot,hlen,hQ⟩:∃total,gQ tg tt it1 tg1 vs1 tt1 te M (bZ ρ vs) ds=.ok total/\total.length<=50000/\∀l us H',H l=none->Ex H H'->H' l=some (.lst us)->aJ K (g.add l) H' us total->Q (.ref l) H':=by
  cases hc:gQ tg tt it1 tg1 vs1 tt1 te M (bZ ρ vs) ds with
  |bad=>rw[hc]at hk;exact False.elim hk
  |exc x=>exact absurd hc wH
  |ok total=>
   rw[hc]at hk
   obtain⟨hz,hk⟩:=Out.sat.pY hk
   exact⟨total,rfl,of_decide_eq_true hz,hk⟩
 have I1:=(I.ex e1).wipe vs
 have kD:∀{Ha:Hp} {us:List V},Ex H1 Ha->Ha D=some (.lst us)->SInv K aj (L2.wipe σ vs) Ha (g.add D) (bZ ρ vs) M:=fun ea hu=>I1.add nD ea hu trivial
 have lD:(g.add D).Lo D:=.inr rfl
 let Pv:Nat->Hp->Prop:=fun i Ha=>Ex H1 Ha/\i<=ds.length/\∃us ys,Ha D=some (.lst us)/\aJ K (g.add D) Ha us ys/\(gQ tg tt it1 tg1 vs1 tt1 te M (bZ ρ vs) (ds.drop i)).sat (fun r=>total=ys++r) fun _=>False
 refine⟨fun i m Ha=>m=ds.length - i/\Pv i Ha,⟨ds.length,rfl,Ex.new nD,aqW _,[],[],upd_same,.nil,?_⟩,?_⟩
 ·rw[arp,htot]
  rfl
 ·rintro i m Ha ⟨rfl,ea,hi,us,ys,hu,hU,hs⟩
  have Ia:=kD ea hu
  have Ca:=w.add g (g.add D) H1 Ha (I.kd.ex e1) c (Gh.Gg nD ea) ea
  by_cases hlt:i < ds.length
  ·refine .inr ⟨w.go _ i Ha Ca hlt,Pv (i+1),fun H' p=>⟨ds.length - (i+1),by omega,rfl,p⟩,fun x H' y=>?_⟩
   have hd:ds[i]?=some ds[i]:=aqi hlt
   obtain⟨e2,rx⟩:=w.yld _ i Ha x H' _ Ia.kd Ca hd y
   have I2:=Ia.ex e2
   rw[aq1 hlt,gQ]at hs
   split at hs
   ·exact False.elim hs
   ·next ρ1 he=>
    refine⟨g.add D,_,M,_,ρ1,I2,rx,he,fun ws I3=>⟨zF js ws _ vs hj |>.trans (Di σ vs),?_⟩⟩
    refine j9.go I3 (Bw hs.bnd) fun b H3 hb e3=>?_
    have I4:=I3.ex e3
    have hu3:=e3 _ _ (e2 _ _ hu)
    have hU3:=(hU.ex e2 Ia.kd).ex e3 I2.kd
    cases b with
    |false=>
     have hb:(gQ tg tt it1 tg1 vs1 tt1 te M (bZ ρ vs) (ds.drop (i+1))).sat (fun r=>total=ys++r) fun _=>False:=hb
     exact⟨(ea.trans e2).trans e3,hlt,us,ys,hu3,hU3,hb⟩
    |true=>
     have hb:(Out.when (zm ρ1) ((xV (it1 M ρ1)).bind fun es=>(dD tg1 tt1 te M (bZ ρ1 vs1) es).bind fun r1=>(gQ tg tt it1 tg1 vs1 tt1 te M (bZ ρ vs) (ds.drop (i+1))).bind fun r=>Out.ok (r1++r))).sat (fun r=>total=ys++r) fun _=>False:=hb
     obtain⟨nm,hb⟩:=hb.pY
     refine⟨g.add D,ρ1,M,I4,(Bw (E':=qM K aj WF (g.add D) H3 _) hb.bnd).mono (fun es hk1 J1 C1 H4 e4 w1 c1 fm=>?_) fun _ z=>z⟩
     have fm:=fm rfl
     -- all that is added by this walk
     obtain⟨r1,r2,hr1,hr2,ht⟩:∃r1 r2,dD tg1 tt1 te M (bZ ρ1 vs1) es=.ok r1/\gQ tg tt it1 tg1 vs1 tt1 te M (bZ ρ vs) (ds.drop (i+1))=.ok r2/\total=ys++(r1++r2):=by
      cases q1:dD tg1 tt1 te M (bZ ρ1 vs1) es with
      |bad=>rw[q1]at hk1;exact False.elim hk1
      |exc y=>exact absurd q1 rA
      |ok r1=>
       rw[q1]at hk1
       have hk1:((gQ tg tt it1 tg1 vs1 tt1 te M (bZ ρ vs) (ds.drop (i+1))).bind fun r=>Out.ok (r1++r)).sat (fun r=>total=ys++r) fun _=>False:=hk1
       cases q2:gQ tg tt it1 tg1 vs1 tt1 te M (bZ ρ vs) (ds.drop (i+1)) with
       |bad=>rw[q2]at hk1;exact False.elim hk1
       |exc y=>exact absurd q2 wH
       |ok r2=>
        rw[q2]at hk1
        exact⟨r1,r2,rfl,rfl,hk1⟩
     let P1:Nat->Hp->Prop:=fun j Hb=>Ex H1 Hb/\SInv K aj (sets (L2.wipe σ vs) js ws) Hb (g.add D) ρ1 M/\C1 (g.add D) Hb/\j<=es.length/\∃us' zs,Hb D=some (.lst us')/\aJ K (g.add D) Hb us' (ys++zs)/\(dD tg1 tt1 te M (bZ ρ1 vs1) (es.drop j)).sat (fun r=>r1=zs++r) fun _=>False
     refine⟨fun j m Hb=>m=es.length - j/\P1 j Hb,⟨es.length,rfl,((ea.trans e2).trans e3).trans e4,I4.ex e4,c1,aqW _,us,[],e4 _ _ hu3,by rw[aq0];exact hU3.ex e4 I4.kd,?_⟩,?_⟩
     ·rw[arp,hr1]
      rfl
     ·rintro j m Hb ⟨rfl,fb,Ib,Cb,hjl,us',zs,hub,hUb,hsb⟩
      by_cases hlj:j < es.length
      ·refine .inr ⟨w1.go _ j Hb Cb hlj,P1 (j+1),fun H' p=>⟨es.length - (j+1),by omega,rfl,p⟩,fun x H' y=>?_⟩
       have hdj:es[j]?=some es[j]:=aqi hlj
       obtain⟨f2,rx⟩:=w1.yld _ j Hb x H' _ Ib.kd Cb hdj y
       have J2:=(Ib.ex f2).wipe vs1
       rw[aq1 hlj,dD]at hsb
       split at hsb
       ·exact False.elim hsb
       ·next ρ2 he1=>
        refine⟨g.add D,_,M,_,ρ2,J2,rx,he1,fun ws1 J3=>⟨zF js1 ws1 _ vs1 hj1 |>.trans (Di _ vs1),?_⟩⟩
        refine j9.go J3 (Bw hsb.bnd) fun b H6 hb6 e6=>?_
        have f26:=f2.trans e6
        have hu6:=f26 _ _ hub
        have hU6:=hUb.ex f26 Ib.kd
        cases b with
        |false=>
         have hb6:(dD tg1 tt1 te M (bZ ρ1 vs1) (es.drop (j+1))).sat (fun r=>r1=zs++r) fun _=>False:=hb6
         exact⟨fb.trans f26,Ib.ex f26,w1.ex _ _ _ Ib.kd Cb f26,hlj,us',zs,hu6,hU6,hb6⟩
        |true=>
         have hb6:((xV (te M ρ2)).bind fun y=>(dD tg1 tt1 te M (bZ ρ1 vs1) (es.drop (j+1))).bind fun r=>Out.ok (y::r)).sat (fun r=>r1=zs++r) fun _=>False:=hb6
         refine tQ.go (J3.ex e6) (Bw hb6.bnd) fun y v H7 hyv e7 ry=>?_
         have f27:=f26.trans e7
         have Ib7:=Ib.ex f27
         have hu7:=f27 _ _ hub
         have hU7:=hUb.ex f27 Ib.kd
         have hyv:=hyv.bnd
         have hr:∃r,dD tg1 tt1 te M (bZ ρ1 vs1) (es.drop (j+1))=.ok r/\r1=zs++y::r:=by
          cases q1:dD tg1 tt1 te M (bZ ρ1 vs1) (es.drop (j+1)) with
          |bad=>rw[q1]at hyv;exact False.elim hyv
          |exc y=>exact absurd q1 rA
          |ok r=>
           rw[q1]at hyv
           exact⟨r,rfl,hyv⟩
         obtain⟨r,hr,hr1'⟩:=hr
         have hll:us'.length < 50000:=by
          rw[hUb.length]
          rw[ht,hr1']at hlen
          simp at hlen ⊢
          omega
         refine⟨us',hu7,sz_lt (Nat.lt_trans hll (by decide)),Ex.mut (fb.trans f27) nD,Ib7.loc nm hu7 lD,fm true _ _ _ _ Ib7.kd (w1.ex _ _ _ Ib.kd Cb f27) (Gr.upd Ib7.kd hu7 (.inr lD)),hlj,us'++[v],zs++[y],upd_same,?_,?_⟩
         ·rw[←List.append_assoc]
          exact XC Ib7.kd hu7 lD (hU7.append (.cons ry .nil))
         ·rw[hr]
          show r1=_
          rw[hr1']
          simp
      ·have e:j=es.length:=by omega
       refine .inl ⟨w1.stop _ j Hb Cb e,?_⟩
       rw[e,aq5]at hsb
       have hsb:r1=zs++[]:=hsb
       rw[aq0]at hsb
       subst hsb
       refine⟨fb,hlt,us',ys++r1,hub,hUb,?_⟩
       rw[hr2]
       show total=_
       rw[ht,List.append_assoc]
  ·have e:i=ds.length:=by omega
   refine .inl ⟨w.stop _ i Ha Ca e,?_⟩
   rw[e,aq5]at hs
   have hs:total=ys++[]:=hs
   rw[aq0]at hs
   subst hs
   exact hQ D us Ha (CJ e1 D nD) (e1.trans ea) hu hU
theorem ab9{it it1:IF}{tg tg1:fL}{js vs js1 vs1:List Nat}{tt tt1:QT}{te:QF}(hj:∀j∈js,j∈vs)(hj1:∀j∈js1,j∈vs1)(σ:L2.St)(H:Hp)(Q:VK)(h:tQ K aj W (Cy it tg vs tt it1 tg1 vs1 tt1 te) σ H Q) :
  tLc2 (tI K aj W false it) (zQ K aj js tg) (j9 K aj WF tt) (tI K aj WF true it1) (zQ K aj js1 tg1) (j9 K aj WF tt1) (tQ K aj WF te) vs vs1 σ H Q:=by
 obtain⟨g,ρ,M,I,h⟩:=h
 refine agy hj hj1 σ H Q ⟨g,ρ,M,I,h.bnd.mono (fun xs hk l us H' nl e hl r=>?_) fun _ z=>z⟩
 refine hk (.ref l) H' e (.lst (.inl ⟨.inl hl,fun z=>?_⟩) (aJ.less (g:=g.add l) (g':=g) rfl (fun a z=>?_) r))
 ·exact I.kd.fresh nl z
 ·rcases z with z|z|z
  ·exact .inl z
  ·exact .inr (.inl z)
  ·exact .inr (.inr (.inl z))
end
section
variable{X:Cx}{aj:aQ}{W:WX}{q:Bool}{elt tg iter tg1 iter1:Expr}{ifs ifs1:List Expr}{scope:Scope}{own:List (Str×Nat)}{it it1:IF}{tgf tgf1:fL}{js js1 vs1:List Nat}{tt tt1:QT}{te:QF}{pos cpos:Pos}
theorem ah1(hc:X.calm=true)(hN:X.N.Nodup)(hi:QI aj X W false tg iter it)(ok:blkC X.N X.env.scope scope own=true)(hv:∀i∈vs1,i∈own.map (·.2))(hj:∀j∈js,j∈own.map (·.2))(hj1:∀j∈js1,j∈vs1)
  (hg:∀(s:Shared) (H:Hp) (C:Addr) (cl:List (Str×Addr)) (fp:List Addr),QG aj (X.blk s H scope (compEnvC scope cl C X.env) fp) tg js tgf)
  (ht:∀(s:Shared) (H:Hp) (C:Addr) (cl:List (Str×Addr)) (fp:List Addr),PTs (X.blk s H scope (compEnvC scope cl C X.env) fp) ifs (j9 X.K aj WF tt))
  (hi1:∀(s:Shared) (H:Hp) (C:Addr) (cl:List (Str×Addr)) (fp:List Addr),QI aj (X.blk s H scope (compEnvC scope cl C X.env) fp) WF true tg1 iter1 it1)
  (hg1:∀(s:Shared) (H:Hp) (C:Addr) (cl:List (Str×Addr)) (fp:List Addr),QG aj (X.blk s H scope (compEnvC scope cl C X.env) fp) tg1 js1 tgf1)
  (ht1:∀(s:Shared) (H:Hp) (C:Addr) (cl:List (Str×Addr)) (fp:List Addr),PTs (X.blk s H scope (compEnvC scope cl C X.env) fp) ifs1 (j9 X.K aj WF tt1))
  (he:∀(s:Shared) (H:Hp) (C:Addr) (cl:List (Str×Addr)) (fp:List Addr),QE aj (X.blk s H scope (compEnvC scope cl C X.env) fp) WF elt te) (hs:∀x,foldedSetIterable iter X.env x=pure x) (hs1:∀env x,foldedSetIterable iter1 env x=pure x) :
  QE aj X W (.ListComp elt [⟨tg,iter,ifs,0⟩,⟨tg1,iter1,ifs1,0⟩] scope pos) (Cy it tgf (own.map (·.2)) tt it1 tgf1 vs1 tt1 te):=
 PE.weak (pe_lc2 (g:=zQ X.K aj js tgf) (tt:=j9 X.K aj WF tt) (wi1:=tI X.K aj WF true it1) (g1:=zQ X.K aj js1 tgf1) (tt1:=j9 X.K aj WF tt1) (te:=tQ X.K aj WF te) hc hN hi (blkOk_by ok) hv (fun s H C cl fp=>hg s H C cl fp) ht (fun s H C cl fp=>hi1 s H C cl fp) (fun s H C cl fp=>hg1 s H C cl fp) ht1 (fun s H C cl fp=>he s H C cl fp) hs hs1) fun σ H Q h=>ab9 hj hj1 σ H Q h
theorem agP{j:Nat}{y:Str}{py:Pos}(hc:X.calm=true)(hN:X.N.Nodup)(hy:X.N[j]?=some y)(hyl:X.env.scope.names.lookup y=some .local)(hsw:swapsWith (.ListComp elt [⟨tg,iter,ifs,0⟩,⟨tg1,iter1,ifs1,0⟩] scope cpos) (some (.Name y py)) pos.line X.env=pure true)
  (hi:QI aj X W false tg iter it) (ok:blkC X.N X.env.scope scope own=true) (hv:∀i∈vs1,i∈own.map (·.2)) (hj:∀j∈js,j∈own.map (·.2)) (hj1:∀j∈js1,j∈vs1)
  (hg:∀(s:Shared) (H:Hp) (C:Addr) (cl:List (Str×Addr)) (fp:List Addr),QG aj (X.blk s H scope (compEnvC scope cl C X.env) fp) tg js tgf)
  (ht:∀(s:Shared) (H:Hp) (C:Addr) (cl:List (Str×Addr)) (fp:List Addr),PTs (X.blk s H scope (compEnvC scope cl C X.env) fp) ifs (j9 X.K aj WF tt))
  (hi1:∀(s:Shared) (H:Hp) (C:Addr) (cl:List (Str×Addr)) (fp:List Addr),QI aj (X.blk s H scope (compEnvC scope cl C X.env) fp) WF true tg1 iter1 it1)
  (hg1:∀(s:Shared) (H:Hp) (C:Addr) (cl:List (Str×Addr)) (fp:List Addr),QG aj (X.blk s H scope (compEnvC scope cl C X.env) fp) tg1 js1 tgf1)
  (ht1:∀(s:Shared) (H:Hp) (C:Addr) (cl:List (Str×Addr)) (fp:List Addr),PTs (X.blk s H scope (compEnvC scope cl C X.env) fp) ifs1 (j9 X.K aj WF tt1))
  (he:∀(s:Shared) (H:Hp) (C:Addr) (cl:List (Str×Addr)) (fp:List Addr),QE aj (X.blk s H scope (compEnvC scope cl C X.env) fp) WF elt te) (hs:∀x,foldedSetIterable iter X.env x=pure x) (hs1:∀env x,foldedSetIterable iter1 env x=pure x) :
  SE aj X W q (.Assign [.Name y py] (.ListComp elt [⟨tg,iter,ifs,0⟩,⟨tg1,iter1,ifs1,0⟩] scope cpos) pos) (bD (aG j) (gOf (Cy it tgf (own.map (·.2)) tt it1 tgf1 vs1 tt1 te))):=by
 refine PS.weak (ps_setLc2 (g:=zQ X.K aj js tgf) (tt:=j9 X.K aj WF tt) (wi1:=tI X.K aj WF true it1) (g1:=zQ X.K aj js1 tgf1) (tt1:=j9 X.K aj WF tt1) (te:=tQ X.K aj WF te) hc hN hy hyl hsw hi (blkOk_by ok) hv (fun s H C cl fp=>hg s H C cl fp) ht (fun s H C cl fp=>hi1 s H C cl fp) (fun s H C cl fp=>hg1 s H C cl fp) ht1 (fun s H C cl fp=>he s H C cl fp) hs hs1) fun D σ H ⟨g,ρ,M,I,z⟩=>?_
 refine ab9 hj hj1 σ H _ ⟨g,ρ,M,I,(Out.iZ (dw (σ:=σ) z)).mono (fun d kk v H' e r=>?_) fun x kk H' c dd e r=>kk H' g c dd (Gr.ex e) (I.ex e) r⟩
 exact kk _ H' g (Gr.ex e) ((I.ex e).set r)
end
def TQ(neg:Bool)(kvs:List (Str×Dat))(k:QF):QF:=fun M ρ=>(k M ρ).bind fun d=>match d with
 |.str x=>.ok (.bool (neg ^^ (kvs.lookup x).isSome))
 |_=>.bad
def abo(kvs:List (Str×Dat))(k:QF):QF:=fun M ρ=>(k M ρ).bind fun d=>match d with
 |.str x=>match kvs.lookup x with
  |some y=>.ok y
  |none=>.bad
 |_=>.bad
section
variable{X:Cx}{aj:aQ}{W:WX}{a:Expr}{fa:QF}{x:Str}{p pos:Pos}{kvs:List (Str×Dat)}{k:Nat}
theorem acK{neg:Bool}{d:Addr}(D:abD X.w X.K d kvs)(σ:L2.St)(H:Hp)(Q:VK)(h:tQ X.K aj W (TQ neg kvs fa) σ H Q) :
  tOp (fun x y H Q=>∃(z:Str) (r:Option Value),x=.str z/\y=.ref d/\PySem.W.nsIn X.K d z=some r/\Q (.bl (neg ^^ r.isSome)) H) (tW X.K aj W fa) (tC (.ref d)) σ H Q:=by
 obtain⟨g,ρ,M,I,h⟩:=h
 refine tW.go I h.bnd fun e v H1 h1 e1 r1=>?_
 split at h1
 ·next z=>
  cases jO r1
  obtain⟨es,n,_,_,hl⟩:=D
  have hz:=hl z
  cases hk:kvs.lookup z with
  |none=>
   rw[hk]at hz h1
   exact⟨z,none,rfl,rfl,hz,h1 _ H1 e1 (.bl _)⟩
  |some d'=>
   rw[hk]at hz h1
   obtain⟨v,u,h2,_⟩:=hz
   exact⟨z,some u,rfl,rfl,h2,h1 _ H1 e1 (.bl _)⟩
 ·exact False.elim h1
theorem opG{neg:Bool}{op:CmpOp}{d:Addr}(hn:(op=.In/\neg=false)∨(op=.NotIn/\neg=true))(D:abD X.w X.K d kvs):OpR X (compareOp op) (fun x y H Q=>∃(z:Str) (r:Option Value),x=.str z/\y=.ref d/\PySem.W.nsIn X.K d z=some r/\Q (.bl (neg ^^ r.isSome)) H):=by
 obtain⟨es,n,D,_⟩:=D
 rcases hn with⟨rfl,rfl⟩|⟨rfl,rfl⟩
 ·have:=op_in_kd (X:=X) D
  simpa only[Bool.false_xor] using this
 ·have:=op_notIn_kd (X:=X) D
  simpa only[Bool.true_xor] using this
theorem aiJ{neg:Bool}{op:CmpOp}(hn:(op=.In/\neg=false)∨(op=.NotIn/\neg=true))(g:bf X.prog X.w X.K X.mg X.base aj k x (.dic kvs))(hg:Gl X x)(hd:(x==("__debug__" : Str))=false)(ha:QW aj X W a fa):QE aj X W (.Compare a [op] [.Name x p] pos) (TQ neg kvs fa)/\rR aj X W (.Compare a [op] [.Name x p] pos) (bx (TQ neg kvs fa)):=by
 obtain⟨d,hm,D⟩:=g
 have hb:PE X (.Name x p) (tC (.ref d)):=pe_glob hg hm rfl hd
 refine⟨PE.weak (pe_cmpR (opG hn D) ha hb (by cases op <;> rfl)) fun σ H Q h=>acK D σ H Q h,PT.weak (pt_cmpR (opG hn D) ha hb (by cases op <;> rfl)) fun σ H Q ⟨g,ρ,M,I,h⟩=>?_⟩
 refine acK D σ H _ ⟨g,ρ,M,I,h.bnd.mono (fun d h1 v H' e' r'=>?_) fun _ z=>z⟩
 obtain⟨k,h2,h3⟩:=Dt r'.weak h1
 exact⟨k,h2,h3 H' e'⟩
theorem ajs(g:bf X.prog X.w X.K X.mg X.base aj k x (.dic kvs))(hg:Gl X x)(hd:(x==("__debug__" : Str))=false)(ha:QW aj X W a fa)(hp:PlainIx a):QE aj X W (.Subscript (.Name x p) a pos) (abo kvs fa):=by
 obtain⟨d,hm,es,n,D,_,hl⟩:=g
 have hb:PE X (.Name x p) (tC (.ref d)):=pe_glob hg hm rfl hd
 refine PE.weak (pe_ix ix_kdict hb ha hp) fun σ H Q ⟨g,ρ,M,I,h⟩=>?_
 refine tW.go I h.bnd fun e v H1 h1 e1 r1=>?_
 split at h1
 ·next z=>
  cases jO r1
  have hz:=hl z
  split at h1
  ·next y hk=>
   rw[hk]at hz
   obtain⟨v,u,h2,h3,h4⟩:=hz
   exact⟨d,z,v,rfl,rfl,⟨es,n,u,D.at_,D.lit,h2,h3⟩,h1 v H1 e1 (h4 g H1)⟩
  ·exact False.elim h1
 ·exact False.elim h1
end
structure Hs where
 Ms:List (Str×List (Str×MV))
 ft:Ft
 xm:List (Str×List (Str×Bool))
 df:List (Str×Bool)
 xf:List (Str×List Str)
structure Ss(P:Program)(w:World)(K:aqf)(mg:Str->Option Value)(base:Heap)(aj:aQ)(k:Nat)(h:Hs):Prop where
 ms:∀m tb,h.Ms.lookup m=some tb->∀c v,tb.lookup c=some v->bW P w K mg base aj k c m v
 fk:Lf h.ft aj
 co:jr K aj
 hw:aj.w=w
 xm:∀y tab,h.xm.lookup y=some tab->(∃D,aj y=some D)/\abk K aj y fun x=>tab.lookup x
 xf:∀y fs,h.xf.lookup y=some fs->∃C,aj y=some C/\XfC K C/\∀f∈fs,PySem.W.findIn K (.ref C) f=some none
structure Tc where
 N:List Str
 sc:Scope
 G:List (Str×GV)
 B:List Str
 hs:Hs
 ml:List Str
 top:Bool
structure Amb(aj:aQ)(c:Tc)(X:Cx)(W:WX)(k:Nat):Prop where
 hN:X.N=c.N
 hs:X.env.scope=c.sc
 calm:X.calm=true
 nd:X.N.Nodup
 tk:Takes X W
 rm:Room k X.A
 gl:∀x v,c.G.lookup x=some v->bf X.prog X.w X.K X.mg X.base aj k x v
 bl:∀x,x∈c.B->X.mg x=none
 fn:c.top=true->∀x,X.fn x=true
 hk:Ss X.prog X.w X.K X.mg X.base aj k c.hs
def gd{α:Type}(b:Bool)(o:Option α):Option α:=match b with
 |true=>o
 |false=>none
theorem aW{α:Type}{b:Bool}{o:Option α}{x:α}:gd b o=some x↔b=true/\o=some x:=by
 cases b
 ·exact⟨fun h=>(nomatch h),fun h=>(nomatch h.1)⟩
 ·exact⟨fun h=>⟨rfl,h⟩,fun h=>h.2⟩
def idx:List Str->Str->Option Nat
 |[],_=>none
 |y::ys,x=>match y==x with
  |true=>some 0
  |false=>(idx ys x).map (· + 1)
theorem Tn:∀{N:List Str} {x:Str} {i:Nat},idx N x=some i->N[i]?=some x
 |[],_,_,h=>nomatch h
 |y::ys,x,i,h=>by
  rw[idx]at h
  split at h
  ·next e=>
   cases h
   rw[List.getElem?_cons_zero,eq_of_beq e]
  ·rw[aqR]at h
   obtain⟨j,h1,rfl⟩:=h
   rw[List.getElem?_cons_succ]
   exact Tn h1
def aee(sc:Scope)(x:Str):Bool:=match sc.names.lookup x with
 |some .local=>true
 |some .cell=>true
 |some .free=>true
 |_=>false
theorem agw{sc:Scope}{x:Str}(h:aee sc x=true):Vis sc x:=by
 unfold aee at h
 unfold Vis
 split at h
 ·next e=>exact .inl e
 ·next e=>exact .inr (.inl e)
 ·next e=>exact .inr (.inr e)
 ·cases h
def Ez(x:Str):Bool:=(x==("__debug__" : Str)) || (x==("__classdict__" : Str))
theorem tM{x:Str}(h:Ez x=false):(x==("__debug__" : Str))=false/\(x==("__classdict__" : Str))=false:=by
 unfold Ez at h
 rw[Bool.or_eq_false_iff]at h
 exact h
def Fw(sc:Scope)(x:Str):Bool:=match sc.names.lookup x with
 |some .globalImplicit=>true
 |_=>false
def Ld(c:Tc)(x:Str):Option Nat:=gd (aee c.sc x&&!Ez x) (idx c.N x)
def ah7(c:Tc)(x:Str):Bool:=match c.sc.names.lookup x with
 |some .local=>true
 |some .cell=>c.top
 |_=>false
def vh(c:Tc)(x:Str):Option Nat:=gd (ah7 c x) (idx c.N x)
section
variable{aj:aQ}{c:Tc}{X:Cx}{W:WX}{k:Nat}{x:Str}{i:Nat}
theorem sH(a:Amb aj c X W k)(h:Fw c.sc x=true):Gl X x:=by
 unfold Fw at h
 unfold Gl PySem.Env.kindOf
 rw[a.hs]
 split at h
 ·assumption
 ·cases h
theorem zP(a:Amb aj c X W k)(h:Ld c x=some i):X.N[i]?=some x/\Vis X.env.scope x/\(x==("__debug__" : Str))=false/\(x==("__classdict__" : Str))=false:=by
 obtain⟨h1,h2⟩:=aW.mp h
 rw[aqg]at h1
 obtain⟨d1,d2⟩:=tM (by simpa using h1.2)
 exact⟨by rw[a.hN];exact Tn h2,by rw[a.hs];exact agw h1.1,d1,d2⟩
theorem mO(a:Amb aj c X W k)(h:vh c x=some i):X.N[i]?=some x/\L2.Loc X.env.scope x/\(X.fn x=true∨X.env.scope.names.lookup x=some .local):=by
 obtain⟨h1,h2⟩:=aW.mp h
 unfold ah7 at h1
 refine⟨by rw[a.hN];exact Tn h2,?_⟩
 rw[a.hs]
 unfold L2.Loc
 split at h1
 ·next e=>exact⟨.inl e,.inr e⟩
 ·next e=>exact⟨.inr e,.inl (a.fn h1 x)⟩
 ·cases h1
def uO(c:Tc)(x y:Str):Bool:=(x==y)&&(Fw c.sc x&&c.B.contains x)
theorem nu{y:Str}(a:Amb aj c X W k)(h:uO c x y=true):x=y/\Gl X x/\X.mg x=none:=by
 unfold uO at h
 rw[aqg,aqg]at h
 exact⟨eq_of_beq h.1,sH a h.2.1,a.bl x (by simpa using h.2.2)⟩
end
def yE:Expr->Bool
 |.Set _ _ _=>true
 |_=>false
theorem Cz{b:Expr}{op:CmpOp}(h:yE b=false):behindInMarks op b=false:=by
 cases b <;> first | rfl | cases h
theorem Uu{b c:Expr}{op op':CmpOp}(h:yE c=false):lastMarks [op,op'] [b,c]=false:=Cz h
theorem qZ{e:Expr}{env:PySem.Env}(h:yE e=false):∀x,foldedSetIterable e env x=pure x:=fun x=>by
 cases e <;> first | rfl | cases h
def Xb:Expr->Bool
 |.Slice _ _ _ _=>true
 |_=>false
def aiA:Operator->Option (Dat->Dat->Out Dat)
 |.Add=>some eV
 |.Sub=>some mK
 |.Mult=>some Ah
 |.FloorDiv=>some Iu
 |.Mod=>some oR
 |.Pow=>some Xu
 |_=>none
def Od:CmpOp->Option (Dat->Dat->Out Dat)
 |.Eq=>some cC
 |.NotEq=>some u9
 |.Lt=>some Qy
 |.LtE=>some uZ
 |.Gt=>some Xp
 |.GtE=>some geD
 |.In=>some (inD false)
 |.NotIn=>some (inD true)
 |_=>none
theorem ahx{op:Operator}{o:Dat->Dat->Out Dat}(h:aiA op=some o)(X:Cx)(aj:aQ)(W:WX):∃r,OpR X (binaryOp op) r/\qb aj X.K W o r:=by
 cases op <;> cases h
 ·exact⟨_,ahg,aiX⟩
 ·exact⟨_,op_sub,ajg⟩
 ·exact⟨_,op_mul,aiE⟩
 ·exact⟨_,op_mod,aj4⟩
 ·exact⟨_,op_pow,ahZ⟩
 ·exact⟨_,op_fdiv,ahJ⟩
theorem Bv{op:CmpOp}{o:Dat->Dat->Out Dat}(h:Od op=some o){X:Cx}{k:Nat}(hr:Room k X.A)(aj:aQ)(W:WX):∃r,OpR X (compareOp op) r/\qb aj X.K W o r:=by
 have h65:X.A.units+65 < cLine:=by have:=hr.un;omega
 cases op <;> cases h
 ·exact⟨_,ahG hr.units,akG⟩
 ·exact⟨_,ai2 hr.units,akW⟩
 ·exact⟨_,aiO h65,alm⟩
 ·exact⟨_,op_le,akT⟩
 ·exact⟨_,op_gt,akM⟩
 ·exact⟨_,op_ge,akX⟩
 ·exact⟨_,aiu h65,afs⟩
 ·exact⟨_,ab6 h65,afs⟩
def T9:Expr->Option Dat
 |.Constant .none _ _=>some .none
 |.Constant (.bool b) _ _=>some (.bool b)
 |_=>none
theorem aa1{e:Expr}{d:Dat}{X:Cx}(h:T9 e=some d):∃v,scD d=some v/\(v=.non∨∃b,v=.bl b)/\PE X e (tC v):=by
 unfold T9 at h
 split at h
 ·cases h;exact⟨_,rfl,.inl rfl,pe_non⟩
 ·cases h;exact⟨_,rfl,.inr ⟨_,rfl⟩,pe_bl⟩
 ·cases h
def isN:CmpOp->Option Bool
 |.Is=>some false
 |.IsNot=>some true
 |_=>none
theorem adV{op:CmpOp}{neg:Bool}{v:V}{X:Cx}(h:isN op=some neg)(hv:v=.non∨∃b,v=.bl b):OpR X (compareOp op) (Zg neg v):=by
 cases op <;> cases h
 ·exact akl hv
 ·exact acL hv
def b1D(x:Str):Option (Dat->Out Dat):=
 if x=="len" then some pB else if x=="abs" then some Uh else if x=="sum" then some Ue else if x=="max" then some maxD else if x=="all" then some N8 else if x=="any" then some N5
 else if x=="tuple" then some mJ else if x=="list" then some Mj else if x=="int" then some intD else
 none
def b2D(x:Str):Option (Dat->Dat->Out Dat):=if x=="max" then some qD else if x=="min" then some HX else none
theorem akk{x:Str}{o:Dat->Out Dat}{X:Cx}(hc:X.calm=true)(h:b1D x=some o)(aj:aQ)(W:WX):∃(f:Value) (id:String) (r:List V->Hp->VK->Prop),(f=.builtin id∨f=.type id)/\CallR X f r/\Jr aj X.K W o r/\BV f x:=by
 unfold b1D at h
 split at h
 ·next e=>cases h;cases eq_of_beq e;exact⟨_,_,_,.inl rfl,aje,ais,by decide +kernel,by decide,by decide⟩
 split at h
 ·next e=>cases h;cases eq_of_beq e;exact⟨_,_,_,.inl rfl,call_abs,akm,by decide +kernel,by decide,by decide⟩
 split at h
 ·next e=>cases h;cases eq_of_beq e;exact⟨_,_,_,.inl rfl,cr_sum hc,aio,by decide +kernel,by decide,by decide⟩
 split at h
 ·next e=>cases h;cases eq_of_beq e;exact⟨_,_,_,.inl rfl,cr_max hc,ajc,by decide +kernel,by decide,by decide⟩
 split at h
 ·next e=>cases h;cases eq_of_beq e;exact⟨_,_,_,.inl rfl,cr_all hc,akg,by decide +kernel,by decide,by decide⟩
 split at h
 ·next e=>cases h;cases eq_of_beq e;exact⟨_,_,_,.inl rfl,cr_any hc,ai7,by decide +kernel,by decide,by decide⟩
 split at h
 ·next e=>cases h;cases eq_of_beq e;exact⟨_,_,_,.inr rfl,call_tuple_of,aeM,by decide +kernel,by decide,by decide⟩
 split at h
 ·next e=>cases h;cases eq_of_beq e;exact⟨_,_,_,.inr rfl,call_list_of,agb,by decide +kernel,by decide,by decide⟩
 split at h
 ·next e=>cases h;cases eq_of_beq e;exact⟨_,_,_,.inr rfl,aj2,aiq,by decide +kernel,by decide,by decide⟩
 ·cases h
theorem ajJ{x:Str}{o:Dat->Dat->Out Dat}{X:Cx}(hc:X.calm=true)(h:b2D x=some o)(aj:aQ)(W:WX):∃(f:Value) (id:String) (r:List V->Hp->VK->Prop),(f=.builtin id∨f=.type id)/\CallR X f r/\Fn2 aj X.K W o r/\BV f x:=by
 unfold b2D at h
 split at h
 ·next e=>cases h;cases eq_of_beq e;exact⟨_,_,_,.inl rfl,call_max2 hc,ahq,by decide +kernel,by decide,by decide⟩
 split at h
 ·next e=>cases h;cases eq_of_beq e;exact⟨_,_,_,.inl rfl,call_min2 hc,agE,by decide +kernel,by decide,by decide⟩
 ·cases h
def tyN(x:Str):Option M9:=if x=="int" then some .int else if x=="bool" then some .bool else if x=="str" then some .str else if x=="tuple" then some .tuple else if x=="list" then some .list else none
theorem aiP{x:Str}{t:M9}(h:tyN x=some t):BV (.type t.name) x:=by
 unfold tyN at h
 split at h
 ·next e=>cases h;cases eq_of_beq e;exact⟨by decide +kernel,by decide,by decide⟩
 split at h
 ·next e=>cases h;cases eq_of_beq e;exact⟨by decide +kernel,by decide,by decide⟩
 split at h
 ·next e=>cases h;cases eq_of_beq e;exact⟨by decide +kernel,by decide,by decide⟩
 split at h
 ·next e=>cases h;cases eq_of_beq e;exact⟨by decide +kernel,by decide,by decide⟩
 split at h
 ·next e=>cases h;cases eq_of_beq e;exact⟨by decide +kernel,by decide,by decide⟩
 ·cases h
structure Tr where
 E:Tc->Expr->Option QF
 W:Tc->Expr->Option QF
 T:Tc->Expr->Option QT
 I:Tc->Bool->Expr->Expr->Option IF
structure Tr.Ok(t:Tr):Prop where
 oe:∀{aj:aQ} {c:Tc} {X:Cx} {W:WX} {k:Nat},Amb aj c X W k->∀{e:Expr} {f:QF},t.E c e=some f->QE aj X W e f
 ow:∀{aj:aQ} {c:Tc} {X:Cx} {W:WX} {k:Nat},Amb aj c X W k->∀{e:Expr} {f:QF},t.W c e=some f->QW aj X W e f
 ot:∀{aj:aQ} {c:Tc} {X:Cx} {W:WX} {k:Nat},Amb aj c X W k->∀{e:Expr} {f:QT},t.T c e=some f->rR aj X W e f
 oi:∀{aj:aQ} {c:Tc} {X:Cx} {W:WX} {k:Nat},Amb aj c X W k->∀{firm:Bool} {tg e:Expr} {f:IF},t.I c firm tg e=some f->QI aj X W firm tg e f
def Jl(t:Tr)(c:Tc):List Expr->Option QA
 |[]=>some au
 |a::es=>gd (nst a) ((t.E c a).bind fun fa=>(Jl t c es).bind fun fr=>some (ak fa fr))
section
variable{aj:aQ}{c:Tc}{X:Cx}{W:WX}{k:Nat}{t:Tr}
theorem uV(o:t.Ok)(a:Amb aj c X W k):∀{es:List Expr} {f:QA},Jl t c es=some f->Gk aj X W es f/\es.all nst=true/\∀M ρ ds,f M ρ=.ok ds->ds.length=es.length
 |[],f,h=>by
  cases h
  exact⟨ai9,rfl,fun M ρ ds e=>by cases e;rfl⟩
 |e::es,f,h=>by
  rw[Jl,aW]at h
  obtain⟨hs,h⟩:=h
  obtain⟨fa,h1,h⟩:=aqe.mp h
  obtain⟨fr,h2,h⟩:=aqe.mp h
  cases h
  obtain⟨i1,i2,i3⟩:=uV o a h2
  refine⟨agL (o.oe a h1) i1 (cO hs es),by simp[hs,i2],fun M ρ ds e=>?_⟩
  unfold ak at e
  cases hf:fa M ρ with
  |ok d=>
   rw[hf]at e
   cases hr:fr M ρ with
   |ok dr=>
    rw[hr]at e
    cases e
    simp[i3 M ρ dr hr]
   |exc y=>rw[hr]at e;cases e
   |bad=>rw[hr]at e;cases e
  |exc y=>rw[hf]at e;cases e
  |bad=>rw[hf]at e;cases e
end
def trO(t:Tr)(c:Tc):Option Expr->Option QO
 |none=>some Ab
 |some a=>(t.W c a).bind fun fa=>some (qW fa)
theorem acj{aj:aQ}{c:Tc}{X:Cx}{W:WX}{k:Nat}{t:Tr}(o:t.Ok)(a:Amb aj c X W k){e:Option Expr}{f:QO}(h:trO t c e=some f):QOe aj X W e f:=by
 cases e with
 |none=>cases h;exact agB
 |some e=>
  obtain⟨fa,h1,h⟩:=aqe.mp h
  cases h
  exact agZ (o.ow a h1)
def Yx(c:Tc):List Expr->Option (List Nat)
 |[]=>some []
 |.Name x _::es=>(vh c x).bind fun i=>(Yx c es).bind fun js=>some (i::js)
 |_::_=>none
def UJ(c:Tc):Expr->Option (List Nat×fL)
 |.Name x _=>(vh c x).bind fun i=>some ([i],aG i)
 |.Tuple es _ _=>(Yx c es).bind fun js=>some (js,bA js)
 |_=>none
theorem S7{aj:aQ}{c:Tc}{X:Cx}{W:WX}{k:Nat}(a:Amb aj c X W k):∀{es:List Expr} {js:List Nat},Yx c es=some js->QC X es js
 |[],js,h=>by cases h;trivial
 |.Name x p::es,js,h=>by
  rw[Yx]at h
  obtain⟨i,h1,h⟩:=aqe.mp h
  obtain⟨r,h2,h⟩:=aqe.mp h
  cases h
  obtain⟨s1,s2,s3⟩:=mO a h1
  exact⟨s1,s2,s3,S7 a h2⟩
theorem uR{aj:aQ}{c:Tc}{X:Cx}{W:WX}{k:Nat}(a:Amb aj c X W k){e:Expr}{js:List Nat}{f:fL}(h:UJ c e=some (js,f)):QG aj X e js f:=by
 unfold UJ at h
 split at h
 ·obtain⟨i,h1,h⟩:=aqe.mp h
  cases h
  obtain⟨s1,s2,s3⟩:=mO a h1
  exact R4 a.nd s1 s2 s3
 ·obtain⟨js',h1,h⟩:=aqe.mp h
  cases h
  exact adD a.calm a.nd (S7 a h1)
 ·cases h
def Tc.inn(c:Tc)(scope:Scope):Tc:={ c with sc:=relS scope c.sc,top:=false }
theorem Amb.inn{aj:aQ}{c:Tc}{X:Cx}{W:WX}{k:Nat}(a:Amb aj c X W k)(scope:Scope)(s:Shared)(H:Hp)(C:Addr)(cl:List (Str×Addr))(fp:List Addr):Amb aj (c.inn scope) (X.blk s H scope (compEnvC scope cl C X.env) fp) WF k where
 hN:=a.hN
 hs:=by
  show relS scope X.env.scope=relS scope c.sc
  rw[a.hs]
 calm:=a.calm
 nd:=a.nd
 tk:=aji
 rm:=a.rm
 gl:=a.gl
 bl:=a.bl
 fn:=fun z=>nomatch z
 hk:=a.hk
def Om:List Expr->List Nat->List (Str×Nat)
 |.Name x _::es,j::js=>(x,j)::Om es js
 |_,_=>[]
def oZ:Expr->List Nat->List (Str×Nat)
 |.Name x _,[j]=>[(x,j)]
 |.Tuple es _ _,js=>Om es js
 |_,_=>[]
def NZ(js vs:List Nat):Bool:=js.all fun j=>vs.contains j
theorem pG{js vs:List Nat}(h:NZ js vs=true):∀j∈js,j∈vs:=fun j hj=>by
 have:=aqD.mp h j hj
 simpa using this
def Tj(t:Tr)(c:Tc):List Expr->Option QT
 |[]=>some iJ
 |[a]=>t.T c a
 |_=>none
theorem PTs.weak{X:Cx}{e:List Expr}{t t':TT}(h:PTs X e t)(k:∀σ H Q,t' σ H Q->t σ H Q):PTs X e t':=⟨fun pins s σ H Q I q=>h.run pins s σ H Q I (k σ H Q q)⟩
theorem vY{aj:aQ}{c:Tc}{X:Cx}{W:WX}{k:Nat}{t:Tr}(o:t.Ok)(a:Amb aj c X W k){ifs:List Expr}{f:QT}(h:Tj t c ifs=some f):PTs X ifs (j9 X.K aj W f):=by
 unfold Tj at h
 split at h
 ·cases h
  exact PTs.weak pts_nil fun σ H Q ⟨g,ρ,M,I,z⟩=>z H (Ex.refl H)
 ·exact pts_one (o.ot a h)
 ·cases h
def Yq(t:Tr)(c:Tc)(elt tg iter:Expr)(ifs:List Expr)(scope:Scope):Option QF:=
 (t.I c false tg iter).bind fun it=>(UJ (c.inn scope) tg).bind fun jt=>(Tj t (c.inn scope) ifs).bind fun tt=>(t.E (c.inn scope) elt).bind fun te=>
  gd (blkC c.N c.sc scope (oZ tg jt.1)&&(NZ jt.1 ((oZ tg jt.1).map (·.2))&&!yE iter)) (some (eU it jt.2 ((oZ tg jt.1).map (·.2)) tt te))
theorem aaQ{aj:aQ}{c:Tc}{X:Cx}{W:WX}{k:Nat}{t:Tr}(o:t.Ok)(a:Amb aj c X W k){elt tg iter:Expr}{ifs:List Expr}{scope:Scope}{pos:Pos}{f:QF}(h:Yq t c elt tg iter ifs scope=some f):QE aj X W (.ListComp elt [⟨tg,iter,ifs,0⟩] scope pos) f:=by
 unfold Yq at h
 obtain⟨it,h1,h⟩:=aqe.mp h
 obtain⟨⟨js,tf⟩,h2,h⟩:=aqe.mp h
 obtain⟨tt,h3,h⟩:=aqe.mp h
 obtain⟨te,h4,h⟩:=aqe.mp h
 obtain⟨hb,h⟩:=aW.mp h
 cases h
 simp only[aqg,aqz]at hb
 obtain⟨b1,b2,b3⟩:=hb
 exact alw a.calm a.nd (o.oi a h1) (by rw[a.hN,a.hs];exact b1) (pG b2) (fun s H C cl fp=>uR (a.inn scope s H C cl fp) h2) (fun s H C cl fp=>vY o (a.inn scope s H C cl fp) h3) (fun s H C cl fp=>o.oe (a.inn scope s H C cl fp) h4) (qZ b3)
def Yu(t:Tr)(c:Tc)(x:Str)(e:Expr)(es:List Expr):Option QF:=match c.G.lookup x with
 |some (.fq n m)=>(Jl t c (e::es)).bind fun as=>gd (Fw c.sc x&&(!Ez x&&decide ((e::es).length=n))) (some (aY m as))
 |some _=>none
 |none=>match es with
  |[]=>(b1D x).bind fun o=>(t.W c e).bind fun fa=>gd (uO c x x&&nst e) (some (eX o fa))
  |[.Name y p]=>match x=="isinstance" with
   |true=>(tyN y).bind fun ty=>(t.W c e).bind fun fa=>gd (uO c x x&&(uO c y y&&nst e)) (some (xO ty fa))
   |false=>(b2D x).bind fun o=>(t.W c e).bind fun fa=>(t.W c (.Name y p)).bind fun fb=>gd (uO c x x&&nst e) (some (aA o fa fb))
  |[e2]=>(b2D x).bind fun o=>(t.W c e).bind fun fa=>(t.W c e2).bind fun fb=>gd (uO c x x&&(nst e&&nst e2)) (some (aA o fa fb))
  |_=>none
theorem acO{aj:aQ}{c:Tc}{X:Cx}{W:WX}{k:Nat}{x:Str}{o:Dat->Dat->Out Dat}{a b:Expr}{fa fb:QF}{p pos:Pos}(am:Amb aj c X W k)(h:b2D x=some o)(hg:uO c x x=true)(ha:QW aj X W a fa)(hb:QW aj X W b fb)(hs:nst a=true)(hs2:nst b=true):QE aj X W (.Call (.Name x p) [a,b] [] pos) (aA o fa fb):=by
 obtain⟨f,id,r,hf,hc,ho,hv⟩:=ajJ am.calm h aj W
 obtain⟨_,hg,hm⟩:=nu am hg
 exact akx hf hc ho hg hm hv ha hb hs hs2
theorem adN{aj:aQ}{c:Tc}{X:Cx}{W:WX}{k:Nat}{t:Tr}(o:t.Ok)(a:Amb aj c X W k){x:Str}{e:Expr}{es:List Expr}{p pos:Pos}{f:QF}(h:Yu t c x e es=some f):QE aj X W (.Call (.Name x p) (e::es) [] pos) f:=by
 unfold Yu at h
 split at h
 ·next n m hl=>
  obtain⟨as,h1,h⟩:=aqe.mp h
  obtain⟨hb,h⟩:=aW.mp h
  cases h
  simp only[aqg,aqz,decide_eq_true_eq]at hb
  obtain⟨b1,b2,b3⟩:=hb
  obtain⟨fa,hm,hk,fd,ps,j,hj,hp,hB,F⟩:=a.gl x _ hl
  obtain⟨i1,i2,i3⟩:=uV o a h1
  exact ag7 a.tk F (a.rm.mono hj) (sH a b1) hm hk hB i1 (b3.trans hp.symm) (tM b2).1 i2 i3
 ·cases h
 ·split at h
  ·obtain⟨o1,h1,h⟩:=aqe.mp h
   obtain⟨fa,h2,h⟩:=aqe.mp h
   obtain⟨hb,h⟩:=aW.mp h
   cases h
   rw[aqg]at hb
   obtain⟨f,id,r,hf,hc,ho,hv⟩:=akk a.calm h1 aj W
   obtain⟨_,hg,hm⟩:=nu a hb.1
   exact afB hf hc ho hg hm hv (o.ow a h2) hb.2
  ·split at h
   ·next ex=>
    obtain⟨ty,h1,h⟩:=aqe.mp h
    obtain⟨fa,h2,h⟩:=aqe.mp h
    obtain⟨hb,h⟩:=aW.mp h
    cases h
    simp only[aqg]at hb
    obtain⟨b1,b2,b3⟩:=hb
    obtain⟨_,hg,hm⟩:=nu a b1
    obtain⟨_,hg2,hm2⟩:=nu a b2
    cases eq_of_beq ex
    exact aiK hg hm ⟨by decide +kernel,by decide,by decide⟩ hg2 hm2 (aiP h1) (o.ow a h2) b3
   ·obtain⟨o1,h1,h⟩:=aqe.mp h
    obtain⟨fa,h2,h⟩:=aqe.mp h
    obtain⟨fb,h3,h⟩:=aqe.mp h
    obtain⟨hb,h⟩:=aW.mp h
    cases h
    rw[aqg]at hb
    exact acO a h1 hb.1 (o.ow a h2) (o.ow a h3) hb.2 rfl
  ·obtain⟨o1,h1,h⟩:=aqe.mp h
   obtain⟨fa,h2,h⟩:=aqe.mp h
   obtain⟨fb,h3,h⟩:=aqe.mp h
   obtain⟨hb,h⟩:=aW.mp h
   cases h
   simp only[aqg]at hb
   exact acO a h1 hb.1 (o.ow a h2) (o.ow a h3) hb.2.1 hb.2.2
  ·cases h
def stE(t:Tr)(c:Tc):Expr->Option QF
 |.Name x _=>(match Ld c x with
  |some i=>some (aq i)
  |none=>match c.G.lookup x with
   |some (.con d)=>gd (Fw c.sc x&&!Ez x) (some (qC d))
   |_=>none)
 |.Constant (.int i) _ _=>some (qC (.int i))
 |.Constant (.str x) _ _=>some (qC (.str x))
 |.Constant (.bool x) _ _=>some (qC (.bool x))
 |.Constant .none _ _=>some (qC .none)
 |.BinOp a op b _=>(aiA op).bind fun o=>(t.W c a).bind fun fa=>(t.W c b).bind fun fb=>some (aA o fa fb)
 |.UnaryOp .USub a _=>(t.W c a).bind fun fa=>some (eX O4 fa)
 |.UnaryOp .Not a _=>(t.W c a).bind fun fa=>some (Qq fa)
 |.BoolOp _ [a] _=>t.E c a
 |.BoolOp .And (a::b::r) p=>(t.E c a).bind fun fa=>(t.E c (.BoolOp .And (b::r) p)).bind fun fb=>some (zp fa fb)
 |.BoolOp .Or (a::b::r) p=>(t.E c a).bind fun fa=>(t.E c (.BoolOp .Or (b::r) p)).bind fun fb=>some (afl fa fb)
 |.Compare a [op] [b] _=>(match isN op with
  |some neg=>(T9 b).bind fun d=>(t.W c a).bind fun fa=>some (yd neg d fa)
  |none=>(Od op).bind fun o=>(t.W c a).bind fun fa=>(t.W c b).bind fun fb=>gd (!yE b) (some (aA o fa fb)))
 |.Compare a [op,op'] [b,b2] _=>(Od op).bind fun o=>(Od op').bind fun o'=>(t.W c a).bind fun fa=>(t.W c b).bind fun fb=>(t.W c b2).bind fun fc=>gd (!yE b2) (some (VH (oA o o' fa fb fc)))
 |.IfExp d a b _=>(t.T c d).bind fun ta=>(t.E c a).bind fun fa=>(t.E c b).bind fun fb=>some (Rp ta fa fb)
 |.Tuple es _ _=>(Jl t c es).bind fun fr=>some (bJ fr)
 |.List es _=>(Jl t c es).bind fun fr=>some (yt fr)
 |.Subscript a b _=>(match b with
  |.Slice lo hi none _=>(t.W c a).bind fun fa=>(trO t c lo).bind fun fl=>(trO t c hi).bind fun fh=>some (M6 fa fl fh)
  |b=>gd (!Xb b) ((t.W c a).bind fun fa=>(t.W c b).bind fun fb=>some (aA aV fa fb)))
 |.ListComp elt [⟨tg,iter,ifs,0⟩] scope _=>Yq t c elt tg iter ifs scope
 |.Call (.Name x _) (e::es) [] _=>Yu t c x e es
 |_=>none
def stW(t:Tr)(c:Tc):Expr->Option QF
 |.Name x p=>(match Ld c x with
  |some i=>some (ao i)
  |none=>t.E c (.Name x p))
 |e=>t.E c e
def valT:Expr->Bool
 |.UnaryOp .Not _ _=>false
 |.BoolOp _ _ _=>false
 |.IfExp _ _ _ _=>false
 |.Compare _ _ _ _=>false
 |_=>true
theorem ahn{e:Expr}{env:PySem.Env}(h:valT e=true):∀whole,isTrue e env whole=(do let v ←whole;standAt e.pos;holding [v] (truthy v)):=fun whole=>by
 cases e with
 | UnaryOp o a p=>cases o <;> first | (with_unfolding_all rfl) | cases h
 |BoolOp _ _ _=>cases h
 |IfExp _ _ _ _=>cases h
 |Compare _ _ _ _=>cases h
 |_=>with_unfolding_all rfl
def stT(t:Tr)(c:Tc):Expr->Option QT
 |.UnaryOp .Not a _=>(t.T c a).bind fun ta=>some (jJ ta)
 |.BoolOp _ [a] _=>t.T c a
 |.BoolOp .And (a::b::r) p=>(t.T c a).bind fun ta=>(t.T c (.BoolOp .And (b::r) p)).bind fun tb=>some (jY ta tb)
 |.BoolOp .Or (a::b::r) p=>(t.T c a).bind fun ta=>(t.T c (.BoolOp .Or (b::r) p)).bind fun tb=>some (Ef ta tb)
 |.Compare a [op] [b] _=>(match isN op with
  |some neg=>(T9 b).bind fun d=>(t.W c a).bind fun fa=>some (bx (yd neg d fa))
  |none=>(Od op).bind fun o=>(t.W c a).bind fun fa=>(t.W c b).bind fun fb=>gd (!yE b) (some (bx (aA o fa fb))))
 |.Compare a [op,op'] [b,b2] _=>(Od op).bind fun o=>(Od op').bind fun o'=>(t.W c a).bind fun fa=>(t.W c b).bind fun fb=>(t.W c b2).bind fun fc=>gd (!yE b2) (some (oA o o' fa fb fc))
 |e=>gd (valT e) ((t.W c e).bind fun fa=>some (iD fa))
def trF(t:Tr)(c:Tc)(firm:Bool)(e:Expr):Option QF:=match firm with
 |true=>t.E c e
 |false=>t.W c e
def isTup:Expr->Bool
 |.Tuple _ _ _=>true
 |_=>false
def stI(t:Tr)(c:Tc)(firm:Bool)(tg:Expr):Expr->Option IF
 |.Call (.Name x p) [a] [] pos=>(match uO c x "range" with
  |true=>(t.W c a).bind fun fa=>gd (nst a) (some (BJ fa))
  |false=>match uO c x "enumerate" with
   |true=>(trF t c firm a).bind fun fa=>gd (nst a&&isTup tg) (some (uo 0 fa))
   |false=>(trF t c firm (.Call (.Name x p) [a] [] pos)).bind fun fa=>some (cW fa))
 |.Call (.Name x p) [a,b] [] pos=>(match uO c x "range" with
  |true=>(t.W c a).bind fun fa=>(t.W c b).bind fun fb=>gd (nst a&&nst b) (some (Bu fa fb))
  |false=>match uO c x "zip" with
   |true=>(trF t c firm a).bind fun fa=>(trF t c firm b).bind fun fb=>gd (nst a&&(nst b&&isTup tg)) (some (Hr fa fb))
   |false=>(trF t c firm (.Call (.Name x p) [a,b] [] pos)).bind fun fa=>some (cW fa))
 |.Call (.Name x p) [a] [⟨some kw,.Constant (.int i) j kp,kp2⟩] pos=>gd (uO c x "enumerate"&&(kw=="start"&&(decide (-(2 ^ 63)<=i/\i < 2 ^ 63)&&(nst a&&isTup tg)))) ((trF t c firm a).bind fun fa=>some (uo i fa))
 |e=>(trF t c firm e).bind fun fa=>some (cW fa)
theorem Zq{b:Expr}(h:(!Xb b)=true):PlainIx b:=fun v i=>by
 cases b <;> first | rfl | cases h
section
variable{aj:aQ}{c:Tc}{X:Cx}{W:WX}{k:Nat}{t:Tr}
theorem aiz(o:t.Ok)(a:Amb aj c X W k){e:Expr}{f:QF}(h:stE t c e=some f):QE aj X W e f:=by
 unfold stE at h
 split at h
 ·split at h
  ·next i hi=>
   cases h
   obtain⟨s1,s2,s3,s4⟩:=zP a hi
   exact ajf s1 s2 s3 s4
  ·split at h
   ·next d hl=>
    obtain⟨hb,h⟩:=aW.mp h
    cases h
    simp only[aqg,aqz]at hb
    obtain⟨v,u,h1,h2,h3⟩:=a.gl _ _ hl
    exact PE.weak (pe_glob (sH a hb.1) h1 h2 (tM hb.2).1) fun σ H Q ⟨g,ρ,M,I,z⟩=>z v H (Ex.refl H) (h3 g H)
   ·cases h
 ·cases h;exact aks
 ·cases h;exact ajm
 ·cases h;exact akE
 ·cases h;exact ah3
 ·obtain⟨op,h1,h⟩:=aqe.mp h
  obtain⟨fa,h2,h⟩:=aqe.mp h
  obtain⟨fb,h3,h⟩:=aqe.mp h
  cases h
  obtain⟨r,r1,r2⟩:=ahx h1 X aj W
  exact aiH r1 r2 (o.ow a h2) (o.ow a h3)
 ·obtain⟨fa,h2,h⟩:=aqe.mp h
  cases h
  exact aiI (o.ow a h2)
 ·obtain⟨fa,h2,h⟩:=aqe.mp h
  cases h
  exact ag5 (o.ow a h2)
 ·exact pe_one (o.oe a h)
 ·obtain⟨fa,h2,h⟩:=aqe.mp h
  obtain⟨fb,h3,h⟩:=aqe.mp h
  cases h
  exact ahu (o.oe a h2) (o.oe a h3)
 ·obtain⟨fa,h2,h⟩:=aqe.mp h
  obtain⟨fb,h3,h⟩:=aqe.mp h
  cases h
  exact ajH (o.oe a h2) (o.oe a h3)
 ·split at h
  ·next neg hn=>
   obtain⟨d,h1,h⟩:=aqe.mp h
   obtain⟨fa,h2,h⟩:=aqe.mp h
   cases h
   obtain⟨v,v1,v2,v3⟩:=aa1 (X:=X) h1
   refine akC v1 (adV hn v2) (o.ow a h2) v3 (Cz ?_)
   unfold T9 at h1
   split at h1 <;> first | rfl | cases h1
  ·obtain⟨op,h1,h⟩:=aqe.mp h
   obtain⟨fa,h2,h⟩:=aqe.mp h
   obtain⟨fb,h3,h⟩:=aqe.mp h
   obtain⟨hb,h⟩:=aW.mp h
   cases h
   obtain⟨r,r1,r2⟩:=Bv h1 a.rm aj W
   exact agI r1 r2 (o.ow a h2) (o.ow a h3) (Cz (by simpa using hb))
 ·obtain⟨op,h1,h⟩:=aqe.mp h
  obtain⟨op',h1',h⟩:=aqe.mp h
  obtain⟨fa,h2,h⟩:=aqe.mp h
  obtain⟨fb,h3,h⟩:=aqe.mp h
  obtain⟨fc,h4,h⟩:=aqe.mp h
  obtain⟨hb,h⟩:=aW.mp h
  cases h
  obtain⟨r,r1,r2⟩:=Bv h1 a.rm aj W
  obtain⟨r',r1',r2'⟩:=Bv h1' a.rm aj W
  exact aeH r1 r1' r2 r2' (o.ow a h2) (o.ow a h3) (o.ow a h4) (Uu (by simpa using hb))
 ·obtain⟨ta,h1,h⟩:=aqe.mp h
  obtain⟨fa,h2,h⟩:=aqe.mp h
  obtain⟨fb,h3,h⟩:=aqe.mp h
  cases h
  exact aeK (o.ot a h1) (o.oe a h2) (o.oe a h3)
 ·obtain⟨fr,h1,h⟩:=aqe.mp h
  cases h
  exact ajX (uV o a h1).1
 ·obtain⟨fr,h1,h⟩:=aqe.mp h
  cases h
  exact ah4 (uV o a h1).1
 ·split at h
  ·obtain⟨fa,h1,h⟩:=aqe.mp h
   obtain⟨fl,h2,h⟩:=aqe.mp h
   obtain⟨fh,h3,h⟩:=aqe.mp h
   cases h
   exact akv (o.ow a h1) (acj o a h2) (acj o a h3)
  ·obtain⟨hb,h⟩:=aW.mp h
   obtain⟨fa,h1,h⟩:=aqe.mp h
   obtain⟨fb,h2,h⟩:=aqe.mp h
   cases h
   exact akJ (o.ow a h1) (o.ow a h2) (Zq hb)
 ·exact aaQ o a h
 ·exact adN o a h
 ·cases h
theorem aiR(o:t.Ok)(a:Amb aj c X W k){e:Expr}{f:QF}(h:stW t c e=some f):QW aj X W e f:=by
 unfold stW at h
 split at h
 ·split at h
  ·next i hi=>
   cases h
   obtain⟨s1,s2,s3,s4⟩:=zP a hi
   exact akc s1 s2 s3 s4
  ·exact(o.oe a h).w
 ·exact(o.oe a h).w
theorem aiB{a b:Expr}{rest:List Expr}{ta tb:QT}{pos:Pos}(ha:rR aj X W a ta)(hb:rR aj X W (.BoolOp .And (b::rest) pos) tb):rR aj X W (.BoolOp .And (a::b::rest) pos) (jY ta tb):=by
 have hb':QWt aj X W (.BoolOp .And (b::rest) pos) tb:=⟨fun wh pins s σ H Q I q=>hb.run pins s σ H Q I q⟩
 exact PW.pt (ajO ha hb')
theorem akO{a b:Expr}{rest:List Expr}{ta tb:QT}{pos:Pos}(ha:rR aj X W a ta)(hb:rR aj X W (.BoolOp .Or (b::rest) pos) tb):rR aj X W (.BoolOp .Or (a::b::rest) pos) (Ef ta tb):=by
 have hb':QWt aj X W (.BoolOp .Or (b::rest) pos) tb:=⟨fun wh pins s σ H Q I q=>hb.run pins s σ H Q I q⟩
 exact PW.pt (alz ha hb')
theorem akh(o:t.Ok)(a:Amb aj c X W k){e:Expr}{f:QT}(h:stT t c e=some f):rR aj X W e f:=by
 unfold stT at h
 split at h
 ·obtain⟨ta,h1,h⟩:=aqe.mp h
  cases h
  exact ajj (o.ot a h1)
 ·next op _ _=>
  cases op
  ·exact PW.pt (pw_and1 (o.ot a h))
  ·exact PW.pt (pw_or1 (o.ot a h))
 ·obtain⟨ta,h1,h⟩:=aqe.mp h
  obtain⟨tb,h2,h⟩:=aqe.mp h
  cases h
  exact aiB (o.ot a h1) (o.ot a h2)
 ·obtain⟨ta,h1,h⟩:=aqe.mp h
  obtain⟨tb,h2,h⟩:=aqe.mp h
  cases h
  exact akO (o.ot a h1) (o.ot a h2)
 ·split at h
  ·next neg hn=>
   obtain⟨d,h1,h⟩:=aqe.mp h
   obtain⟨fa,h2,h⟩:=aqe.mp h
   cases h
   obtain⟨v,v1,v2,v3⟩:=aa1 (X:=X) h1
   refine akZ v1 (adV hn v2) (o.ow a h2) v3 (Cz ?_)
   unfold T9 at h1
   split at h1 <;> first | rfl | cases h1
  ·obtain⟨op,h1,h⟩:=aqe.mp h
   obtain⟨fa,h2,h⟩:=aqe.mp h
   obtain⟨fb,h3,h⟩:=aqe.mp h
   obtain⟨hb,h⟩:=aW.mp h
   cases h
   obtain⟨r,r1,r2⟩:=Bv h1 a.rm aj W
   exact aj0 r1 r2 (o.ow a h2) (o.ow a h3) (Cz (by simpa using hb))
 ·obtain⟨op,h1,h⟩:=aqe.mp h
  obtain⟨op',h1',h⟩:=aqe.mp h
  obtain⟨fa,h2,h⟩:=aqe.mp h
  obtain⟨fb,h3,h⟩:=aqe.mp h
  obtain⟨fc,h4,h⟩:=aqe.mp h
  obtain⟨hb,h⟩:=aW.mp h
  cases h
  obtain⟨r,r1,r2⟩:=Bv h1 a.rm aj W
  obtain⟨r',r1',r2'⟩:=Bv h1' a.rm aj W
  exact aeG r1 r1' r2 r2' (o.ow a h2) (o.ow a h3) (o.ow a h4) (Uu (by simpa using hb))
 ·obtain⟨hv,h⟩:=aW.mp h
  obtain⟨fa,h1,h⟩:=aqe.mp h
  cases h
  exact ajN (o.ow a h1) (ahn hv)
theorem Cp(o:t.Ok)(a:Amb aj c X W k){firm:Bool}{e:Expr}{f:QF}(h:trF t c firm e=some f):QF' aj X W firm e f:=by
 cases firm
 ·exact o.ow a h
 ·exact o.oe a h
theorem Ph{e:Expr}(h:isTup e=true):∃es j p,e=.Tuple es j p:=by
 cases e <;> first | exact⟨_,_,_,rfl⟩ | cases h
theorem aii(o:t.Ok)(a:Amb aj c X W k){firm:Bool}{tg e:Expr}{f:IF}(h:stI t c firm tg e=some f):QI aj X W firm tg e f:=by
 unfold stI at h
 split at h
 ·split at h
  ·next hb=>
   obtain⟨fa,h1,h⟩:=aqe.mp h
   obtain⟨hs,h⟩:=aW.mp h
   cases h
   obtain⟨rfl,hg,hm⟩:=nu a hb
   exact ady hg hm (o.ow a h1) hs
  ·split at h
   ·next hb=>
    obtain⟨fa,h1,h⟩:=aqe.mp h
    obtain⟨hs,h⟩:=aW.mp h
    cases h
    obtain⟨rfl,hg,hm⟩:=nu a hb
    rw[aqg]at hs
    obtain⟨es,j,p,rfl⟩:=Ph hs.2
    exact agu hg hm (Cp o a h1) hs.1
   ·obtain⟨fa,h1,h⟩:=aqe.mp h
    cases h
    exact Yo (Cp o a h1)
 ·split at h
  ·next hb=>
   obtain⟨fa,h1,h⟩:=aqe.mp h
   obtain⟨fb,h2,h⟩:=aqe.mp h
   obtain⟨hs,h⟩:=aW.mp h
   cases h
   obtain⟨rfl,hg,hm⟩:=nu a hb
   rw[aqg]at hs
   exact adF hg hm (o.ow a h1) (o.ow a h2) hs.1 hs.2
  ·split at h
   ·next hb=>
    obtain⟨fa,h1,h⟩:=aqe.mp h
    obtain⟨fb,h2,h⟩:=aqe.mp h
    obtain⟨hs,h⟩:=aW.mp h
    cases h
    obtain⟨rfl,hg,hm⟩:=nu a hb
    simp only[aqg]at hs
    obtain⟨es,j,p,rfl⟩:=Ph hs.2.2
    exact ajD hg hm (Cp o a h1) (Cp o a h2) hs.1 hs.2.1
   ·obtain⟨fa,h1,h⟩:=aqe.mp h
    cases h
    exact Yo (Cp o a h1)
 ·obtain⟨hs,h⟩:=aW.mp h
  obtain⟨fa,h1,h⟩:=aqe.mp h
  cases h
  simp only[aqg,decide_eq_true_eq]at hs
  obtain⟨hb,hk,hi,hn,ht⟩:=hs
  obtain⟨rfl,hg,hm⟩:=nu a hb
  cases eq_of_beq hk
  obtain⟨es,j,p,rfl⟩:=Ph ht
  exact afe hi.1 hi.2 hg hm (Cp o a h1) hn
 ·obtain⟨fa,h1,h⟩:=aqe.mp h
  cases h
  exact Yo (Cp o a h1)
end
def MV.n:MV->Nat
 |.q n _=>n
 |.g n _=>n
def MV.qt:MV->Bool
 |.q _ _=>true
 |.g _ _=>false
def tbN(tb:List (Str×MV))(n:Nat):Bool:=tb.all fun p=>p.2.n==n
def tbQ(tb:List (Str×MV)):Bool:=tb.all fun p=>p.2.qt
theorem pX{α:Type}{c:Str}{v:α}:∀{tb:List (Str×α)},tb.lookup c=some v->(c,v)∈tb
 |[],h=>nomatch h
 |(y,u)::r,h=>by
  rw[aqI]at h
  split at h
  ·next e=>
   cases h
   rw[eq_of_beq e]
   exact aql
  ·exact aqk _ (pX h)
section
variable{aj:aQ}{c:Tc}{X:Cx}{W:WX}{k:Nat}{t:Tr}
theorem WK(a:Amb aj c X W k){m:Str}{n:Nat}{tb:List (Str×MV)}(h:c.hs.Ms.lookup m=some tb)(hn:tbN tb n=true):Jc X aj k m n tb:=fun y v hv=>by
 refine⟨a.hk.ms m tb h y v hv,?_⟩
 have:=aqD.mp hn _ (pX hv)
 cases v <;> exact eq_of_beq this
def Xe(t:Tr)(c:Tc)(o:Expr)(m:Str)(es:List Expr)(apos pos:Pos):Option QF:=
 (c.hs.Ms.lookup m).bind fun tb=>(t.W c o).bind fun fo=>(Jl t c es).bind fun as=>
  gd (tbQ tb&&(tbN tb (es.length+1)&&(baseOk o&&(decide (es.length < 30)&&(apos.endLine==pos.line))))) (some (aP tb fo as))
theorem acB(o:t.Ok)(a:Amb aj c X W k){b:Expr}{m:Str}{es:List Expr}{apos pos:Pos}{f:QF}(h:Xe t c b m es apos pos=some f):QE aj X W (.Call (.Attribute b m apos) es [] pos) f:=by
 unfold Xe at h
 obtain⟨tb,h1,h⟩:=aqe.mp h
 obtain⟨fo,h2,h⟩:=aqe.mp h
 obtain⟨as,h3,h⟩:=aqe.mp h
 obtain⟨hb,h⟩:=aW.mp h
 cases h
 simp only[aqg,decide_eq_true_eq]at hb
 obtain⟨_,b2,b3,b4,b5⟩:=hb
 obtain⟨i1,i2,i3⟩:=uV o a h3
 cases es with
 |nil=>
  cases h3
  exact aeC a.tk a.rm (WK a h1 b2) (o.ow a h2) b3 b5
 |cons e es=>exact agS a.tk a.rm (WK a h1 b2) (o.ow a h2) i1 i3 b3 i2 b5 b4
def inN:CmpOp->Option Bool
 |.In=>some false
 |.NotIn=>some true
 |_=>none
theorem adK{op:CmpOp}{neg:Bool}(hr:Room k X.A)(h:inN op=some neg):OpR X (compareOp op) (rInD X neg):=by
 have h65:X.A.units+64 < cLine:=by have:=hr.un;omega
 cases op <;> cases h
 ·exact op_inD h65
 ·exact op_notInD h65
def abO(t:Tr)(c:Tc)(e:Expr)(op:CmpOp)(o:Expr)(f:Str):Option QF:=
 (inN op).bind fun neg=>(c.hs.df.lookup f).bind fun _=>(t.E c e).bind fun fe=>(t.W c o).bind fun fo=>gd (baseOk o) (some (NP neg f fe fo))
theorem aiQ{o e:Expr}{f:Str}{p1 pos:Pos}{fo fk:QF}{neg:Bool}{op:CmpOp}(co:jr X.K aj)(hw:aj.w=X.w)(hr:OpR X (compareOp op) (rInD X neg))(hk:QE aj X W e fk)(ho:QW aj X W o fo)(hb:baseOk o=true):rR aj X W (.Compare e [op] [.Attribute o f p1] pos) (bx (NP neg f fk fo)):=
 PT.weak (pt_cmpR hr hk (pe_fld ho (mD hb)) (by cases op <;> rfl)) fun σ H Q ⟨g,ρ,M,I,h⟩=>by
  refine afK co hw σ H _ ⟨g,ρ,M,I,h.bnd.mono (fun d h1 v H' e' r'=>?_) fun _ z=>z⟩
  obtain⟨k,h2,h3⟩:=Dt r'.weak h1
  exact⟨k,h2,h3 H' e'⟩
theorem aaj(o:t.Ok)(a:Amb aj c X W k){e b:Expr}{op:CmpOp}{m:Str}{p1 pos:Pos}{f:QF}(h:abO t c e op b m=some f):QE aj X W (.Compare e [op] [.Attribute b m p1] pos) f/\rR aj X W (.Compare e [op] [.Attribute b m p1] pos) (bx f):=by
 unfold abO at h
 obtain⟨neg,h1,h⟩:=aqe.mp h
 obtain⟨_,_,h⟩:=aqe.mp h
 obtain⟨fe,h2,h⟩:=aqe.mp h
 obtain⟨fo,h3,h⟩:=aqe.mp h
 obtain⟨hb,h⟩:=aW.mp h
 cases h
 exact⟨ajP a.hk.co a.hk.hw (adK a.rm h1) (o.oe a h2) (o.ow a h3) hb,aiQ a.hk.co a.hk.hw (adK a.rm h1) (o.oe a h2) (o.ow a h3) hb⟩
def WW(t:Tr)(c:Tc)(e:Expr)(op:CmpOp)(x:Str):Option QF:=
 (inN op).bind fun neg=>match c.G.lookup x with
  |some (.dic kvs)=>(t.W c e).bind fun fe=>gd (Fw c.sc x&&!Ez x) (some (TQ neg kvs fe))
  |_=>none
theorem Zk(o:t.Ok)(a:Amb aj c X W k){e:Expr}{op:CmpOp}{x:Str}{p1 pos:Pos}{f:QF}(h:WW t c e op x=some f):QE aj X W (.Compare e [op] [.Name x p1] pos) f/\rR aj X W (.Compare e [op] [.Name x p1] pos) (bx f):=by
 unfold WW at h
 obtain⟨neg,h1,h⟩:=aqe.mp h
 split at h
 ·next kvs hl=>
  obtain⟨fe,h2,h⟩:=aqe.mp h
  obtain⟨hb,h⟩:=aW.mp h
  cases h
  simp only[aqg,aqz]at hb
  refine aiJ ?_ (a.gl x _ hl) (sH a hb.1) (tM hb.2).1 (o.ow a h2)
  cases op <;> cases h1
  ·exact .inl ⟨rfl,rfl⟩
  ·exact .inr ⟨rfl,rfl⟩
 ·cases h
def X7(t:Tr)(c:Tc):Expr->Option QF
 |.Call (.Name y _) [b] [] _=>(match uO c y "set" with
  |true=>(t.W c b).bind fun fb=>gd (nst b) (some (eX QM fb))
  |false=>(t.W c (.Call (.Name y ⟨0,0,0,0⟩) [b] [] ⟨0,0,0,0⟩)).bind fun _=>none)
 |e=>(t.W c e).bind fun fe=>gd (nst e) (some (eX zA fe))
theorem ahT(a:Amb aj c X W k):X.A.units+65 < cLine:=by have:=a.rm.un;omega
theorem ac4(o:t.Ok)(a:Amb aj c X W k)(hg:Gl X "sorted")(hm:X.mg "sorted"=none){e:Expr}{p pos:Pos}{f:QF}(h:X7 t c e=some f):QE aj X W (.Call (.Name "sorted" p) [e] [] pos) f:=by
 unfold X7 at h
 split at h
 ·split at h
  ·next hb=>
   obtain⟨fb,h1,h⟩:=aqe.mp h
   obtain⟨hn,h⟩:=aW.mp h
   cases h
   obtain⟨rfl,hg2,hm2⟩:=nu a hb
   exact ahC (ahT a) a.calm hg hm hg2 hm2 (o.ow a h1) hn
  ·obtain⟨_,_,h⟩:=aqe.mp h
   cases h
 ·obtain⟨fe,h1,h⟩:=aqe.mp h
  obtain⟨hn,h⟩:=aW.mp h
  cases h
  exact ags (ahT a) hg hm (o.ow a h1) hn
def Q8(t:Tr)(c:Tc)(elt tg iter:Expr)(ifs:List Expr)(tg1 iter1:Expr)(ifs1:List Expr)(scope:Scope):Option QF:=
 (t.I c false tg iter).bind fun it=>(UJ (c.inn scope) tg).bind fun jt=>(Tj t (c.inn scope) ifs).bind fun tt=>(t.I (c.inn scope) true tg1 iter1).bind fun it1=>(UJ (c.inn scope) tg1).bind fun jt1=>(Tj t (c.inn scope) ifs1).bind fun tt1=>(t.E (c.inn scope) elt).bind fun te=>
  gd (blkC c.N c.sc scope (oZ tg jt.1++oZ tg1 jt1.1)&&(NZ ((oZ tg1 jt1.1).map (·.2)) ((oZ tg jt.1++oZ tg1 jt1.1).map (·.2))&&(NZ jt.1 ((oZ tg jt.1++oZ tg1 jt1.1).map (·.2))&&(NZ jt1.1 ((oZ tg1 jt1.1).map (·.2))&&(!yE iter&&!yE iter1)))))
   (some (Cy it jt.2 ((oZ tg jt.1++oZ tg1 jt1.1).map (·.2)) tt it1 jt1.2 ((oZ tg1 jt1.1).map (·.2)) tt1 te))
theorem ae2(o:t.Ok)(a:Amb aj c X W k){elt tg iter tg1 iter1:Expr}{ifs ifs1:List Expr}{scope:Scope}{pos:Pos}{f:QF}(h:Q8 t c elt tg iter ifs tg1 iter1 ifs1 scope=some f):QE aj X W (.ListComp elt [⟨tg,iter,ifs,0⟩,⟨tg1,iter1,ifs1,0⟩] scope pos) f:=by
 unfold Q8 at h
 obtain⟨it,h1,h⟩:=aqe.mp h
 obtain⟨⟨js,tf⟩,h2,h⟩:=aqe.mp h
 obtain⟨tt,h3,h⟩:=aqe.mp h
 obtain⟨it1,h4,h⟩:=aqe.mp h
 obtain⟨⟨js1,tf1⟩,h5,h⟩:=aqe.mp h
 obtain⟨tt1,h6,h⟩:=aqe.mp h
 obtain⟨te,h7,h⟩:=aqe.mp h
 obtain⟨hb,h⟩:=aW.mp h
 cases h
 simp only[aqg,aqz]at hb
 obtain⟨b1,b2,b3,b4,b5,b6⟩:=hb
 exact ah1 a.calm a.nd (o.oi a h1) (by rw[a.hN,a.hs];exact b1) (pG b2) (pG b3) (pG b4) (fun s H C cl fp=>uR (a.inn _ s H C cl fp) h2) (fun s H C cl fp=>vY o (a.inn _ s H C cl fp) h3) (fun s H C cl fp=>o.oi (a.inn _ s H C cl fp) h4) (fun s H C cl fp=>uR (a.inn _ s H C cl fp) h5) (fun s H C cl fp=>vY o (a.inn _ s H C cl fp) h6) (fun s H C cl fp=>o.oe (a.inn _ s H C cl fp) h7) (qZ b5) (fun env=>qZ b6)
def xE(t:Tr)(c:Tc):Expr->Option QF
 |.Attribute o f _=>gd (baseOk o) ((t.W c o).bind fun fo=>some (gM f fo))
 |.Call (.Attribute o m apos) es [] pos=>Xe t c o m es apos pos
 |.Compare e [op] [.Attribute o f _] _=>abO t c e op o f
 |.Compare e [op] [.Name x _] _=>WW t c e op x
 |.Subscript (.Name x _) e _=>(match c.G.lookup x with
  |some (.dic kvs)=>(t.W c e).bind fun fe=>gd (Fw c.sc x&&(!Ez x&&!Xb e)) (some (abo kvs fe))
  |_=>none)
 |.ListComp elt [⟨tg,iter,ifs,0⟩,⟨tg1,iter1,ifs1,0⟩] scope _=>Q8 t c elt tg iter ifs tg1 iter1 ifs1 scope
 |.Call (.Name x _) [e] [] _=>(match uO c x "sorted" with
  |true=>X7 t c e
  |false=>match uO c x "list",e with
   |true,.Attribute o f _=>(c.hs.df.lookup f).bind fun _=>(t.W c o).bind fun fo=>gd (baseOk o) (some (CP f fo))
   |_,_=>none)
 |_=>none
theorem alb(o:t.Ok)(a:Amb aj c X W k){e:Expr}{f:QF}(h:xE t c e=some f):QE aj X W e f:=by
 unfold xE at h
 split at h
 ·obtain⟨hb,h⟩:=aW.mp h
  obtain⟨fo,h1,h⟩:=aqe.mp h
  cases h
  exact ajz a.hk.co (o.ow a h1) hb
 ·exact acB o a h
 ·exact(aaj o a h).1
 ·exact(Zk o a h).1
 ·split at h
  ·next kvs hl=>
   obtain⟨fe,h1,h⟩:=aqe.mp h
   obtain⟨hb,h⟩:=aW.mp h
   cases h
   simp only[aqg]at hb
   exact ajs (a.gl _ _ hl) (sH a hb.1) (tM (by simpa using hb.2.1)).1 (o.ow a h1) (Zq hb.2.2)
  ·cases h
 ·exact ae2 o a h
 ·split at h
  ·next hb=>
   obtain⟨rfl,hg,hm⟩:=nu a hb
   exact ac4 o a hg hm h
  ·split at h
   ·next hb=>
    obtain⟨_,_,h⟩:=aqe.mp h
    obtain⟨fo,h1,h⟩:=aqe.mp h
    obtain⟨hb2,h⟩:=aW.mp h
    cases h
    obtain⟨rfl,hg,hm⟩:=nu a hb
    exact ae0 a.hk.co a.hk.hw a.calm hg hm (o.ow a h1) hb2
   ·cases h
 ·cases h
def xW(t:Tr)(c:Tc):Expr->Option QF
 |.Attribute o f _=>gd (baseOk o) ((t.W c o).bind fun fo=>some (bL f fo))
 |_=>none
theorem akV(o:t.Ok)(a:Amb aj c X W k){e:Expr}{f:QF}(h:xW t c e=some f):QW aj X W e f:=by
 unfold xW at h
 split at h
 ·obtain⟨hb,h⟩:=aW.mp h
  obtain⟨fo,h1,h⟩:=aqe.mp h
  cases h
  exact ajv a.hk.co (o.ow a h1) hb
 ·cases h
def xT(t:Tr)(c:Tc):Expr->Option QT
 |.Compare e [op] [.Attribute o f _] _=>(abO t c e op o f).bind fun g=>some (bx g)
 |.Compare e [op] [.Name x _] _=>(WW t c e op x).bind fun g=>some (bx g)
 |_=>none
theorem akR(o:t.Ok)(a:Amb aj c X W k){e:Expr}{f:QT}(h:xT t c e=some f):rR aj X W e f:=by
 unfold xT at h
 split at h
 ·obtain⟨g,h1,h⟩:=aqe.mp h
  cases h
  exact(aaj o a h1).2
 ·obtain⟨g,h1,h⟩:=aqe.mp h
  cases h
  exact(Zk o a h1).2
 ·cases h
def xI(t:Tr)(c:Tc)(firm:Bool):Expr->Option IF
 |.Attribute o f _=>(match firm with
  |true=>none
  |false=>(c.hs.df.lookup f).bind fun _=>gd (baseOk o) ((t.W c o).bind fun fo=>some (Cg f fo)))
 |_=>none
theorem akY(o:t.Ok)(a:Amb aj c X W k){firm:Bool}{tg e:Expr}{f:IF}(h:xI t c firm e=some f):QI aj X W firm tg e f:=by
 unfold xI at h
 split at h
 ·split at h
  ·cases h
  ·obtain⟨_,_,h⟩:=aqe.mp h
   obtain⟨hb,h⟩:=aW.mp h
   obtain⟨fo,h1,h⟩:=aqe.mp h
   cases h
   exact aeJ a.hk.co a.hk.hw (o.ow a h1) hb
 ·cases h
def els{α:Type}(a b:Option α):Option α:=match a with
 |some x=>some x
 |none=>b
theorem vK{α:Type}{a b:Option α}{x:α}(h:els a b=some x):a=some x∨b=some x:=by
 cases a with
 |none=>exact .inr h
 |some y=>exact .inl h
def xtE(t:Tr)(c:Tc)(e:Expr):Option QF:=els (xE t c e) (stE t c e)
def xtW(t:Tr)(c:Tc)(e:Expr):Option QF:=els (xW t c e) (stW t c e)
def xtT(t:Tr)(c:Tc)(e:Expr):Option QT:=els (xT t c e) (stT t c e)
def xtI(t:Tr)(c:Tc)(firm:Bool)(tg e:Expr):Option IF:=els (xI t c firm e) (stI t c firm tg e)
end
structure vN(aj:aQ)(c:Tc)(X:Cx)(W:WX)(k:Nat):Prop extends Amb aj c X W k where
 ps:PassesOwn (model X.prog X.w) X.A X.env X.xe
 st:X.stack=X.env::X.outer
 fr:X.env.frame=some X.env.locals
 kf:X.env.scope.kind=.function
structure Ts where
 G:Tc->Expr->Option GF
 H:Tc->Expr->Option GT
 S:Tc->Stmt->Option SF
 B:Tc->List Stmt->Option SF
structure Ts.Ok(s:Ts)(q:Bool):Prop where
 og:∀{aj:aQ} {c:Tc} {X:Cx} {W:WX} {k:Nat},vN aj c X W k->∀{e:Expr} {f:GF},s.G c e=some f->GE aj X W q e f
 oh:∀{aj:aQ} {c:Tc} {X:Cx} {W:WX} {k:Nat},vN aj c X W k->∀{e:Expr} {f:GT},s.H c e=some f->GTe aj X W q e f
 os:∀{aj:aQ} {c:Tc} {X:Cx} {W:WX} {k:Nat},vN aj c X W k->∀{e:Stmt} {f:SF},s.S c e=some f->SE aj X W q e f
 ob:∀{aj:aQ} {c:Tc} {X:Cx} {W:WX} {k:Nat},vN aj c X W k->∀{e:List Stmt} {f:SF},s.B c e=some f->Jp aj X W q e f
def Eh:Expr->Bool
 |.ListComp _ _ _ _=>true
 |.SetComp _ _ _ _=>true
 |.DictComp _ _ _ _ _=>true
 |_=>false
theorem Gv{e:Expr}{tg:Option Expr}{l:Nat}{env:PySem.Env}(h:Eh e=false):swapsWith e tg l env=pure false:=by
 cases e <;> first | rfl | cases h
def abg:Expr->Bool
 |.Tuple _ _ _=>true
 |_=>false
def swB(sc:Scope)(v:Expr)(scope:Scope)(x:Str)(p:Pos):Bool:=(match sc.names.lookup x with
 |some .local=>true
 |_=>false)&&(p.line==v.pos.line&&!(scope.names.any fun(n,k)=>n==x&&(k==.local || k==.cell)))
theorem Qp{X:Cx}{elt:Expr}{gens:List Comprehension}{scope:Scope}{pos p:Pos}{x:Str}{l:Nat}(hk:X.env.scope.kind=.function)(h:swB X.env.scope (.ListComp elt gens scope pos) scope x p=true):X.env.scope.names.lookup x=some .local/\swapsWith (.ListComp elt gens scope pos) (some (.Name x p)) l X.env=pure true:=by
 unfold swB at h
 simp only[aqg]at h
 obtain⟨h1,h2,h3⟩:=h
 have e1:X.env.scope.names.lookup x=some .local:=by
  split at h1
  ·assumption
  ·cases h1
 refine⟨e1,?_⟩
 have eb:X.env.blockKind=.function:=by
  unfold PySem.Env.blockKind
  rw[hk]
  rfl
 unfold swapsWith
 show(pure (X.env.blockKind==.function&&X.env.kindOf x==some .local&&p.line==(Expr.ListComp elt gens scope pos).pos.line&&!(scope.names.any fun(n,k)=>n==x&&(k==.local || k==.cell))):Sem Bool)=pure true
 rw[eb,h2,h3]
 unfold PySem.Env.kindOf
 rw[e1]
 rfl
theorem acC{X:Cx}{elt:Expr}{gens:List Comprehension}{scope:Scope}{pos p:Pos}{x:Str}{l:Nat}(h:(p.line==(Expr.ListComp elt gens scope pos).pos.line)=false):swapsWith (.ListComp elt gens scope pos) (some (.Name x p)) l X.env=pure false:=by
 unfold swapsWith
 show(pure (X.env.blockKind==.function&&X.env.kindOf x==some .local&&p.line==(Expr.ListComp elt gens scope pos).pos.line&&!(scope.names.any fun(n,k)=>n==x&&(k==.local || k==.cell))):Sem Bool)=pure false
 rw[h,Bool.and_false,Bool.false_and]
def trN(t:Tr)(c:Tc):Expr->Option IF
 |.List es _=>(Jl t c es).bind fun fr=>some (Nt fr)
 |_=>none
theorem ab0{aj:aQ}{c:Tc}{X:Cx}{W:WX}{k:Nat}{t:Tr}(o:t.Ok)(a:Amb aj c X W k){e:Expr}{f:IF}(h:trN t c e=some f):FE aj X W e f/\Eh e=false:=by
 unfold trN at h
 split at h
 ·obtain⟨fr,h1,h⟩:=aqe.mp h
  cases h
  exact⟨aiG (uV o a h1).1,rfl⟩
 ·cases h
section
variable{X:Cx}{aj:aQ}{W:WX}{q:Bool}{e:Expr}{pos:Pos}
theorem ahH{j:Nat}{y:Str}{py:Pos}{elt tg iter:Expr}{cpos:Pos}{scope:Scope}{own:List (Str×Nat)}{it:IF}{tgf:fL}{js:List Nat}{tt:QT}{te:QF}{ifs:List Expr}(hc:X.calm=true)(hN:X.N.Nodup)(hy:X.N[j]?=some y)(hyl:X.env.scope.names.lookup y=some .local)
  (hsw:swapsWith (.ListComp elt [⟨tg,iter,ifs,0⟩] scope cpos) (some (.Name y py)) pos.line X.env=pure true) (hi:QI aj X W false tg iter it) (ok:blkC X.N X.env.scope scope own=true) (hj:∀j∈js,j∈own.map (·.2))
  (hg:∀(s:Shared) (H:Hp) (C:Addr) (cl:List (Str×Addr)) (fp:List Addr),QG aj (X.blk s H scope (compEnvC scope cl C X.env) fp) tg js tgf)
  (ht:∀(s:Shared) (H:Hp) (C:Addr) (cl:List (Str×Addr)) (fp:List Addr),PTs (X.blk s H scope (compEnvC scope cl C X.env) fp) ifs (j9 X.K aj WF tt))
  (he:∀(s:Shared) (H:Hp) (C:Addr) (cl:List (Str×Addr)) (fp:List Addr),QE aj (X.blk s H scope (compEnvC scope cl C X.env) fp) WF elt te) (hs:∀x,foldedSetIterable iter X.env x=pure x) :
  SE aj X W q (.Assign [.Name y py] (.ListComp elt [⟨tg,iter,ifs,0⟩] scope cpos) pos) (BZ j (Ad it tgf (own.map (·.2)) tt te)):=by
 refine PS.weak (ps_setLc (g:=zQ X.K aj js tgf) (tt:=j9 X.K aj WF tt) (te:=tQ X.K aj WF te) hc hN hy hyl hsw hi (blkOk_by ok) (fun s H C cl fp=>hg s H C cl fp) ht (fun s H C cl fp=>he s H C cl fp) hs) fun D σ H h=>?_
 exact Xd hj σ H _ (adB D σ H h)
end
def afR(t:Tr)(c:Tc)(elt tg iter:Expr)(ifs:List Expr)(scope:Scope):Option IF:=
 (t.I c false tg iter).bind fun it=>(UJ (c.inn scope) tg).bind fun jt=>(Tj t (c.inn scope) ifs).bind fun tt=>(t.E (c.inn scope) elt).bind fun te=>
  gd (blkC c.N c.sc scope (oZ tg jt.1)&&(NZ jt.1 ((oZ tg jt.1).map (·.2))&&!yE iter)) (some (Ad it jt.2 ((oZ tg jt.1).map (·.2)) tt te))
def R5(t:Tr)(c:Tc)(x:Str)(p:Pos)(elt tg iter:Expr)(ifs:List Expr)(scope:Scope)(cpos:Pos):Option SF:=
 (vh c x).bind fun j=>gd (swB c.sc (.ListComp elt [⟨tg,iter,ifs,0⟩] scope cpos) scope x p || !(p.line==(Expr.ListComp elt [⟨tg,iter,ifs,0⟩] scope cpos).pos.line))
  (match c.ml.contains x with
  |true=>(afR t c elt tg iter ifs scope).bind fun f=>some (BZ j f)
  |false=>(Yq t c elt tg iter ifs scope).bind fun f=>some (bD (aG j) (gOf f)))
section
variable{aj:aQ}{c:Tc}{X:Cx}{W:WX}{k:Nat}{t:Tr}{q:Bool}
theorem abX(o:t.Ok)(a:vN aj c X W k){x:Str}{p cpos pos:Pos}{elt tg iter:Expr}{ifs:List Expr}{scope:Scope}{f:SF}(h:R5 t c x p elt tg iter ifs scope cpos=some f):SE aj X W q (.Assign [.Name x p] (.ListComp elt [⟨tg,iter,ifs,0⟩] scope cpos) pos) f:=by
 unfold R5 at h
 obtain⟨j,hj,h⟩:=aqe.mp h
 obtain⟨hsw,h⟩:=aW.mp h
 obtain⟨s1,s2,s3⟩:=mO a.toAmb hj
 rw[arn]at hsw
 split at h
 ·obtain⟨f1,h1,h⟩:=aqe.mp h
  cases h
  unfold afR at h1
  obtain⟨it,h2,h1⟩:=aqe.mp h1
  obtain⟨⟨js,tf⟩,h3,h1⟩:=aqe.mp h1
  obtain⟨tt,h4,h1⟩:=aqe.mp h1
  obtain⟨te,h5,h1⟩:=aqe.mp h1
  obtain⟨hb,h1⟩:=aW.mp h1
  cases h1
  simp only[aqg,aqz]at hb
  obtain⟨b1,b2,b3⟩:=hb
  rcases hsw with hsw|hsw
  ·rw[←a.hs]at hsw
   obtain⟨l1,l2⟩:=Qp (l:=pos.line) a.kf hsw
   exact ahH a.calm a.nd s1 l1 l2 (o.oi a.toAmb h2) (by rw[a.hN,a.hs];exact b1) (pG b2) (fun s H C cl fp=>uR (a.toAmb.inn scope s H C cl fp) h3) (fun s H C cl fp=>vY o (a.toAmb.inn scope s H C cl fp) h4) (fun s H C cl fp=>o.oe (a.toAmb.inn scope s H C cl fp) h5) (qZ b3)
  ·exact adY a.nd s1 s2 s3 (akz a.calm a.nd (o.oi a.toAmb h2) (by rw[a.hN,a.hs];exact b1) (pG b2) (fun s H C cl fp=>uR (a.toAmb.inn scope s H C cl fp) h3) (fun s H C cl fp=>vY o (a.toAmb.inn scope s H C cl fp) h4) (fun s H C cl fp=>o.oe (a.toAmb.inn scope s H C cl fp) h5) (qZ b3)) (acC (by simpa using hsw))
 ·obtain⟨f1,h1,h⟩:=aqe.mp h
  cases h
  rcases hsw with hsw|hsw
  ·rw[←a.hs]at hsw
   obtain⟨l1,l2⟩:=Qp (l:=pos.line) a.kf hsw
   unfold Yq at h1
   obtain⟨it,h2,h1⟩:=aqe.mp h1
   obtain⟨⟨js,tf⟩,h3,h1⟩:=aqe.mp h1
   obtain⟨tt,h4,h1⟩:=aqe.mp h1
   obtain⟨te,h5,h1⟩:=aqe.mp h1
   obtain⟨hb,h1⟩:=aW.mp h1
   cases h1
   simp only[aqg,aqz]at hb
   obtain⟨b1,b2,b3⟩:=hb
   exact aiV a.calm a.nd s1 l1 l2 (o.oi a.toAmb h2) (by rw[a.hN,a.hs];exact b1) (pG b2) (fun s H C cl fp=>uR (a.toAmb.inn scope s H C cl fp) h3) (fun s H C cl fp=>vY o (a.toAmb.inn scope s H C cl fp) h4) (fun s H C cl fp=>o.oe (a.toAmb.inn scope s H C cl fp) h5) (qZ b3)
  ·exact X4 (afP (aaQ o a.toAmb h1)) (R4 a.nd s1 s2 s3) (acC (l:=pos.line) (by simpa using hsw)) (by with_unfolding_all rfl) (by with_unfolding_all rfl)
end
theorem Es{tg e:Expr}{l:Nat}{env:PySem.Env}(h:Eh e=false):swapsWithSole [tg] e l env=pure false:=Gv h
def abx(t:Tr)(s:Ts)(c:Tc):Expr->Expr->Option SF
 |.Name x p,.ListComp elt [⟨tg,iter,ifs,0⟩] scope cpos=>R5 t c x p elt tg iter ifs scope cpos
 |.Name x _,e=>(vh c x).bind fun j=>match c.ml.contains x with
  |true=>(trN t c e).bind fun f=>some (BZ j f)
  |false=>gd (!Eh e) ((s.G c e).bind fun f=>some (bD (aG j) f))
 |.Tuple [.Name x _,.Starred (.Name y _) _] _ _,e=>(vh c x).bind fun i=>(vh c y).bind fun j=>gd (!Eh e&&!abg e) ((s.G c e).bind fun f=>some (WL i j f))
 |.Tuple ts _ _,e=>(Yx c ts).bind fun js=>gd (!Eh e&&!abg e) ((s.G c e).bind fun f=>some (bD (bA js) f))
 |_,_=>none
theorem QZ{tg e:Expr}{env:PySem.Env}(h:abg e=false):swappedStores [tg] e env=pure none:=by
 cases tg <;> first | rfl | (cases e <;> first | rfl | cases h)
section
variable{aj:aQ}{c:Tc}{X:Cx}{W:WX}{k:Nat}{t:Tr}{s:Ts}{q:Bool}
theorem aeP(o:t.Ok)(os:s.Ok q)(a:vN aj c X W k){tg e:Expr}{pos:Pos}{f:SF}(h:abx t s c tg e=some f):SE aj X W q (.Assign [tg] e pos) f:=by
 unfold abx at h
 split at h
 ·exact abX o a h
 ·obtain⟨j,hj,h⟩:=aqe.mp h
  obtain⟨s1,s2,s3⟩:=mO a.toAmb hj
  split at h
  ·obtain⟨f1,h1,h⟩:=aqe.mp h
   cases h
   obtain⟨i1,i2⟩:=ab0 o a.toAmb h1
   exact adY a.nd s1 s2 s3 i1 (Gv i2)
  ·obtain⟨hc,h⟩:=aW.mp h
   obtain⟨f1,h1,h⟩:=aqe.mp h
   cases h
   exact X4 (os.og a h1) (R4 a.nd s1 s2 s3) (Es (by simpa using hc)) (by with_unfolding_all rfl) (by with_unfolding_all rfl)
 ·obtain⟨i,hi,h⟩:=aqe.mp h
  obtain⟨j,hj,h⟩:=aqe.mp h
  obtain⟨hc,h⟩:=aW.mp h
  obtain⟨f1,h1,h⟩:=aqe.mp h
  cases h
  simp only[aqg,aqz]at hc
  exact af2 a.calm a.nd (mO a.toAmb hi) (mO a.toAmb hj) (os.og a h1) (Es hc.1) (QZ hc.2)
 ·obtain⟨js,hj,h⟩:=aqe.mp h
  obtain⟨hc,h⟩:=aW.mp h
  obtain⟨f1,h1,h⟩:=aqe.mp h
  cases h
  simp only[aqg,aqz]at hc
  exact X4 (os.og a h1) (adD a.calm a.nd (S7 a.toAmb hj)) (Es hc.1) (QZ hc.2) (by with_unfolding_all rfl)
 ·cases h
end
def abT(s:Ts)(c:Tc):List Stmt->Option SF
 |[]=>some aU
 |[a]=>s.S c a
 |a::b::r=>(s.S c a).bind fun f=>(s.B c (b::r)).bind fun g=>some (aD f g)
def stS(t:Tr)(s:Ts)(c:Tc):Stmt->Option SF
 |.Assign [tg] e _=>abx t s c tg e
 |.Assign [.Name x _,.Name y _] e _=>(vh c x).bind fun i=>(vh c y).bind fun j=>gd (!abg e) ((s.G c e).bind fun f=>some (Rv i j f))
 |.AugAssign (.Name x _) .Add e _=>(vh c x).bind fun j=>(t.E c e).bind fun f=>some (OD j f)
 |.Expr (.Call (.Attribute (.Name x _) m apos) [e] [] pos) _=>(Ld c x).bind fun j=>gd (m=="append"&&(c.ml.contains x&&(nst e&&(apos.endLine==pos.line)))) ((t.E c e).bind fun f=>some (HY j f))
 |.Return (some e) _=>(match t.E c e with
  |some f=>some (aR f)
  |none=>(s.G c e).bind fun f=>some (gU f))
 |.If d s1 s2 _=>(s.B c s1).bind fun f=>(s.B c s2).bind fun g=>(t.T c d).bind fun td=>some (bR td f g)
 |.For tg iter body [] _=>(t.I c true tg iter).bind fun it=>(UJ c tg).bind fun jt=>(s.B c body).bind fun f=>gd (!yE iter) (some (oU it jt.2 f))
 |_=>none
section
variable{aj:aQ}{c:Tc}{X:Cx}{W:WX}{k:Nat}{t:Tr}{s:Ts}{q:Bool}
theorem aei(os:s.Ok q)(a:vN aj c X W k){b:List Stmt}{f:SF}(h:abT s c b=some f):Jp aj X W q b f:=by
 unfold abT at h
 split at h
 ·cases h;exact akf
 ·exact ai8 (os.os a h)
 ·obtain⟨f1,h1,h⟩:=aqe.mp h
  obtain⟨f2,h2,h⟩:=aqe.mp h
  cases h
  exact agQ (os.os a h1) (os.ob a h2)
theorem ahV(o:t.Ok)(os:s.Ok q)(a:vN aj c X W k){st:Stmt}{f:SF}(h:stS t s c st=some f):SE aj X W q st f:=by
 unfold stS at h
 split at h
 ·exact aeP o os a h
 ·obtain⟨i,hi,h⟩:=aqe.mp h
  obtain⟨j,hj,h⟩:=aqe.mp h
  obtain⟨hc,h⟩:=aW.mp h
  obtain⟨f1,h1,h⟩:=aqe.mp h
  cases h
  exact af8 a.nd (mO a.toAmb hi) (mO a.toAmb hj) (os.og a h1) (by with_unfolding_all rfl)
 ·obtain⟨j,hj,h⟩:=aqe.mp h
  obtain⟨f1,h1,h⟩:=aqe.mp h
  cases h
  obtain⟨s1,s2,s3⟩:=mO a.toAmb hj
  exact ah0 a.nd s1 s2 s3 (o.oe a.toAmb h1)
 ·obtain⟨j,hj,h⟩:=aqe.mp h
  obtain⟨hc,h⟩:=aW.mp h
  obtain⟨f1,h1,h⟩:=aqe.mp h
  cases h
  simp only[aqg]at hc
  cases eq_of_beq hc.1
  obtain⟨s1,s2,s3,s4⟩:=zP a.toAmb hj
  exact aie s1 s2 s3 s4 (o.oe a.toAmb h1) hc.2.2.1 hc.2.2.2
 ·split at h
  ·next f1 h1=>
   cases h
   exact aiT (o.oe a.toAmb h1)
  ·obtain⟨f1,h1,h⟩:=aqe.mp h
   cases h
   exact agn (os.og a h1)
 ·obtain⟨f1,h1,h⟩:=aqe.mp h
  obtain⟨f2,h2,h⟩:=aqe.mp h
  obtain⟨td,h3,h⟩:=aqe.mp h
  cases h
  exact akI (o.ot a.toAmb h3) (os.ob a h1) (os.ob a h2)
 ·obtain⟨it,h1,h⟩:=aqe.mp h
  obtain⟨⟨js,tf⟩,h2,h⟩:=aqe.mp h
  obtain⟨f1,h3,h⟩:=aqe.mp h
  obtain⟨hc,h⟩:=aW.mp h
  cases h
  exact akb a.ps a.calm (o.oi a.toAmb h1) (uR a.toAmb h2) (os.ob a h3) (qZ (by simpa using hc))
 ·cases h
end
abbrev GA:=Mo->Env->aZ (List Dat)
def akQ:GA:=fun M _=>.ok [] M
def ajE(a:GF)(r:GA):GA:=fun M ρ=>(a M ρ).bind fun d M1=>(r M1 ρ).bind fun ds M2=>.ok (d::ds) M2
def ai6(m:Mo->List Dat->aZ Dat)(as:GA):GF:=fun M ρ=>(as M ρ).bind fun ds M1=>m M1 ds
def aiM(m:Mo->List Dat->Out Dat)(as:GA):GF:=fun M ρ=>(as M ρ).bind fun ds M1=>(m M1 ds).at M1
section
variable{X:Cx}{aj:aQ}{W:WX}{q:Bool}{a b e:Expr}{es:List Expr}{pos p:Pos}
variable{x:Str}{k:Nat}{f:Addr}{fd:FuncData}{ps:List Str}
def aky(a:GT):GT:=fun M ρ=>(a M ρ).bind fun b M1=>.ok (!b) M1
def ak1(a b:GT):GT:=fun M ρ=>(a M ρ).bind fun x M1=>if x=true then b M1 ρ else .ok false M1
def alT(a b:GT):GT:=fun M ρ=>(a M ρ).bind fun x M1=>if x=true then .ok true M1 else b M1 ρ
def alg(a:GF):GT:=fun M ρ=>(a M ρ).bind fun d M1=>(Ig d).at M1
end
section
variable{aj:aQ}{c:Tc}{X:Cx}{W:WX}{k:Nat}{t:Tr}{s:Ts}{q:Bool}
def xG(t:Tr)(s:Ts)(c:Tc):Expr->Option GF
 |.Call (.Name x _) [] [] _=>(match c.G.lookup x with
  |some (.cls 0 m)=>gd (Fw c.sc x&&!Ez x) (some (Aj x m au))
  |_=>none)
 |.Call (.Name x _) (e::es) [] _=>(match c.G.lookup x with
  |some (.fg n m)=>gd (Fw c.sc x&&(!Ez x&&decide ((e::es).length=n))) ((Jl t c (e::es)).bind fun as=>some (Ho m as))
  |some (.cls n m)=>gd (Fw c.sc x&&(!Ez x&&decide ((e::es).length=n))) ((Jl t c (e::es)).bind fun as=>some (Aj x m as))
  |_=>none)
 |.Call (.Attribute o m apos) es [] pos=>(c.hs.Ms.lookup m).bind fun tb=>(t.W c o).bind fun fo=>(Jl t c es).bind fun as=>
  gd (tbN tb (es.length+1)&&(baseOk o&&(decide (es.length < 30)&&(apos.endLine==pos.line)))) (some (cM tb fo as))
 |_=>none
theorem ak6(o:t.Ok)(os:s.Ok false)(a:vN aj c X W k){e:Expr}{f:GF}(h:xG t s c e=some f):GE aj X W false e f:=by
 unfold xG at h
 split at h
 ·split at h
  ·next m hl=>
   obtain⟨hb,h⟩:=aW.mp h
   cases h
   simp only[aqg,aqz]at hb
   exact aho a.rm (a.gl _ _ hl) (sH a.toAmb hb.1) (tM hb.2).1
  ·cases h
 ·split at h
  ·next n m hl=>
   obtain⟨hb,h⟩:=aW.mp h
   simp only[aqg,aqz,decide_eq_true_eq]at hb
   obtain⟨b1,b2,b3⟩:=hb
   obtain⟨fa,hm,hk,fd,ps,j,hj,hp,hB,F⟩:=a.gl _ _ hl
   obtain⟨as,h1,h⟩:=aqe.mp h
   cases h
   obtain⟨i1,i2,i3⟩:=uV o a.toAmb h1
   exact agW a.tk F (a.rm.mono hj) (sH a.toAmb b1) hm hk hB i1 (b3.trans hp.symm) (tM b2).1 i2 i3
  ·next n m hl=>
   obtain⟨hb,h⟩:=aW.mp h
   simp only[aqg,aqz,decide_eq_true_eq]at hb
   obtain⟨b1,b2,b3⟩:=hb
   obtain⟨as,h1,h⟩:=aqe.mp h
   cases h
   obtain⟨i1,i2,i3⟩:=uV o a.toAmb h1
   exact ajA a.rm (a.gl _ _ hl) (sH a.toAmb b1) (tM b2).1 i1 i2 (fun M ρ ds z=>by rw[i3 M ρ ds z];exact b3)
  ·cases h
 ·next b m apos es pos=>
  obtain⟨tb,h1,h⟩:=aqe.mp h
  obtain⟨fo,h2,h⟩:=aqe.mp h
  obtain⟨as,h3,h⟩:=aqe.mp h
  obtain⟨hb,h⟩:=aW.mp h
  cases h
  simp only[aqg,decide_eq_true_eq]at hb
  obtain⟨b2,b3,b4,b5⟩:=hb
  obtain⟨i1,i2,i3⟩:=uV o a.toAmb h3
  cases es with
  |nil=>
   cases h3
   exact afk a.tk a.rm (WK a.toAmb h1 b2) (o.ow a.toAmb h2) b3 b5
  |cons e es=>exact agk a.tk a.rm (WK a.toAmb h1 b2) (o.ow a.toAmb h2) i1 i3 b3 i2 b5 b4
 ·cases h
end
section
variable{aj:aQ}{c:Tc}{X:Cx}{W:WX}{k:Nat}{t:Tr}{s:Ts}{q:Bool}
theorem Ih{e o:Expr}{f:Str}{p:Pos}{l:Nat}{env:PySem.Env}:swapsWith e (some (.Attribute o f p)) l env=pure false:=by
 cases e <;> rfl
theorem ae7{e o:Expr}{i:Expr}{p:Pos}{l:Nat}{env:PySem.Env}:swapsWith e (some (.Subscript o i p)) l env=pure false:=by
 cases e <;> rfl
theorem aeT{o:Expr}{f:Str}{p spos:Pos}{i:Expr}{env:PySem.Env}(h:Xb i=false):∀v,assign (.Subscript (.Attribute o f p) i spos) env v=(do
   let ov ←holding [v] (eval (.Attribute o f p) env)
   let iv ←holding [v,ov] (eval i env)
   standAt spos
   holding [v,ov,iv] (setItem ov iv v)
   release [v,ov,iv] []):=fun v=>by
 cases i <;> first | (with_unfolding_all rfl) | cases h
def ajQ(t:Tr)(c:Tc)(kx tg iter:Expr)(scope:Scope):Option (Mo->Env->Out (List (Dat×Dat))):=
 (t.I c false tg iter).bind fun it=>(UJ (c.inn scope) tg).bind fun jt=>(t.E (c.inn scope) kx).bind fun te=>
  gd (blkC c.N c.sc scope (oZ tg jt.1)&&(NZ jt.1 ((oZ tg jt.1).map (·.2))&&!yE iter)) (some (qDc it jt.2 ((oZ tg jt.1).map (·.2)) te))
theorem aeY(a:Amb aj c X W k):X.A.units+64 < cLine:=by have:=a.rm.un;omega
def afg(t:Tr)(s:Ts)(c:Tc)(o:Expr)(f:Str):Expr->Option SF
 |.Dict [] [] _=>(t.W c o).bind fun fo=>(c.hs.df.lookup f).bind fun b=>some (Mq c.hs.ft fo f b)
 |.DictComp kx (.Constant (.bool true) _ _) [⟨tg,iter,[],0⟩] scope _=>(t.W c o).bind fun fo=>(ajQ t c kx tg iter scope).bind fun fe=>some (Qe c.hs.ft fo f fe)
 |.List es p=>(t.W c o).bind fun fo=>(trN t c (.List es p)).bind fun fe=>some (DY c.hs.ft fo f fe)
 |e=>gd (!Eh e) ((t.W c o).bind fun fo=>(s.G c e).bind fun fe=>some (tV c.hs.ft fo f fe))
theorem ahs(ot:t.Ok)(os:s.Ok false)(a:vN aj c X W k){o e:Expr}{f:Str}{p pos:Pos}{sf:SF}(h:afg t s c o f e=some sf):SE aj X W false (.Assign [.Attribute o f p] e pos) sf:=by
 have hk:=a.hk
 unfold afg at h
 split at h
 ·obtain⟨fo,h1,h⟩:=aqe.mp h
  obtain⟨b,h2,h⟩:=aqe.mp h
  cases h
  exact ag9 hk.co hk.fk hk.hw (ot.ow a.toAmb h1) Ih
 ·obtain⟨fo,h1,h⟩:=aqe.mp h
  obtain⟨fe,h2,h⟩:=aqe.mp h
  cases h
  unfold ajQ at h2
  obtain⟨it,i1,h2⟩:=aqe.mp h2
  obtain⟨⟨js,tf⟩,i2,h2⟩:=aqe.mp h2
  obtain⟨te,i3,h2⟩:=aqe.mp h2
  obtain⟨hb,h2⟩:=aW.mp h2
  cases h2
  simp only[aqg,aqz]at hb
  obtain⟨b1,b2,b3⟩:=hb
  exact agq hk.co hk.fk (ot.ow a.toAmb h1) (ahF (g:=zQ X.K aj js tf) (tk:=tQ X.K aj WF te) a.calm a.nd (aeY a.toAmb) (ot.oi a.toAmb i1) (blkOk_by (by rw[a.hN,a.hs];exact b1)) (fun s H C cl fp=>uR (a.toAmb.inn _ s H C cl fp) i2) (fun s H C cl fp=>ot.oe (a.toAmb.inn _ s H C cl fp) i3) (qZ b3)) (fun σ H Q z=>ala hk.hw (pG b2) σ H Q z) Ih
 ·obtain⟨fo,h1,h⟩:=aqe.mp h
  obtain⟨fe,h2,h⟩:=aqe.mp h
  cases h
  exact ahw hk.co hk.fk (ot.ow a.toAmb h1) (ab0 ot a.toAmb h2).1 Ih
 ·obtain⟨hc,h⟩:=aW.mp h
  obtain⟨fo,h1,h⟩:=aqe.mp h
  obtain⟨fe,h2,h⟩:=aqe.mp h
  cases h
  exact ag3 hk.co hk.fk (ot.ow a.toAmb h1) (os.og a h2) Ih
def Xj(n:Str):List Expr->Option (List Str)
 |[]=>some []
 |.Attribute (.Name m _) f _::es=>gd (m==n) ((Xj n es).bind fun fs=>some (f::fs))
 |_=>none
def abS(nm:Option Str):Expr->Option DP
 |.Constant (.str x) _ _=>some (.con (.str x))
 |.Constant .none _ _=>some (.con .none)
 |.Tuple [] _ _=>some (.con (.tuple []))
 |.Attribute (.Name m _) f _=>nm.bind fun n=>gd (m==n) (some (.fld f))
 |.Tuple es _ _=>nm.bind fun n=>(Xj n es).bind fun fs=>some (.flds fs)
 |_=>none
def DP.fs:DP->List Str
 |.con _=>[]
 |.fld f=>[f]
 |.flds fs=>fs
def abW(c:Tc)(nm:Option Str):List Stmt->Option (List (Nat×DP))
 |[]=>some []
 |.Assign [.Name x _] e _::r=>(vh c x).bind fun j=>(abS nm e).bind fun se=>(abW c nm r).bind fun st=>some ((j,se)::st)
 |_=>none
def Tz(c:Tc):Option Str->Option (Option Nat)
 |none=>some none
 |some n=>(Ld c n).bind fun i=>match c.sc.names.lookup n with
  |some .local=>some (some i)
  |_=>none
def ah5(c:Tc):ExceptHandler->Option Hd
 |.ExceptHandler (some (.Name y _)) nm (s0::su) _=>(c.hs.xm.lookup y).bind fun tab=>(Tz c nm).bind fun i=>(abW c nm (s0::su)).bind fun st=>
  (match c.G.lookup y with
  |some .exc=>some true
  |some (.exi _)=>some true
  |_=>none).bind fun _=>
  gd (Fw c.sc y&&(!Ez y&&(st.all (fun p=>match i with
   |some j=>!(j==p.1)
   |none=>true)&&st.all (fun p=>p.2.fs.all (fun f=>((c.hs.xf.lookup y).getD []).contains f)&&decide (p.2.fs.length<=100))))) (some ⟨y,fun x=>tab.lookup x,i,st⟩)
 |_=>none
def W0(c:Tc):List ExceptHandler->Option (List Hd)
 |[]=>some []
 |h::hs=>(ah5 c h).bind fun d=>(W0 c hs).bind fun ds=>some (d::ds)
theorem aaO{y n:Str}{C:Addr}{a:Addr}{oe:Obj}{cls:Value}{d:Option Addr}{pn:List (Addr×Obj)}{j:Nat}{fl:List Str}(hC:aj y=some C)(T:XfC X.K C)(hno:∀f∈fl,PySem.W.findIn X.K (.ref C) f=some none)(hz:Zc cls d oe)(hf:∃vs,oe.data=.fields vs)(hN:X.N[j]?=some n)(hv:Vis X.env.scope n)(hd:(n==("__debug__" : Str))=false)(hcd:(n==("__classdict__" : Str))=false) :
  ∀{es:List Expr} {fs:List Str},Xj n es=some fs->(∀f∈fs,f∈fl)->PA (X.suite a ((a,oe)::pn)) es (tUA X.K aj a cls d (some j) fun x=>QV y x fs)
 |[],fs,h,_=>by
  cases h
  exact ac1
 |.Attribute (.Name m p) f p2::es,fs,h,hs=>by
  rw[Xj]at h
  obtain⟨hm,h⟩:=aW.mp h
  obtain⟨fr,h1,h⟩:=aqe.mp h
  cases h
  cases eq_of_beq hm
  exact agN (adl hC T (hno f (hs f aql)) hz hf hN hv hd hcd) (aaO hC T hno hz hf hN hv hd hcd h1 fun f hf=>hs f (aqk _ hf)) rfl
theorem ahc{y:Str}{nm:Option Str}{i:Option Nat}{a:Addr}{oe:Obj}{cls:Value}{d:Option Addr}{pn:List (Addr×Obj)}{e:Expr}{se:DP}(am:Amb aj c X W k)(hi:Tz c nm=some i)(hy:(c.hs.xf.lookup y).getD []=fl)(hfl:∀f∈se.fs,f∈fl)(hl:se.fs.length<=100)(hz:Zc cls d oe)(hf:∃vs,oe.data=.fields vs)(h:abS nm e=some se) :
  PE (X.suite a ((a,oe)::pn)) e (tU X.K aj a cls d i fun x=>Xo y x se):=by
 have fld:∀n j,nm=some n->i=some j->X.N[j]?=some n/\Vis X.env.scope n/\(n==("__debug__" : Str))=false/\(n==("__classdict__" : Str))=false:=fun n j e1 e2=>by
  subst e1 e2
  unfold Tz at hi
  obtain⟨j',h1,hi⟩:=aqe.mp hi
  split at hi
  ·cases hi
   exact zP am h1
  ·cases hi
 have hsome:∀n,nm=some n->∃j,i=some j:=fun n e1=>by
  subst e1
  unfold Tz at hi
  obtain⟨j',h1,hi⟩:=aqe.mp hi
  split at hi
  ·cases hi
   exact⟨_,rfl⟩
  ·cases hi
 have hxf:fl≠[]->∃C,aj y=some C/\XfC X.K C/\∀f∈fl,PySem.W.findIn X.K (.ref C) f=some none:=fun ne=>by
  cases hx:c.hs.xf.lookup y with
  |none=>
   rw[hx]at hy
   exact absurd hy.symm ne
  |some l=>
   rw[hx]at hy
   cases hy
   exact am.hk.xf y _ hx
 unfold abS at h
 split at h
 ·cases h
  exact acV pe_str fun σ H Q ⟨g,ρ,M,x,z,I,e,kk⟩=>by
   cases e
   exact kk _ H (Ex.refl H) (.str _)
 ·cases h
  exact acV pe_non fun σ H Q ⟨g,ρ,M,x,z,I,e,kk⟩=>by
   cases e
   exact kk _ H (Ex.refl H) .non
 ·cases h
  exact PE.weak (ace (aj:=aj) (cls:=cls) (d:=d) (i:=i) ac1 fun x zs e=>by cases e;exact aqW _) fun σ H Q z=>z
 ·obtain⟨n,e1,h⟩:=aqe.mp h
  obtain⟨hm,h⟩:=aW.mp h
  cases h
  cases eq_of_beq hm
  obtain⟨j,rfl⟩:=hsome _ e1
  obtain⟨f1,f2,f3,f4⟩:=fld _ j e1 rfl
  obtain⟨C,c1,c2,c3⟩:=hxf (List.ne_nil_of_mem (hfl _ (aqm.mpr rfl)))
  exact adl c1 c2 (c3 _ (hfl _ (aqm.mpr rfl))) hz hf f1 f2 f3 f4
 ·next es _ _ hne=>
  obtain⟨n,e1,h⟩:=aqe.mp h
  obtain⟨fs,e2,h⟩:=aqe.mp h
  cases h
  obtain⟨j,rfl⟩:=hsome _ e1
  obtain⟨f1,f2,f3,f4⟩:=fld _ j e1 rfl
  have hfs:fs≠[]:=fun z=>by
   subst z
   match es,e2 with
   |[],_=>exact hne rfl
   |.Attribute (.Name m _) f _::es,e2=>
    rw[Xj]at e2
    obtain⟨_,e2⟩:=aW.mp e2
    obtain⟨_,_,e2⟩:=aqe.mp e2
    cases e2
  have hfn:fl≠[]:=by
   cases fs with
   |nil=>exact absurd rfl hfs
   |cons f r=>exact List.ne_nil_of_mem (hfl f aql)
  obtain⟨C,c1,c2,c3⟩:=hxf hfn
  exact ace (aaO c1 c2 c3 hz hf f1 f2 f3 f4 e2 hfl) fun x zs e=>by
   have:=U6 e
   have hl:fs.length<=100:=hl
   omega
 ·cases h
theorem SM{y:Str}{nm:Option Str}{i:Option Nat}{a:Addr}{oe:Obj}{cls:Value}{d:Option Addr}{pn:List (Addr×Obj)}{fl:List Str}(am:Amb aj c X W k)(hi:Tz c nm=some i)(hy:(c.hs.xf.lookup y).getD []=fl)(hz:Zc cls d oe)(hf:∃vs,oe.data=.fields vs) :
  ∀{ss:List Stmt} {st:List (Nat×DP)},abW c nm ss=some st->(∀p∈st,(∀f∈p.2.fs,f∈fl)/\p.2.fs.length<=100)->PSs (X.suite a ((a,oe)::pn)) ss (tSu X.K aj a cls d i y st)
 |[],st,h,_=>by
  cases h
  exact PSs.weak pss_nil fun D σ H z=>ahM z
 |.Assign [.Name x p] e p2::r,st,h,hs=>by
  rw[abW]at h
  obtain⟨j,h1,h⟩:=aqe.mp h
  obtain⟨se,h2,h⟩:=aqe.mp h
  obtain⟨st',h3,h⟩:=aqe.mp h
  cases h
  obtain⟨s1,s2,s3⟩:=mO am h1
  obtain⟨u1,u2⟩:=hs (j,se) aql
  have he:=ahc (a:=a) (pn:=pn) am hi hy u1 u2 hz hf h2
  have hne:Eh e=false/\swappedStores [.Name x p] e X.env=pure none:=by
   unfold abS at h2
   split at h2 <;> first | exact⟨rfl,rfl⟩ | cases h2
  refine PSs.weak (pss_cons (ps_asg he (pg_name (X:=X.suite a ((a,oe)::pn)) am.nd s1 s2 s3) (Es hne.1) hne.2 (by with_unfolding_all rfl)) (SM am hi hy hz hf h3 fun p hp=>hs p (aqk _ hp))) fun D σ H z=>?_
  exact aj1 z fun σ' H' z'=>z'
def al7(aj:aQ)(K:aqf)(h:Hd)(D:Addr):Cl:=⟨.ref D,h.nm,fun a cls d=>tSu K aj a cls d h.nm h.y h.st⟩
theorem Yh(am:Amb aj c X W k):∀{hds:List ExceptHandler} {hs:List Hd},W0 c hds=some hs->∃ls,Bs X hds ls/\FT X.K aj hs ls
 |[],hs,h=>by
  cases h
  exact⟨[],.nil,.nil⟩
 |h0::hds,hs,h=>by
  rw[W0]at h
  obtain⟨d,h1,h⟩:=aqe.mp h
  obtain⟨ds,h2,h⟩:=aqe.mp h
  cases h
  obtain⟨ls,i1,i2⟩:=Yh am h2
  unfold ah5 at h1
  split at h1
  ·next y np nm s0 su cp=>
   obtain⟨tab,j1,h1⟩:=aqe.mp h1
   obtain⟨i,j2,h1⟩:=aqe.mp h1
   obtain⟨st,j3,h1⟩:=aqe.mp h1
   obtain⟨_,j4,h1⟩:=aqe.mp h1
   obtain⟨hb,h1⟩:=aW.mp h1
   cases h1
   simp only[aqg,aqz]at hb
   obtain⟨b1,b2,b3,b4⟩:=hb
   obtain⟨⟨D,hD⟩,hx⟩:=am.hk.xm y tab j1
   have hm:X.mg y=some (.ref D):=by
    split at j4
    ·next hl=>
     obtain⟨C,g1,g2,_⟩:=am.gl y _ hl
     rw[hD]at g2
     cases g2
     exact g1
    ·next hl=>
     obtain⟨C,fI,fd,ps,g1,g2,_⟩:=am.gl y _ hl
     rw[hD]at g2
     cases g2
     exact g1
    ·cases j4
   have hnames:Names X y (.ref D):=⟨sH am b1,(tM b2).1,.inl hm⟩
   have hst:∀p∈st,(∀f∈p.2.fs,f∈(c.hs.xf.lookup y).getD [])/\p.2.fs.length<=100:=fun p hp=>by
    have:=aqD.mp b4 p hp
    rw[aqg,decide_eq_true_eq]at this
    exact⟨fun f hf=>by simpa using aqD.mp this.1 f hf,this.2⟩
   have hnj:∀p∈st,i≠some p.1:=fun p hp z=>by
    subst z
    have:=aqD.mp b3 p hp
    simp at this
   refine⟨al7 aj X.K ⟨y,fun x=>tab.lookup x,i,st⟩ D::ls,?_,.cons ⟨⟨D,hD,rfl⟩,hx,rfl,rfl,hnj⟩ i2⟩
   cases nm with
   |none=>
    cases j2
    exact .one hnames rfl (fun a oe cls d pn hz hf=>SM am rfl rfl hz hf j3 hst) i1
   |some n=>
    have j2':=j2
    unfold Tz at j2
    obtain⟨i',s1,j2⟩:=aqe.mp j2
    split at j2
    ·next hloc=>
     cases j2
     refine .as hnames rfl (zP am s1).1 ?_ (fun a oe cls d pn hz hf=>SM am j2' rfl hz hf j3 hst) i1
     unfold PySem.Env.kindOf
     rw[am.hs]
     exact hloc
    ·cases j2
  ·cases h1
theorem vN.tr(a:vN aj c X W k){W':WX}{pn:List (Addr×Obj)}{xe:Value->Shared->Prop}(t:Takes (X.tr pn xe) W')(p:PassesOwn (model X.prog X.w) X.A X.env xe):vN aj c (X.tr pn xe) W' k where
 hN:=a.hN
 hs:=a.hs
 calm:=a.calm
 nd:=a.nd
 tk:=t
 rm:=a.rm
 gl:=a.gl
 bl:=a.bl
 fn:=a.fn
 hk:=a.hk
 ps:=p
 st:=a.st
 fr:=a.fr
 kf:=a.kf
def xS(q:Bool)(t:Tr)(s:Ts)(c:Tc):Stmt->Option SF
 |.Raise (some (.Call (.Name x _) [] [] _)) none _=>(match c.G.lookup x with
  |some .exc=>gd (Fw c.sc x&&!Ez x) (some (eG x))
  |_=>none)
 |.Raise (some (.Call (.Name x _) (e::es) [] _)) none _=>(match c.G.lookup x with
  |some (.exi fs)=>(Jl t c (e::es)).bind fun as=>gd (Fw c.sc x&&(!Ez x&&(decide ((e::es).length=fs.length)&&decide (fs.length<=1000)))) (some (BK x fs as))
  |_=>none)
 |.Try body (h::hds) [] [] _=>(s.B c body).bind fun f=>(W0 c (h::hds)).bind fun hs=>some (Yp f hs)
 |.Pass _=>some aU
 |.Expr (.Call (.Attribute (.Attribute o f p1) m apos) [e] [] pos) epos=>(match q with
  |true=>(s.G c (.Call (.Attribute (.Attribute o f p1) m apos) [e] [] pos)).bind fun f=>some (cD f)
  |false=>match m=="append" with
   |true=>gd (baseOk o&&(nst e&&(apos.endLine==pos.line))) ((t.W c o).bind fun fo=>(s.G c e).bind fun fe=>some (Dh f fo fe))
   |false=>(s.G c (.Call (.Attribute (.Attribute o f p1) m apos) [e] [] pos)).bind fun f=>some (cD f))
 |.Expr e _=>gd (!Eh e) ((s.G c e).bind fun f=>some (cD f))
 |.Assign [.Name x p] (.ListComp elt [⟨tg,iter,ifs,0⟩,⟨tg1,iter1,ifs1,0⟩] scope cpos) _=>(vh c x).bind fun j=>
  gd (swB c.sc (.ListComp elt [⟨tg,iter,ifs,0⟩,⟨tg1,iter1,ifs1,0⟩] scope cpos) scope x p&&!c.ml.contains x) ((Q8 t c elt tg iter ifs tg1 iter1 ifs1 scope).bind fun f=>some (bD (aG j) (gOf f)))
 |.Assign [.Attribute o f _] e _=>(match q with
  |true=>none
  |false=>afg t s c o f e)
 |.Assign [.Subscript (.Attribute o f _) i _] e _=>(match q with
  |true=>none
  |false=>gd (baseOk o&&(!Xb i&&!Eh e)) ((t.W c o).bind fun fo=>(t.E c i).bind fun fi=>(t.E c e).bind fun fe=>match c.hs.df.lookup f with
   |some _=>some (Mf f fo fi fe)
   |none=>some (Qh f fo fi fe)))
 |.AugAssign (.Attribute o f _) .Add e _=>(match q with
  |true=>none
  |false=>(t.W c o).bind fun fo=>(t.E c e).bind fun fe=>some (Pk c.hs.ft f fo fe))
 |.Delete [.Subscript (.Attribute o f _) i _] _=>(match q with
  |true=>none
  |false=>gd (baseOk o) ((t.W c o).bind fun fo=>(t.E c i).bind fun fi=>some (Mr f fo fi)))
 |_=>none
theorem ak2(o:t.Ok)(os:s.Ok q)(a:vN aj c X W k){st:Stmt}{f:SF}(h:xS q t s c st=some f):SE aj X W q st f:=by
 have hk:=a.hk
 unfold xS at h
 split at h
 ·split at h
  ·next hl=>
   obtain⟨hb,h⟩:=aW.mp h
   cases h
   simp only[aqg,aqz]at hb
   exact ae1 a.calm a.tk (sH a.toAmb hb.1) (tM hb.2).1 (a.gl _ _ hl)
  ·cases h
 ·split at h
  ·next fs hl=>
   obtain⟨as,h1,h⟩:=aqe.mp h
   obtain⟨hb,h⟩:=aW.mp h
   cases h
   simp only[aqg,aqz,decide_eq_true_eq]at hb
   obtain⟨b1,b2,b3,b4⟩:=hb
   obtain⟨i1,i2,i3⟩:=uV o a.toAmb h1
   exact adI a.calm a.tk a.rm (sH a.toAmb b1) (tM b2).1 (a.gl _ _ hl) i1 i2 (fun M ρ ds z=>by rw[i3 M ρ ds z];exact b3) b4
  ·cases h
 ·obtain⟨f1,h1,h⟩:=aqe.mp h
  obtain⟨hs,h2,h⟩:=aqe.mp h
  cases h
  obtain⟨ls,i1,i2⟩:=Yh a.toAmb h2
  exact ajt a.st a.fr a.nd a.tk (fun W' pn xe t p=>os.ob (a.tr t p) h1) i1 i2
 ·cases h
  exact PS.weak ps_pass fun D σ H ⟨g,ρ,M,I,z⟩=>z σ H g .refl I
 ·split at h
  ·obtain⟨f1,h1,h⟩:=aqe.mp h
   cases h
   exact RM (os.og a h1) (Gv rfl)
  ·split at h
   ·next hm=>
    obtain⟨hb,h⟩:=aW.mp h
    obtain⟨fo,h1,h⟩:=aqe.mp h
    obtain⟨fe,h2,h⟩:=aqe.mp h
    cases h
    simp only[aqg]at hb
    cases eq_of_beq hm
    exact agh hk.co (o.ow a.toAmb h1) hb.1 (os.og a h2) hb.2.1 hb.2.2
   ·obtain⟨f1,h1,h⟩:=aqe.mp h
    cases h
    exact RM (os.og a h1) (Gv rfl)
 ·obtain⟨hb,h⟩:=aW.mp h
  obtain⟨f1,h1,h⟩:=aqe.mp h
  cases h
  exact RM (os.og a h1) (Gv (by simpa using hb))
 ·obtain⟨j,hj,h⟩:=aqe.mp h
  obtain⟨hsw,h⟩:=aW.mp h
  rw[aqg]at hsw
  obtain⟨f1,h1,h⟩:=aqe.mp h
  cases h
  obtain⟨s1,s2,s3⟩:=mO a.toAmb hj
  have hsw:=hsw.1
  rw[←a.hs]at hsw
  have l1:=(Qp (l:=0) a.kf hsw).1
  have l2:=fun l=>(Qp (l:=l) a.kf hsw).2
  clear h
  unfold Q8 at h1
  obtain⟨it,g1,h⟩:=aqe.mp h1
  obtain⟨⟨js,tf⟩,h2,h⟩:=aqe.mp h
  obtain⟨tt,h3,h⟩:=aqe.mp h
  obtain⟨it1,h4,h⟩:=aqe.mp h
  obtain⟨⟨js1,tf1⟩,h5,h⟩:=aqe.mp h
  obtain⟨tt1,h6,h⟩:=aqe.mp h
  obtain⟨te,h7,h⟩:=aqe.mp h
  obtain⟨hb,h⟩:=aW.mp h
  cases h
  simp only[aqg,aqz]at hb
  obtain⟨b1,b2,b3,b4,b5,b6⟩:=hb
  have am:=a.toAmb
  exact agP a.calm a.nd s1 l1 (l2 _) (o.oi am g1) (by rw[a.hN,a.hs];exact b1) (pG b2) (pG b3) (pG b4) (fun s H C cl fp=>uR (am.inn _ s H C cl fp) h2) (fun s H C cl fp=>vY o (am.inn _ s H C cl fp) h3) (fun s H C cl fp=>o.oi (am.inn _ s H C cl fp) h4) (fun s H C cl fp=>uR (am.inn _ s H C cl fp) h5) (fun s H C cl fp=>vY o (am.inn _ s H C cl fp) h6) (fun s H C cl fp=>o.oe (am.inn _ s H C cl fp) h7) (qZ b5) (fun env=>qZ b6)
 ·split at h
  ·cases h
  ·exact ahs o os a h
 ·split at h
  ·cases h
  ·obtain⟨hb,h⟩:=aW.mp h
   obtain⟨fo,h1,h⟩:=aqe.mp h
   obtain⟨fi,h2,h⟩:=aqe.mp h
   obtain⟨fe,h3,h⟩:=aqe.mp h
   simp only[aqg,aqz]at hb
   obtain⟨b1,b2,b3⟩:=hb
   split at h
   ·cases h
    exact af7 hk.co hk.hw (aeY a.toAmb) (o.ow a.toAmb h1) b1 (o.oe a.toAmb h2) (o.oe a.toAmb h3) ae7
   ·cases h
    exact aha hk.co (o.ow a.toAmb h1) b1 (o.oe a.toAmb h3) (o.oe a.toAmb h2) (aeT b2) (Es b3) (by with_unfolding_all rfl)
 ·split at h
  ·cases h
  ·obtain⟨fo,h1,h⟩:=aqe.mp h
   obtain⟨fe,h2,h⟩:=aqe.mp h
   cases h
   exact ahA hk.co hk.fk (o.ow a.toAmb h1) (o.oe a.toAmb h2)
 ·split at h
  ·cases h
  ·obtain⟨hb,h⟩:=aW.mp h
   obtain⟨fo,h1,h⟩:=aqe.mp h
   obtain⟨fi,h2,h⟩:=aqe.mp h
   cases h
   exact agg hk.co hk.hw (aeY a.toAmb) (o.ow a.toAmb h1) hb (o.oe a.toAmb h2)
 ·cases h
end
def tr0:Tr:=⟨fun _ _=>none,fun _ _=>none,fun _ _=>none,fun _ _ _ _=>none⟩
def aj6(t:Tr):Tr:=⟨xtE t,xtW t,xtT t,xtI t⟩
def tr:Nat->Tr
 |0=>tr0
 |n+1=>aj6 (tr n)
theorem yW:∀n,(tr n).Ok
 |0=>⟨fun _=>(by intro _ _ h;cases h),fun _=>(by intro _ _ h;cases h),fun _=>(by intro _ _ h;cases h),fun _=>(by intros;rename_i h;cases h)⟩
 |n+1=>⟨fun a=>(by intro _ _ h;exact(vK h).elim (alb (yW n) a) (aiz (yW n) a)),fun a=>(by intro _ _ h;exact(vK h).elim (akV (yW n) a) (aiR (yW n) a)),fun a=>(by intro _ _ h;exact(vK h).elim (akR (yW n) a) (akh (yW n) a)),fun a=>(by intro _ _ _ _ h;exact(vK h).elim (akY (yW n) a) (aii (yW n) a))⟩
def ts0:Ts:=⟨fun _ _=>none,fun _ _=>none,fun _ _=>none,fun _ _=>none⟩
def ldG(q:Bool)(t:Tr)(s:Ts)(c:Tc)(e:Expr):Option GF:=match q with
 |true=>none
 |false=>xG t s c e
def ldH(_:Bool)(_:Ts)(_:Tc)(_:Expr):Option GT:=none
def ajx(q:Bool)(t:Tr)(s:Ts):Ts:=⟨fun c e=>els ((t.E c e).bind fun f=>some (gOf f)) (ldG q t s c e),fun c e=>els ((t.T c e).bind fun f=>some (aer f)) (ldH q s c e),fun c e=>els (stS t s c e) (xS q t s c e),abT s⟩
def ts(q:Bool)(t:Tr):Nat->Ts
 |0=>ts0
 |n+1=>ajx q t (ts q t n)
theorem LK{t:Tr}(o:t.Ok)(q:Bool):∀n,(ts q t n).Ok q
 |0=>⟨fun _=>(by intro _ _ h;cases h),fun _=>(by intro _ _ h;cases h),fun _=>(by intro _ _ h;cases h),fun _=>(by intros;rename_i h;cases h)⟩
 |n+1=>⟨fun a=>by
   intro _ _ h
   rcases vK h with h|h
   ·obtain⟨f,h1,h⟩:=aqe.mp h
    cases h
    exact afP (o.oe a.toAmb h1)
   ·cases q with
    |true=>cases h
    |false=>exact ak6 o (LK o false n) a h,fun a=>by
   intro _ _ h
   rcases vK h with h|h
   ·obtain⟨f,h1,h⟩:=aqe.mp h
    cases h
    exact ak7 (o.ot a.toAmb h1)
   ·(cases h),fun a=>by
   intro _ _ h
   rcases vK h with h|h
   ·exact ahV o (LK o q n) a h
   ·exact ak2 o (LK o q n) a h,fun a=>by
   intro _ _ h
   exact aei (LK o q n) a h⟩
def rd(c:Tc)(b:List Stmt):Option SF:=(ts true (tr 40) 60).B c b
def rdG(c:Tc)(b:List Stmt):Option SF:=(ts false (tr 40) 60).B c b
def CQ(P:Program)(w:World)(K:aqf)(mg:Str->Option Value)(base:Heap)(aj:aQ)(k:Nat):List (Str×GV)->Prop
 |[]=>True
 |(x,v)::r=>bf P w K mg base aj k x v/\CQ P w K mg base aj k r
def BW(mg:Str->Option Value):List Str->Prop
 |[]=>True
 |x::r=>mg x=none/\BW mg r
section
variable{P:Program}{w:World}{K:aqf}{mg:Str->Option Value}{base:Heap}{aj:aQ}{k:Nat}
theorem CQ.get:∀{G:List (Str×GV)},CQ P w K mg base aj k G->∀x v,G.lookup x=some v->bf P w K mg base aj k x v
 |[],_,x,v,h=>nomatch h
 |(y,u)::r,g,x,v,h=>by
  rw[aqI]at h
  split at h
  ·next e=>
   cases h
   rw[eq_of_beq e]
   exact g.1
  ·exact g.2.get x v h
theorem BW.get:∀{B:List Str},BW mg B->∀x,x∈B->mg x=none
 |[],_,x,h=>nomatch h
 |y::r,g,x,h=>by
  rcases aqv.mp h with rfl|h
  ·exact g.1
  ·exact g.2.get x h
theorem ac5{qual:Str}{st:Stmt}{f:Addr}{N ps ml B:List Str}{G:List (Str×GV)}{Ms:Hs}(S:FnScope N ps (defScope st))(g:CQ P w K mg base aj k G)(b:BW mg B)(hh:Ss P w K mg base aj k Ms)
  (cdv:Value) (A:Around) (outer:List PySem.Env) (s:Shared) (H:Hp) (E:XK) (hr:Room k (A.deeper (envOfC qual (defScope st) s.heap.objs.size f cdv))) :
  vN aj ⟨N,defScope st,G,B,Ms,ml,true⟩ (cxOf (L2.CX P w) P w K mg base N qual (defScope st) f cdv A outer s H E) (aej E) k where
 hN:=rfl
 hs:=rfl
 calm:=rfl
 nd:=S.nd
 tk:=takes_of rfl rfl rfl rfl
 rm:=hr
 gl:=g.get
 bl:=b.get
 fn:=fun _ _=>rfl
 hk:=hh
 ps:=passes_of rfl
 st:=rfl
 fr:=rfl
 kf:=S.kind
theorem XQ{x qual:Str}{st:Stmt}{f:Addr}{fd:FuncData}{N ps ml B:List Str}{G:List (Str×GV)}{Ms:Hs}{body:SF}(F:Fun K x qual st f fd)(S:FnScope N ps (defScope st))(g:CQ P w K mg base aj k G)(b:BW mg B)(hh:Ss P w K mg base aj k Ms)
  (h:rd ⟨N,defScope st,G,B,Ms,ml,true⟩ (defBody st)=some body):FnOk P w K mg base (L2.CX P w) (k+1) f fd ps (Vi K aj ps.length (mQ N.length body)):=
 amE F S fun cdv A outer s H E hr=>(LK (yW 40) true 60).ob (ac5 S g b hh cdv A outer s H E hr) h
theorem PB{x qual:Str}{st:Stmt}{f:Addr}{fd:FuncData}{N ps ml B:List Str}{G:List (Str×GV)}{Ms:Hs}{body:SF}(F:Fun K x qual st f fd)(S:FnScope N ps (defScope st))(g:CQ P w K mg base aj k G)(b:BW mg B)(hh:Ss P w K mg base aj k Ms)
  (h:rdG ⟨N,defScope st,G,B,Ms,ml,true⟩ (defBody st)=some body):FnOk P w K mg base (L2.CX P w) (k+1) f fd ps (Jg K aj ps.length (mG N.length body)):=
 amJ F S fun cdv A outer s H E hr=>(LK (yW 40) false 60).ob (ac5 S g b hh cdv A outer s H E hr) h
theorem ai5{f:Addr}{fd:FuncData}{ps:List Str}{j:Nat}:FnOk P w K mg base (L2.CX P w) j f fd ps (Vi K aj ps.length fun _ _=>.bad):=
 ⟨fun vs H Q E h=>h.1,fun A outer s H args us vs Q E _ _ _ _ h=>by
  obtain⟨_,g,M,ds,_,_,_,z⟩:=h
  exact False.elim z⟩
theorem aeL{x:Str}{f:Addr}{fd:FuncData}{ps:List Str}{j:Nat}{m:Mo->List Dat->Out Dat}(hj:j<=k)(hg:mg x=some (.ref f))(hk:PySem.W.keepIn K (.ref f)=true)(hB:Binds K fd ps [])(F:FnOk P w K mg base (L2.CX P w) j f fd ps (Vi K aj ps.length m)):bf P w K mg base aj k x (.fq ps.length m):=
 ⟨f,hg,hk,fd,ps,j,hj,rfl,hB,F⟩
theorem J8{x:Str}{i:Int}{t:Tok}(h:mg x=some (.int i t)):bf P w K mg base aj k x (.con (.int i)):=⟨.int i,_,h,⟨t,rfl⟩,fun _ _=>.int i⟩
theorem U5{g:Gh}{H:Hp}:∀{vs:List V} {ds:List Dat},(vs.zip ds).all (fun p=>match p with
  |(.int i,.int j)=>decide (i=j)
  |(.str x,.str y)=>decide (x=y)
  |_=>false)=true->vs.length=ds.length->aJ K g H vs ds
 |[],[],_,_=>.nil
 |[],_::_,_,h=>nomatch h
 |_::_,[],_,h=>nomatch h
 |v::vs,d::ds,h,hl=>by
  rw[aq6,aqV,aqg]at h
  refine .cons ?_ (U5 h.2 (aro hl))
  have h1:=h.1
  split at h1
  ·next e=>cases e;cases of_decide_eq_true h1;exact .int _
  ·next e=>cases e;cases of_decide_eq_true h1;exact .str _
  ·cases h1
theorem acR{x:Str}{a:Addr}{vs:List V}{ds:List Dat}(h:mg x=some (.ref a))(q:∀H:Hp,SqT K H a vs)(hf:(vs.zip ds).all (fun p=>match p with
  |(.int i,.int j)=>decide (i=j)
  |(.str x,.str y)=>decide (x=y)
  |_=>false)=true) (hl:vs.length=ds.length):bf P w K mg base aj k x (.con (.tuple ds)):=⟨.ref a,_,h,rfl,fun _ H=>.tup (q H) (U5 hf hl)⟩
end
open PySem PySem.Spec PyProof.Rows L2
section
variable{fa:List He.Fa}{fn:List He.DefD}{tb:List He.Tab}{ex:aqf->Bool}{w:World}{K:aqf}
theorem Ly.oV(c:Ly fa fn tb ex w K)(i:Nat){f:He.Fa}(h:fa[i]?=some f:=by rfl):f.ok K=true:=c.t.d.fact i h
theorem Ly.VR(c:Ly fa fn tb ex w K)(i:Nat){d:He.DefD}(h:fn[i]?=some d:=by rfl):∃fd,FunD K d.name d.qual d.params d.body d.scope (d.dvs K) (d.kws K) (He.fAd K d.at_) fd:=c.t.d.def_ i h
theorem Dg{x qual:Str}{st:Stmt}{f:Addr}{fd:FuncData}(F:FunD K x qual (defArgs st) (defBody st) (defScope st) [] [] f fd):L2.Fun K x qual st f fd:=by
 obtain⟨oc,od,dV,kV,doc,pm,an,cdv,ct,osl,e,l,c,hd,_⟩:=F.ex
 rcases hd with⟨_,z⟩|⟨z,_⟩
 ·cases z
  exact⟨⟨oc,od,kV,doc,pm,an,cdv,ct,osl,e,l,c⟩,F.kp⟩
 ·exact absurd rfl z
end
def g0:Gh:=⟨[],fun _=>none,fun _=>False,fun _=>False⟩
theorem aiy(a:Addr):¬g0.A a:=fun z=>by
 rcases z with(z|z)|z|z
 ·cases z
 ·exact z rfl
 ·exact z
 ·exact z
theorem aly{H:Hp}:Kd g0 H:=⟨fun a z=>absurd z (aiy a),fun a z=>False.elim z,fun a z=>False.elim z⟩
theorem akp{K:aqf}{aj:aQ}{H:Hp}(nc:aj ""=none):fV K aj g0 H []:=⟨rfl,fun h k a e=>(by cases h <;> cases e),fun h a i e=>(by cases h <;> cases e),fun h i e=>(by cases h <;> cases e),fun h i e=>(by cases h <;> cases e),fun h a i e=>(by cases h <;> cases e),fun h i e=>(by cases h <;> cases e),nc⟩
theorem Vl{K:aqf}{g:Gh}{H:Hp}:∀ns:List Int,aJ K g H (ns.map V.int) (ns.map PyData.int)
 |[]=>.nil
 |n::ns=>.cons (.int n) (Vl ns)
theorem ai4{K:aqf}{H:Hp}{a:Addr}{ns:List Int}(hS:SqL K H a (ns.map V.int)):aJ K g0 H [.ref a] [.list (ns.map PyData.int)]:=by
 refine .cons (.lst ?_ (Vl ns)) .nil
 rcases hS with h|h
 ·exact .inl ⟨h,aiy a⟩
 ·exact .inr h
theorem akB{K:aqf}{aj:aQ}(nc:aj ""=none){m:Mo->List Dat->aZ Dat}{H:Hp}{a:Addr}{ns:List Int}{M:Mo}(hS:SqL K H a (ns.map V.int))(h:m [] [.list (ns.map PyData.int)]=.ok (.bool true) M):Jg K aj 1 m [.ref a] H (fun v _=>v=.bl true) fun _ _ _=>False:=
 ⟨rfl,g0,[],[.list (ns.map PyData.int)],aly,akp nc,ai4 hS,by
  rw[h]
  exact fun v H' g' _ _ _ r=>by cases r;rfl⟩
section
variable{K:aqf}{h:Heap}{mg:Str->Option Value}{w:World}
def oH(w:World)(K:aqf)(xs:List Str)(ft:Ft):aQ:=⟨fun x=>match xs.contains x with
 |true=>some (He.ga K x)
 |false=>none,fun c=>(ft.lookup c).getD [],w⟩
theorem Ov{xs:List Str}{ft:Ft}{x:Str}{C:Addr}(e:oH w K xs ft x=some C):C=He.ga K x:=by
 have e:(match xs.contains x with
  |true=>some (He.ga K x)
  |false=>none)=some C:=e
 split at e
 ·exact(aqA e).symm
 ·cases e
theorem Ck{xs:List Str}{ft:Ft}{x:Str}(e:xs.contains x=true):oH w K xs ft x=some (He.ga K x):=by
 show(match xs.contains x with
  |true=>some (He.ga K x)
  |false=>none)=_
 rw[e]
theorem Y9{ft:Ft}(hb:JH K ft=true){c:Str}{fs:List Str}(hl:ft.lookup c=some fs):Cls K (He.ga K c)/\∀f∈fs,NoAttr K (He.ga K c) f:=by
 obtain⟨h1,h2⟩:=He.ba (aqD.mp hb _ (pX hl))
 exact⟨He.cls_ok h1,fun f hf=>He.noat_ok (aqD.mp h2 f hf)⟩
theorem ab2{xs:List Str}{ft:Ft}(hb:JH K ft=true):jr K (oH w K xs ft):=fun c C f e hf=>by
 have e:=Ov e
 subst e
 have hf:f∈(ft.lookup c).getD []:=hf
 cases hl:ft.lookup c with
 |none=>rw[hl]at hf;cases hf
 |some fs=>
  rw[hl]at hf
  obtain⟨h1,h2⟩:=Y9 hb hl
  exact⟨h1,h2 f hf⟩
theorem ae9{xs:List Str}{ft:Ft}:Lf ft (oH w K xs ft):=fun c f e=>by
 unfold Ft.has at e
 show f∈(ft.lookup c).getD []
 split at e
 ·next fs hl=>
  rw[hl]
  simpa using e
 ·cases e
def xmN(xs:List Str)(xm:List (Str×List (Str×Bool))):Bool:=xm.all fun p=>xs.contains p.1
theorem ak4{xs:List Str}{ft:Ft}{xm:List (Str×List (Str×Bool))}(hb:xmB K xm=true)(hn:xmN xs xm=true)(y:Str)(tab:List (Str×Bool))(hl:xm.lookup y=some tab):(∃D,oH w K xs ft y=some D)/\abk K (oH w K xs ft) y fun x=>tab.lookup x:=by
 refine⟨⟨_,Ck (aqD.mp hn _ (pX hl))⟩,fun x b C e1 e2 D e3=>?_⟩
 rw[Ov e2,Ov e3]
 exact He.exm_ok (aqD.mp (aqD.mp hb _ (pX hl)) _ (pX e1))
theorem ahl{C:Addr}(hb:aiU K C=true):OexC K C:=by
 obtain⟨h1,h2⟩:=He.ba hb
 obtain⟨h2,h3⟩:=He.ba h2
 obtain⟨h3,h4⟩:=He.ba h3
 obtain⟨h4,h5⟩:=He.ba h4
 refine⟨?_,He.eqO_ok h2,of_decide_eq_true h3,of_decide_eq_true h4,h5⟩
 split at h1
 ·next t dd cd sl hl=>
  obtain⟨t1,h1⟩:=He.ba h1
  split at h1
  ·next C' bm k0 k1 k2 k3 n k5 e1 e2=>
   obtain⟨a1,h1⟩:=He.ba h1
   obtain⟨a2,h1⟩:=He.ba h1
   obtain⟨a3,h1⟩:=He.ba h1
   obtain⟨a4,a5⟩:=He.ba h1
   have q1:=of_decide_eq_true t1
   have q2:=of_decide_eq_true a1
   have q3:=of_decide_eq_true a2
   have q4:cd.hasDel=false:=by simpa using a3
   have q5:sl=#[k0,k1,k2,k3,some (.builtin n),k5]:=by
    rw[←Array.toList_inj]
    exact e2
   obtain⟨nm,bs,mro,ns,qn,hd,sn,sub,ab,col,hdel⟩:=cd
   have e1:mro=.ref C'::bm:=e1
   have q4:hdel=false:=q4
   have a4:hd=true:=a4
   subst q1 q2 q3 q4 q5 e1 a4
   exact⟨nm,qn,ns,bs,bm,sn,sub,ab,col,dd,k0,k1,k2,k3,k5,hl,a5⟩
  ·cases h1
 ·cases h1
theorem SJ{x:Str}{fs:List Str}(hb:T5 K x fs=true):OexC K (He.ga K x)/\PySem.W.findIn K (.ref (He.ga K x)) "__init__"=some (some (.ref (He.ma K (He.ga K x) "__init__")))/\PySem.W.typeIn K (.ref (He.ma K (He.ga K x) "__init__"))=some (.type "function")/\XfC K (He.ga K x)/\∀f∈fs,PySem.W.findIn K (.ref (He.ga K x)) f=some none:=by
 obtain⟨h1,h2⟩:=He.ba hb
 obtain⟨h2,h3⟩:=He.ba h2
 obtain⟨h3,h4⟩:=He.ba h3
 obtain⟨h4,h5⟩:=He.ba h4
 exact⟨ahl h1,He.eqO_ok h2,of_decide_eq_true h3,xfB_ok h4,fun f hf=>He.eqO_ok (aqD.mp h5 f hf)⟩
theorem aeW{a:Addr}{xs:List Str}(hb:WM K a xs=true)(H:Hp):SqT K H a (xs.map V.str):=by
 unfold WM at hb
 split at hb
 ·next c d its n sl hl=>
  obtain⟨h1,h2⟩:=He.ba hb
  obtain⟨h3,h4⟩:=He.ba h2
  have q1:=of_decide_eq_true h1
  subst q1
  exact .inr ⟨_,its,n,hl,rfl,rfl,of_decide_eq_true h3,He.relAll_ok h4⟩
 ·cases hb
def zj(kvs:List (Str×List Str)):List (Str×Dat):=kvs.map fun q=>(q.1,.tuple (q.2.map PyData.str))
theorem Uw{g:Gh}{H:Hp}:∀xs:List Str,aJ K g H (xs.map V.str) (xs.map PyData.str)
 |[]=>.nil
 |x::xs=>.cons (.str x) (Uw xs)
theorem Qs{y:Str}:∀{kvs:List (Str×List Str)},(zj kvs).lookup y=(kvs.lookup y).map fun xs=>PyData.tuple (xs.map PyData.str)
 |[]=>rfl
 |(z,xs)::r=>by
  show List.lookup y ((z,PyData.tuple (xs.map PyData.str))::zj r)=_
  rw[aqI,aqI]
  split
  ·rfl
  ·exact Qs
theorem look_none{α:Type}{y:Str}:∀{kvs:List (Str×α)},kvs.lookup y=none->y∉kvs.map (·.1)
 |[],_=>by simp
 |(z,a)::r,h=>by
  rw[aqI]at h
  split at h
  ·cases h
  ·next hn=>
   rw[aqj,aqv]
   rintro(e|e)
   ·subst e
    simp at hn
   ·exact look_none h e
theorem agi{x:Str}{kvs:List (Str×List Str)}(hb:aek K x kvs=true)(hk:∃es n,KDict K w (He.ga K x) es n):abD w K (He.ga K x) (zj kvs):=by
 obtain⟨h1,h2⟩:=He.ba hb
 obtain⟨h2,h3⟩:=He.ba h2
 obtain⟨es,n,D⟩:=hk
 rw[D.at_]at h1
 refine⟨es,n,D,?_,fun y=>?_⟩
 ·unfold zj
  rw[aqK]
  exact of_decide_eq_true h2
 ·rw[Qs]
  cases hl:kvs.lookup y with
  |some xs=>
   have h4:=aqD.mp h3 _ (pX hl)
   show ∃v u,PySem.W.nsIn K (He.ga K x) y=some (some u)/\RelV v u/\∀g H,Rep K g H v (.tuple (xs.map PyData.str))
   have h4:(match PySem.W.nsIn K (He.ga K x) y with
    |some (some (.ref a))=>WM K a xs
    |_=>false)=true:=h4
   split at h4
   ·next a he=>exact⟨.ref a,.ref a,he,rfl,fun g H=>.tup (aeW h4 H) (Uw xs)⟩
   ·cases h4
  |none=>
   show PySem.W.nsIn K (He.ga K x) y=some none
   have ny:=look_none hl
   unfold PySem.W.nsIn
   rw[D.at_]
   have h1:es.toList.all (fun e=>(match e.key with
    |.str y _=>(kvs.map (·.1)).contains y
    |_=>false)&&!e.refKey)=true:=h1
   have f1:es.toList.find? (·.key.isStr y)=none:=by
    rw[List.find?_eq_none]
    intro e he z
    obtain⟨a1,a2⟩:=He.ba (aqD.mp h1 e he)
    split at a1
    ·next y' tk hy=>
     rw[hy]at z
     have z:(y'==y)=true:=z
     have e':=eq_of_beq z
     subst e'
     exact ny (by simpa using a1)
    ·cases a1
   have f2:es.toList.any (·.refKey)=false:=by
    rw[List.any_eq_false]
    intro e he z
    obtain⟨a1,a2⟩:=He.ba (aqD.mp h1 e he)
    rw[z]at a2
    cases a2
   show(match es.toList.find? (·.key.isStr y) with
    |some e=>some (some e.val)
    |none=>if es.toList.any (·.refKey) then none else some none)=some none
   rw[f1,f2]
   rfl
end
section
variable{P:Program}{w:World}{K:aqf}{mg:Str->Option Value}{base:Heap}{k:Nat}{xs:List Str}{ft:Ft}
def WQ(P:Program)(w:World)(K:aqf)(mg:Str->Option Value)(base:Heap)(aj:aQ)(k:Nat)(m:Str):List (Str×MV)->Prop
 |[]=>True
 |(c,v)::r=>bW P w K mg base aj k c m v/\WQ P w K mg base aj k m r
def El(P:Program)(w:World)(K:aqf)(mg:Str->Option Value)(base:Heap)(aj:aQ)(k:Nat):List (Str×List (Str×MV))->Prop
 |[]=>True
 |(m,tb)::r=>WQ P w K mg base aj k m tb/\El P w K mg base aj k r
theorem WQ.get{aj:aQ}{m:Str}:∀{tb:List (Str×MV)},WQ P w K mg base aj k m tb->∀c v,tb.lookup c=some v->bW P w K mg base aj k c m v
 |[],_,c,v,h=>nomatch h
 |(y,u)::r,g,c,v,h=>by
  rw[aqI]at h
  split at h
  ·next e=>
   cases h
   rw[eq_of_beq e]
   exact g.1
  ·exact g.2.get c v h
theorem El.get{aj:aQ}:∀{Ms:List (Str×List (Str×MV))},El P w K mg base aj k Ms->∀m tb,Ms.lookup m=some tb->∀c v,tb.lookup c=some v->bW P w K mg base aj k c m v
 |[],_,m,tb,h=>nomatch h
 |(y,u)::r,g,m,tb,h=>by
  rw[aqI]at h
  split at h
  ·next e=>
   cases h
   rw[eq_of_beq e]
   exact g.1.get
  ·exact g.2.get m tb h
theorem al3{aj:aQ}{x:Str}{f:Addr}{fd:FuncData}{ps:List Str}{j:Nat}{m:Mo->List Dat->aZ Dat}(hj:j<=k)(hg:mg x=some (.ref f))(hk:PySem.W.keepIn K (.ref f)=true)(hB:Binds K fd ps [])(F:FnOk P w K mg base (L2.CX P w) j f fd ps (Jg K aj ps.length m)):bf P w K mg base aj k x (.fg ps.length m):=
 ⟨f,hg,hk,fd,ps,j,hj,rfl,hB,F⟩
theorem iH{x:Str}(hn:xs.contains x=true)(hg:mg x=some (.ref (He.ga K x)))(he:(He.Fa.exc x).ok K=true):bf P w K mg base (oH w K xs ft) k x .exc:=by
 obtain⟨h1,h2,h3,h4⟩:=He.exc_ok he
 exact⟨_,hg,Ck hn,h1,h2,h3,h4⟩
theorem ajG{x:Str}{fd:FuncData}{ps:List Str}{j n:Nat}{m:Mo->List Dat->aZ Dat}(hj:j+1<=k)(hn:xs.contains x=true)(hg:mg x=some (.ref (He.ga K x)))(hc:Cls K (He.ga K x))(hm:(He.Fa.mkr x).ok K=true)(hp:ps.length=n+1)(hB:Binds K fd ps [])
  (F:FnOk P w K mg base (L2.CX P w) j (He.ma K (He.ga K x) "__init__") fd ps (Jg K (oH w K xs ft) ps.length m)):bf P w K mg base (oH w K xs ft) k x (.cls n m):=
 ⟨_,_,fd,ps,j,hg,Ck hn,hc,He.mkr_ok hm,hj,hp,hB,F⟩
theorem aki{aj:aQ}{x:Str}{kvs:List (Str×List Str)}(hg:mg x=some (.ref (He.ga K x)))(hb:aek K x kvs=true)(hk:∃es n,KDict K w (He.ga K x) es n):bf P w K mg base aj k x (.dic (zj kvs)):=⟨_,hg,agi hb hk⟩
theorem ahN{x:Str}{fs:List Str}{fd:FuncData}{ps:List Str}(h2:2<=k)(hn:xs.contains x=true)(hg:mg x=some (.ref (He.ga K x)))(ho:T5 K x fs=true)(hp:ps.length=fs.length+1)(hB:Binds K fd ps [])(F:FnOk P w K mg base CX0 1 (He.ma K (He.ga K x) "__init__") fd ps (ae4 (He.ga K x) fs)):bf P w K mg base (oH w K xs ft) k x (.exi fs):=by
 obtain⟨h1,h3,h4,_,_⟩:=SJ ho
 exact⟨_,_,fd,ps,hg,Ck hn,h1,h3,h4,h2,hp,hB,F⟩
theorem afT{m:Str}{l:List Str}(hf:l.contains m=false)(z:m∈l):False:=by
 rw[List.contains_iff_mem.mpr z]at hf
 cases hf
theorem amb{c m:Str}{fd:FuncData}{ps:List Str}{j:Nat}{mm:Mo->List Dat->Out Dat}(hj:j<=k)(hn:xs.contains c=true)(hc:Cls K (He.ga K c))(hm:(He.Fa.meth c m).ok K=true)(hf:((ft.lookup c).getD []).contains m=false)(hB:Binds K fd ps [])(F:FnOk P w K mg base (L2.CX P w) j (He.ma K (He.ga K c) m) fd ps (Vi K (oH w K xs ft) ps.length mm)):bW P w K mg base (oH w K xs ft) k c m (.q ps.length mm):=
 ⟨_,_,Ck hn,hc,He.meth_ok hm,(fun z=>afT hf z),fd,ps,j,hj,rfl,hB,F⟩
theorem amv{c m:Str}{fd:FuncData}{ps:List Str}{j:Nat}{mm:Mo->List Dat->aZ Dat}(hj:j<=k)(hn:xs.contains c=true)(hc:Cls K (He.ga K c))(hm:(He.Fa.meth c m).ok K=true)(hf:((ft.lookup c).getD []).contains m=false)(hB:Binds K fd ps [])(F:FnOk P w K mg base (L2.CX P w) j (He.ma K (He.ga K c) m) fd ps (Jg K (oH w K xs ft) ps.length mm)):bW P w K mg base (oH w K xs ft) k c m (.g ps.length mm):=
 ⟨_,_,Ck hn,hc,He.meth_ok hm,(fun z=>afT hf z),fd,ps,j,hj,rfl,hB,F⟩
theorem alp{Ms:List (Str×List (Str×MV))}{xm:List (Str×List (Str×Bool))}{df:List (Str×Bool)}{xf:List (Str×List Str)}(hm:El P w K mg base (oH w K xs ft) k Ms)(hb:JH K ft=true)(hx:xmB K xm=true)(hn:xmN xs xm=true)(hf:(xf.all fun p=>xs.contains p.1&&T5 K p.1 p.2)=true):Ss P w K mg base (oH w K xs ft) k ⟨Ms,ft,xm,df,xf⟩ where
 ms:=hm.get
 fk:=ae9
 co:=ab2 hb
 hw:=rfl
 xm:=ak4 hx hn
 xf:=fun y fs hl=>by
  obtain⟨h1,h2⟩:=He.ba (aqD.mp hf _ (pX hl))
  obtain⟨_,_,_,h3,h4⟩:=SJ h2
  exact⟨_,Ck h1,h3,h4⟩
end
abbrev lI(l:List Int):Dat:=.list (l.map PyData.int)
abbrev aM(l:List Int):Dat:=.tuple (l.map PyData.int)
theorem fK{tg:fL}{body:SF}{d:Dat}{ds:List Dat}{M M2:Mo}{ρ ρ1 ρ2:Env}(h1:tg d ρ=some ρ1)(h2:body M ρ1=.next ρ2 M2):fB tg body (d::ds) M ρ=fB tg body ds M2 ρ2:=by
 rw[fB,h1]
 show(match body M ρ1 with
   |.next ρ2 M2=>fB tg body ds M2 ρ2
   |.cont ρ2 M2=>fB tg body ds M2 ρ2
   |.brk ρ2 M2=>.next ρ2 M2
   |.ret d M2=>.ret d M2
   |.exc x ρ2 M2=>.exc x ρ2 M2
   |.bad=>.bad)=_
 rw[h2]
theorem gA{α:Type}{tg:fL}{tt:QT}{te:QF}{M:Mo}{ρ:Env}(ds:α->Dat)(p:α->Bool)(f:α->Dat):∀(xs:List α),(∀x∈xs,∃ρ1,tg (ds x) ρ=some ρ1/\tt M ρ1=.ok (p x)/\(p x=true->te M ρ1=.ok (f x)))->dD tg tt te M ρ (xs.map ds)=.ok ((xs.filter p).map f)
 |[],_=>rfl
 |x::xs,h=>by
  obtain⟨ρ1,h1,h2,h3⟩:=h x aql
  have ih:=gA ds p f xs fun y hy=>h y (aqk _ hy)
  rw[aqj,dD,h1]
  show((xV (tt M ρ1)).bind fun b=>if b=true then(xV (te M ρ1)).bind fun y=>(dD tg tt te M ρ (xs.map ds)).bind fun r=>.ok (y::r) else dD tg tt te M ρ (xs.map ds))=_
  rw[h2,ih]
  cases hp:p x with
  |true=>
   show(if true=true then(xV (te M ρ1)).bind fun y=>(Out.ok ((xs.filter p).map f)).bind fun r=>.ok (y::r) else Out.ok ((xs.filter p).map f))=_
   rw[h3 hp,if_pos rfl,List.filter_cons_of_pos hp]
   rfl
  |false=>
   show(if false=true then(xV (te M ρ1)).bind fun y=>(Out.ok ((xs.filter p).map f)).bind fun r=>.ok (y::r) else Out.ok ((xs.filter p).map f))=_
   rw[if_neg (by decide),List.filter_cons_of_neg (by rw[hp];decide)]
theorem fJ{α:Type}{tg:fL}{te:QF}{M:Mo}{ρ:Env}(ds:α->Dat)(f:α->Dat)(xs:List α)(h:∀x∈xs,∃ρ1,tg (ds x) ρ=some ρ1/\te M ρ1=.ok (f x)):dD tg iJ te M ρ (xs.map ds)=.ok (xs.map f):=by
 have:=gA (tt:=iJ) ds (fun _=>true) f xs fun x hx=>by
  obtain⟨ρ1,h1,h2⟩:=h x hx
  exact⟨ρ1,h1,rfl,fun _=>h2⟩
 rw[this,List.filter_eq_self.mpr (fun _ _=>rfl)]
theorem afO{i j:Int}(h : -(2 ^ 64) < i/\i < 2 ^ 64):decide (CMul i j)=true:=decide_eq_true (.inl h)
theorem mul_r{i j:Int}(h : -(2 ^ 64) < j/\j < 2 ^ 64):decide (CMul i j)=true:=decide_eq_true (.inr h)
section
variable(M:Mo)(ρ:Env)
@[simp]theorem ajq (f k:SF):aD f k M ρ=match f M ρ with
 |.next ρ' M'=>k M' ρ'
 |o=>o:=rfl
@[simp]theorem anp:aU M ρ=.next ρ M:=rfl
@[simp]theorem aoA (tg:fL) (f:GF):bD tg f M ρ=(f M ρ).then ρ fun d M'=>match tg d ρ with
 |some ρ'=>.next ρ' M'
 |none=>.bad:=rfl
@[simp]theorem amZ (i j:Nat) (f:GF):Rv i j f M ρ=(f M ρ).then ρ fun d M'=>.next ((ρ.set i (some (.dat d))).set j (some (.dat d))) M':=rfl
@[simp]theorem ev_if (t:QT) (f k:SF):bR t f k M ρ=((t M (rF ρ)).at M).then ρ fun c M'=>if c=true then f M' ρ else k M' ρ:=rfl
@[simp]theorem apx (f:QF):aR f M ρ=((f M (rF ρ)).at M).then ρ fun d M'=>.ret d M':=rfl
@[simp]theorem anV (it:IF) (tg:fL) (body:SF):oU it tg body M ρ=((it M ρ).at M).then ρ fun ds M'=>fB tg body ds M' ρ:=rfl
@[simp]theorem ao5 (j:Nat) (f:IF):BZ j f M ρ=((f M ρ).at M).then ρ fun xs M'=>.next (ρ.set j (some (.mut xs))) M':=rfl
@[simp]theorem anm (f:GF):cD f M ρ=(f M ρ).then ρ fun _ M'=>.next ρ M':=rfl
@[simp]theorem anU (j:Nat) (f:QF):HY j f M ρ=match ρ[j]? with
 |some (some (.mut xs))=>((f M ρ).at M).then ρ fun d M'=>if xs.length < 100000 then .next (ρ.set j (some (.mut (xs++[d])))) M' else .bad
 |_=>.bad:=rfl
@[simp]theorem am9 (j:Nat) (fi f:QF):ak9 j fi f M ρ=match ρ[j]? with
 |some (some (.mut xs))=>((f M ρ).at M).then ρ fun d M'=>((fi M' ρ).at M').then ρ fun i M2=>match i with
  |.int k=>match ixN xs.length k with
   |some n=>.next (ρ.set j (some (.mut (xs.set n d)))) M2
   |none=>.bad
  |_=>.bad
 |_=>.bad:=rfl
@[simp]theorem apv (j:Nat) (f:QF):OD j f M ρ=match ρ[j]? with
 |some (some (.dat (.int i)))=>((f M ρ).at M).then ρ fun d M'=>match d with
  |.int k=>.next (ρ.set j (some (.dat (.int (i+k))))) M'
  |_=>.bad
 |_=>.bad:=rfl
@[simp]theorem amY (i j:Nat) (f:GF):WL i j f M ρ=(f M ρ).then ρ fun d M'=>match d with
 |.list (d0::ds)=>if ds.length<=16000 then .next ((ρ.set i (some (.dat d0))).set j (some (.dat (.list ds)))) M' else .bad
 |.tuple (d0::ds)=>if ds.length<=16000 then .next ((ρ.set i (some (.dat d0))).set j (some (.dat (.list ds)))) M' else .bad
 |_=>.bad:=rfl
@[simp]theorem apM (js:List Nat) (as:QA):sPN js as M ρ=((as M ρ).at M).then ρ fun ds M'=>match tO js ds ρ with
 |some ρ'=>.next ρ' M'
 |none=>.bad:=rfl
@[simp]theorem apF (f:QF):gOf f M ρ=(f M ρ).at M:=rfl
@[simp]theorem ev_op (o:Dat->Dat->Out Dat) (a b:QF):aA o a b M ρ=(a M ρ).bind fun x=>(b M ρ).bind fun y=>o x y:=rfl
@[simp]theorem ev_un (o:Dat->Out Dat) (a:QF):eX o a M ρ=(a M ρ).bind o:=rfl
@[simp]theorem ev_c (d:Dat):qC d M ρ=.ok d:=rfl
@[simp]theorem ev_var (i:Nat):aq i M ρ=match ρ[i]? with
 |some (some (.dat d))=>.ok d
 |_=>.bad:=rfl
@[simp]theorem amT (i:Nat):ao i M ρ=match ρ[i]? with
 |some (some (.dat d))=>.ok d
 |some (some (.mut xs))=>.ok (.list xs)
 |_=>.bad:=rfl
@[simp]theorem apf:au M ρ=.ok []:=rfl
@[simp]theorem ant (a:QF) (r:QA):ak a r M ρ=(a M ρ).bind fun x=>(r M ρ).bind fun xs=>.ok (x::xs):=rfl
@[simp]theorem an4 (r:QA):bJ r M ρ=(r M ρ).bind fun xs=>Out.when (decide (xs.length<=100000)) (.ok (.tuple xs)):=rfl
@[simp]theorem apD (r:QA):yt r M ρ=(r M ρ).bind fun xs=>Out.when (decide (xs.length<=100000)) (.ok (.list xs)):=rfl
@[simp]theorem aoi (a:QF):iD a M ρ=(a M ρ).bind Ig:=rfl
@[simp]theorem apU (a:QF):bx a M ρ=(a M ρ).bind Bg:=rfl
@[simp]theorem am8 (a:QT):jJ a M ρ=(a M ρ).bind fun b=>.ok (!b):=rfl
@[simp]theorem anO (a b:QT):jY a b M ρ=(a M ρ).bind fun x=>if x=true then b M ρ else .ok false:=rfl
@[simp]theorem an3 (a b:QT):Ef a b M ρ=(a M ρ).bind fun x=>if x=true then .ok true else b M ρ:=rfl
@[simp]theorem ap7 (a:QT):VH a M ρ=(a M ρ).bind fun b=>.ok (.bool b):=rfl
@[simp]theorem aoT (t:QT) (a b:QF):Rp t a b M ρ=(t M ρ).bind fun x=>if x=true then a M ρ else b M ρ:=rfl
@[simp]theorem ev_is (neg:Bool) (c:Dat) (a:QF):yd neg c a M ρ=(a M ρ).bind fun d=>.ok (.bool (neg ^^ lM c d)):=rfl
@[simp]theorem ev_notV (a:QF):Qq a M ρ=((a M ρ).bind Bg).bind fun b=>.ok (.bool (!b)):=by
 show(((a M ρ).bind Bg).bind fun b=>Out.ok (!b)).bind (fun b=>Out.ok (PyData.bool b))=_
 cases a M ρ with
 |ok d=>cases h:Bg d <;> simp[Out.bind,h]
 |exc x=>rfl
 |bad=>rfl
@[simp]theorem ev_andV (a b:QF):zp a b M ρ=(a M ρ).bind fun d=>(Bg d).bind fun x=>if x=true then b M ρ else .ok (.bool false):=rfl
@[simp]theorem ev_orV (a b:QF):afl a b M ρ=(a M ρ).bind fun d=>(Bg d).bind fun x=>if x=true then .ok (.bool true) else b M ρ:=rfl
@[simp]theorem amq (o o':Dat->Dat->Out Dat) (a b c:QF):oA o o' a b c M ρ=(a M ρ).bind fun x=>(b M ρ).bind fun y=>(o x y).bind fun z=>(Bg z).bind fun k=>if k=true then(c M ρ).bind fun w=>(o' y w).bind Bg else .ok false:=rfl
@[simp]theorem aop (t:M9) (a:QF):xO t a M ρ=(a M ρ).bind (yM t):=rfl
@[simp]theorem apS (a:QF) (lo hi:QO):M6 a lo hi M ρ=(a M ρ).bind fun d=>(lo M ρ).bind fun l=>(hi M ρ).bind fun h=>slD d l h:=rfl
@[simp]theorem ap9:Ab M ρ=.ok none:=rfl
@[simp]theorem apY (a:QF):qW a M ρ=(a M ρ).bind fun d=>(Ar d).bind fun i=>.ok (some i):=rfl
@[simp]theorem ev_call (m:Mo->List Dat->Out Dat) (as:QA):aY m as M ρ=(as M ρ).bind fun ds=>m M ds:=rfl
@[simp]theorem amK (a:QF):cW a M ρ=(a M ρ).bind oN:=rfl
@[simp]theorem alM (a:QF):BJ a M ρ=(a M ρ).bind fun d=>(Ar d).bind fun n=>Out.when (decide (n<=100000/\-100000<=n)) (.ok (jx 0 n.toNat)):=rfl
@[simp]theorem ank (k₀:Int) (a:QF):uo k₀ a M ρ=(a M ρ).bind fun d=>(oN d).bind fun ds=>.ok (kW k₀ ds):=rfl
@[simp]theorem apl (a b:QF):Hr a b M ρ=(a M ρ).bind fun d=>(b M ρ).bind fun e=>(oN d).bind fun ds=>(oN e).bind fun es=>.ok (xq ds es):=rfl
@[simp]theorem anf (it:IF) (tg:fL) (vs:List Nat) (tt:QT) (te:QF):eU it tg vs tt te M ρ=(it M ρ).bind fun ds=>Out.when (decide (ds.length<=50000)) ((dD tg tt te M (bZ ρ vs) ds).bind fun r=>.ok (.list r)):=rfl
@[simp]theorem amg (it:IF) (tg:fL) (vs:List Nat) (tt:QT) (te:QF):Ad it tg vs tt te M ρ=(it M ρ).bind fun ds=>Out.when (decide (ds.length<=50000)) (dD tg tt te M (bZ ρ vs) ds):=rfl
@[simp]theorem aoV (f:QA):Nt f M ρ=(f M ρ).bind fun xs=>Out.when (decide (xs.length<=100000)) (.ok xs):=rfl
@[simp]theorem aku (f:QF):afn f M ρ=(f M ρ).bind WR:=rfl
@[simp]theorem alN (j:Nat) (d:Dat):aG j d ρ=some (ρ.set j (some (.dat d))):=rfl
@[simp]theorem amw (js:List Nat) (ds:List Dat):bA js (.tuple ds) ρ=tO js ds ρ:=rfl
@[simp]theorem ap2 (n:Nat) (b:SF) (ds:List Dat):mQ n b M ds=match b M (ini n ds) with
 |.ret d _=>.ok d
 |.next _ _=>.ok .none
 |.exc x _ _=>.exc x
 |_=>.bad:=rfl
@[simp]theorem apP (n:Nat) (b:SF) (ds:List Dat):mG n b M ds=match b M (ini n ds) with
 |.ret d M'=>.ok d M'
 |.next _ M'=>.ok .none M'
 |.exc x _ M'=>.exc x M'
 |_=>.bad:=rfl
end
section
variable(i j:Int)(ds es:List Dat)(b c:Bool)(x y:Str)
@[simp]theorem anr:eV (.int i) (.int j)=.ok (.int (i+j)):=rfl
@[simp]theorem ang:eV (.list ds) (.list es)=Out.when (decide (ds.length+es.length<=100000)) (.ok (.list (ds++es))):=rfl
@[simp]theorem ana:eV (.tuple ds) (.tuple es)=Out.when (decide (ds.length+es.length<=100000)) (.ok (.tuple (ds++es))):=rfl
@[simp]theorem aog:mK (.int i) (.int j)=.ok (.int (i - j)):=rfl
@[simp]theorem aoI:Ah (.int i) (.int j)=Out.when (decide (CMul i j)) (.ok (.int (i * j))):=rfl
@[simp]theorem apz:Iu (.int i) (.int j)=Out.when (decide (CDiv i j)) (.ok (.int (i / j))):=rfl
@[simp]theorem apt:oR (.int i) (.int j)=Out.when (decide (0 < j)) (.ok (.int (i % j))):=rfl
@[simp]theorem apq:Xu (.int i) (.int j)=Out.when (decide (CPow i j)) (.ok (.int (i ^ j.toNat))):=rfl
@[simp]theorem apL:Qy (.int i) (.int j)=.ok (.bool (decide (i < j))):=rfl
@[simp]theorem apQ:uZ (.int i) (.int j)=.ok (.bool (decide (i<=j))):=rfl
@[simp]theorem apR:Xp (.int i) (.int j)=.ok (.bool (decide (j < i))):=rfl
@[simp]theorem ap5:geD (.int i) (.int j)=.ok (.bool (decide (j<=i))):=rfl
@[simp]theorem apo:cC (.int i) (.int j)=.ok (.bool (i==j)):=rfl
@[simp]theorem aoX:cC (.str x) (.str y)=.ok (.bool (x==y)):=rfl
@[simp]theorem aoh:cC (.bool b) (.bool c)=.ok (.bool (b==c)):=rfl
@[simp]theorem apB:u9 (.int i) (.int j)=.ok (.bool (!(i==j))):=rfl
@[simp]theorem ao6:u9 (.str x) (.str y)=.ok (.bool (!(x==y))):=rfl
@[simp]theorem aoY:O4 (.int i)=.ok (.int (-i)):=rfl
@[simp]theorem anc:Ig (.bool b)=.ok b:=rfl
@[simp]theorem am6:Ig (.list ds)=.ok (!ds.isEmpty):=rfl
@[simp]theorem anq:Ig (.tuple ds)=.ok (!ds.isEmpty):=rfl
@[simp]theorem ape:Bg (.bool b)=.ok b:=rfl
@[simp]theorem anB:pB (.list ds)=.ok (.int ds.length):=rfl
@[simp]theorem anb:pB (.tuple ds)=.ok (.int ds.length):=rfl
@[simp]theorem anT:Uh (.int i)=.ok (.int (if i < 0 then -i else i)):=rfl
@[simp]theorem ev_max2:qD (.int i) (.int j)=.ok (.int (if j > i then j else i)):=rfl
@[simp]theorem amU:HX (.int i) (.int j)=.ok (.int (if j < i then j else i)):=rfl
@[simp]theorem anZ:aV (.list ds) (.int i)=match atI ds i with
  |some d=>.ok d
  |none=>.bad:=rfl
@[simp]theorem apG:aV (.tuple ds) (.int i)=match atI ds i with
  |some d=>.ok d
  |none=>.bad:=rfl
@[simp]theorem anA:Ar (.int i)=.ok i:=rfl
@[simp]theorem apu (lo hi:Option Int):slD (.list ds) lo hi=.ok (.list (cutD ds lo hi)):=rfl
@[simp]theorem aoq (lo hi:Option Int):slD (.tuple ds) lo hi=.ok (.tuple (cutD ds lo hi)):=rfl
@[simp]theorem anJ:mJ (.list ds)=.ok (.tuple ds):=rfl
@[simp]theorem am3:mJ (.tuple ds)=.ok (.tuple ds):=rfl
@[simp]theorem amf:Mj (.list ds)=.ok (.list ds):=rfl
@[simp]theorem al5:Mj (.tuple ds)=.ok (.list ds):=rfl
@[simp]theorem apy:WR (.list ds)=.ok ds:=rfl
@[simp]theorem aoc:WR (.tuple ds)=.ok ds:=rfl
@[simp]theorem an5:oN (.list ds)=.ok ds:=rfl
@[simp]theorem aot:oN (.tuple ds)=.ok ds:=rfl
@[simp]theorem am1 (o:Option Cell) (ρ:Env):rF (o::ρ)=o.map P0::rF ρ:=rfl
@[simp]theorem amm:rF []=[]:=rfl
@[simp]theorem amR (d:Dat):P0 (.dat d)=.dat d:=rfl
@[simp]theorem amO (ds:List Dat):P0 (.mut ds)=.dat (.list ds):=rfl
@[simp]theorem anz (ρ:Env):tO [] [] ρ=some ρ:=rfl
@[simp]theorem anK (j:Nat) (js:List Nat) (d:Dat) (ρ:Env):tO (j::js) (d::ds) ρ=tO js ds (ρ.set j (some (.dat d))):=rfl
@[simp]theorem amQ (ρ:Env):bZ ρ []=ρ:=rfl
@[simp]theorem al6 (ρ:Env) (j:Nat) (js:List Nat):bZ ρ (j::js)=(bZ ρ js).set j none:=rfl
@[simp]theorem alI {α:Type} (a:α) (l:List α):atI (a::l) 0=some a:=atI_nat (j:=0) rfl
@[simp]theorem ani (n:Nat):ini n ds=ds.map (fun d=>some (.dat d))++List.replicate (n - ds.length) none:=rfl
end
theorem aak{a b:String}:Str.ofString a=Str.ofString b↔a=b:=by
 constructor
 ·intro h
  rw[Str.ofString_eq_toList,Str.ofString_eq_toList]at h
  have h1:a.toList.map Char.toNat=b.toList.map Char.toNat:=by simpa using h
  have h2:a.toList=b.toList:=by
   refine List.map_inj_right (f:=Char.toNat) (fun x y e=>?_) |>.mp h1
   exact Char.ext (UInt32.toNat_inj.mp e)
  exact String.toList_inj.mp h2
 ·rintro rfl
  rfl
@[simp]theorem aow (a b:String):(Str.ofString a=Str.ofString b)=(a=b):=propext aak
@[simp]theorem anG (a b:String):(Str.ofString a==Str.ofString b)=decide (a=b):=by
 rw[aq7]
 simp[aak]
@[simp]theorem ap0 {α:Type} (a b:α) (l:List α):atI (a::b::l) 1=some b:=atI_nat (j:=1) rfl
@[simp]theorem ap3 {α:Type} (a b c:α) (l:List α):atI (a::b::c::l) 2=some c:=atI_nat (j:=2) rfl
@[simp]theorem ap1 {α:Type} (a b c d:α) (l:List α):atI (a::b::c::d::l) 3=some d:=atI_nat (j:=3) rfl
@[simp]theorem apW {α:Type} (a b c d e:α) (l:List α):atI (a::b::c::d::e::l) 4=some e:=atI_nat (j:=4) rfl
@[simp]theorem ap8 {α:Type} (a b c d e f:α) (l:List α):atI (a::b::c::d::e::f::l) 5=some f:=atI_nat (j:=5) rfl
@[simp]theorem apO {α:Type} (a b c d e f g:α) (l:List α):atI (a::b::c::d::e::f::g::l) 6=some g:=atI_nat (j:=6) rfl
@[simp]theorem al2 (s:String):PyData.strOk (Str.ofString s)=true:=by
 rw[Str.ofString_eq_toList]
 unfold PyData.strOk
 simp only[Array.all_eq_true,decide_eq_true_eq]
 intro i h
 simp only[List.getElem_toArray,List.getElem_map]
 have:=s.toList[i]'(by simpa using h) |>.valid
 rcases this with z|⟨_,z⟩
 ·show(s.toList[i]'(by simpa using h)).val.toNat < _
  omega
 ·show(s.toList[i]'(by simpa using h)).val.toNat < _
  omega
section
variable(i j:Int)(x y:Str)(d e:Dat)(ds es:List Dat)(b c:Bool)
@[simp]theorem YD:PyData.eqv (.int i) (.int j)=(i==j):=by simp[PyData.eqv]
@[simp]theorem anW:PyData.eqv (.str x) (.str y)=(x==y):=by simp[PyData.eqv]
@[simp]theorem ao1:PyData.eqv (.bool b) (.bool c)=(b==c):=by simp[PyData.eqv]
@[simp]theorem aox:PyData.eqv .none .none=true:=by simp[PyData.eqv]
@[simp]theorem X5:PyData.eqv (.tuple ds) (.tuple es)=PyData.eqvAll ds es:=by simp[PyData.eqv]
@[simp]theorem ah8:PyData.eqv (.list ds) (.list es)=PyData.eqvAll ds es:=by simp[PyData.eqv]
@[simp]theorem anR:PyData.eqv (.tuple ds) .none=false:=by simp[PyData.eqv]
@[simp]theorem aoP:PyData.eqv .none (.tuple ds)=false:=by simp[PyData.eqv]
@[simp]theorem apA:PyData.eqv (.str x) (.int i)=false:=by simp[PyData.eqv]
@[simp]theorem an9:PyData.eqv (.int i) (.str x)=false:=by simp[PyData.eqv]
@[simp]theorem agR:PyData.eqvAll [] []=true:=by simp[PyData.eqvAll]
@[simp]theorem am5:PyData.eqvAll [] (d::ds)=false:=by simp[PyData.eqvAll]
@[simp]theorem agT:PyData.eqvAll (d::ds) []=false:=by simp[PyData.eqvAll]
@[simp]theorem aa3:PyData.eqvAll (d::ds) (e::es)=(PyData.eqv d e&&PyData.eqvAll ds es):=by simp[PyData.eqvAll]
end
@[simp]theorem yZ:∀l m:List Int,PyData.eqvAll (l.map PyData.int) (m.map PyData.int)=decide (l=m)
 |[],[]=>by simp
 |[],_::_=>by simp
 |_::_,[]=>by simp
 |a::l,b::m=>by
  rw[aqj,aqj,aa3,yZ l m,YD]
  by_cases h:a=b <;> by_cases h2:l=m <;> simp[h,h2]
theorem G4{n:Nat}:∀{ds:List Dat},mU n ds=true↔∀d∈ds,okd n d=true
 |[]=>by simp[mU]
 |d::ds=>by simp[mU,G4 (ds:=ds)]
@[simp]theorem af5 (n:Nat) (i:Int):okd n (.int i)=true:=by simp[okd]
@[simp]theorem Ve (n:Nat) (l:List Int):mU n (l.map PyData.int)=true:=G4.mpr fun d h=>by
 obtain⟨i,_,rfl⟩:=aqt.mp h
 simp
def ob(h:Nat):Dat:=obj h
section
variable(M:Mo)(ρ:Env)(h:Nat)(f:Str)
@[simp]theorem anD:KR M f (ob h)=(M[h]?).bind fun i=>i.fs.lookup f:=rfl
@[simp]theorem amF (tb:List (Str×MV)):DN tb M (ob h)=(M[h]?).bind fun i=>tb.lookup i.cls:=rfl
@[simp]theorem XD:jV M (ob h)=(M[h]?).bind fun i=>match i.cls=="" with
 |true=>none
 |false=>some (h,i):=rfl
@[simp]theorem an6 (o:QF):gM f o M ρ=(o M ρ).bind fun d=>match KR M f d with
 |some (.dat x)=>.ok x
 |_=>.bad:=rfl
@[simp]theorem amW (o:QF):bL f o M ρ=(o M ρ).bind fun d=>match KR M f d with
 |some (.dat x)=>.ok x
 |some (.lst _ xs)=>.ok (.list xs)
 |_=>.bad:=rfl
@[simp]theorem ano (tb:List (Str×MV)) (o:QF) (as:QA):aP tb o as M ρ=(o M ρ).bind fun d=>match DN tb M d with
 |some (.q _ m)=>(as M ρ).bind fun ds=>m M (d::ds)
 |_=>.bad:=rfl
@[simp]theorem amx (tb:List (Str×MV)) (o:QF) (as:QA):cM tb o as M ρ=((o M ρ).at M).bind fun d _=>match DN tb M d with
 |some (.q _ m)=>((as M ρ).at M).bind fun ds _=>(m M (d::ds)).at M
 |some (.g _ m)=>((as M ρ).at M).bind fun ds _=>m M (d::ds)
 |none=>.bad:=rfl
@[simp]theorem anF (x:Str) (m:Mo->List Dat->aZ Dat) (as:QA):Aj x m as M ρ=((as M ρ).at M).bind fun ds _=>match m (M++[⟨x,[]⟩]) (ob M.length::ds) with
 |.ok .none M'=>.ok (ob M.length) M'
 |_=>.bad:=rfl
@[simp]theorem al0 (m:Mo->List Dat->aZ Dat) (as:QA):Ho m as M ρ=((as M ρ).at M).bind fun ds _=>m M ds:=rfl
@[simp]theorem alS (m:Mo->List Dat->aZ Dat) (as:GA):ai6 m as M ρ=(as M ρ).bind fun ds M1=>m M1 ds:=rfl
@[simp]theorem alQ (m:Mo->List Dat->Out Dat) (as:GA):aiM m as M ρ=(as M ρ).bind fun ds M1=>(m M1 ds).at M1:=rfl
@[simp]theorem amI:akQ M ρ=.ok [] M:=rfl
@[simp]theorem alP (a:GF) (r:GA):ajE a r M ρ=(a M ρ).bind fun d M1=>(r M1 ρ).bind fun ds M2=>.ok (d::ds) M2:=rfl
@[simp]theorem anE (t:QT):aer t M ρ=(t M ρ).at M:=rfl
@[simp]theorem aml (a:GT):aky a M ρ=(a M ρ).bind fun b M1=>.ok (!b) M1:=rfl
@[simp]theorem amc (a b:GT):ak1 a b M ρ=(a M ρ).bind fun x M1=>if x=true then b M1 ρ else .ok false M1:=rfl
@[simp]theorem ane (a b:GT):alT a b M ρ=(a M ρ).bind fun x M1=>if x=true then .ok true M1 else b M1 ρ:=rfl
@[simp]theorem amu (a:GF):alg a M ρ=(a M ρ).bind fun d M1=>(Ig d).at M1:=rfl
@[simp]theorem amH (x:Str):eG x M ρ=.exc ⟨x,[]⟩ ρ M:=rfl
@[simp]theorem alG (x:Str) (fs:List Str) (as:QA):BK x fs as M ρ=((as M ρ).at M).then ρ fun ds M'=>.exc ⟨x,(fs.zip ds).reverse⟩ ρ M':=rfl
@[simp]theorem apE (b:SF) (hs:List Hd):Yp b hs M ρ=match b M ρ with
 |.exc x ρ' M'=>hdl hs x ρ' M'
 |o=>o:=rfl
@[simp]theorem anv (x:dN):hdl [] x ρ M=.exc x ρ M:=rfl
@[simp]theorem anI (h:Hd) (r:List Hd) (x:dN):hdl (h::r) x ρ M=match h.tk x.cls with
  |some true=>match abP ρ h.nm with
   |true=>match Df h.y x h.st (R7 ρ h.nm) with
    |some ρ2=>.next (R7 ρ2 h.nm) M
    |none=>.bad
   |false=>.bad
  |some false=>hdl r x ρ M
  |none=>.bad:=rfl
@[simp]theorem anu:R7 ρ none=ρ:=rfl
@[simp]theorem anL (i:Nat):R7 ρ (some i)=ρ.set i none:=rfl
@[simp]theorem ami:abP ρ none=true:=rfl
@[simp]theorem amS (i:Nat):abP ρ (some i)=decide (i < ρ.length):=rfl
@[simp]theorem ao3 (y:Str) (x:dN):Df y x [] ρ=some ρ:=rfl
@[simp]theorem aoo (y:Str) (x:dN) (j:Nat) (e:DP) (r:List (Nat×DP)):Df y x ((j,e)::r) ρ=(Xo y x e).bind fun d=>Df y x r (ρ.set j (some (.dat d))):=rfl
@[simp]theorem apw (y:Str) (x:dN) (d:Dat):Xo y x (.con d)=some d:=rfl
@[simp]theorem anl (g:GF):gU g M ρ=(g M ρ).then ρ fun d M'=>.ret d M':=rfl
@[simp]theorem aoC (t:GT) (f k:SF):amn t f k M ρ=(t M ρ).then ρ fun c M'=>if c=true then f M' ρ else k M' ρ:=rfl
@[simp]theorem alE (a b:QF):Bu a b M ρ=(a M ρ).bind fun d=>(b M ρ).bind fun e=>(Ar d).bind fun lo=>(Ar e).bind fun n=>Out.when (decide (n<=100000/\-100000<=n/\lo<=100000/\-100000<=lo)) (.ok (jx lo (n - lo).toNat)):=rfl
@[simp]theorem am7 (ft:Ft) (o:QF) (e:GF):tV ft o f e M ρ=(e M ρ).then ρ fun d M1=>((o M1 ρ).at M1).then ρ fun od M2=>match jV M2 od with
 |some (h,i)=>match ft.has i.cls f&&decide (i.fs.length < 100) with
  |true=>.next ρ (M2.set h (i.put f (.dat d)))
  |false=>.bad
 |none=>.bad:=rfl
@[simp]theorem anC (ft:Ft) (o:QF) (e:IF):DY ft o f e M ρ=((e M ρ).at M).then ρ fun xs M0=>((o (M0++[⟨"",[]⟩]) ρ).at (M0++[⟨"",[]⟩])).then ρ fun od M2=>match jV M2 od with
 |some (h,i)=>match ft.has i.cls f&&decide (i.fs.length < 100) with
  |true=>.next ρ (M2.set h (i.put f (.lst M0.length xs)))
  |false=>.bad
 |none=>.bad:=rfl
@[simp]theorem am4 (ft:Ft) (o:QF) (b:Bool):Mq ft o f b M ρ=((o (M++[⟨"",[]⟩]) ρ).at (M++[⟨"",[]⟩])).then ρ fun od M2=>match jV M2 od with
 |some (h,i)=>match ft.has i.cls f&&decide (i.fs.length < 100) with
  |true=>.next ρ (M2.set h (i.put f (.dic b [])))
  |false=>.bad
 |none=>.bad:=rfl
@[simp]theorem am0 (ft:Ft) (o:QF) (e:Mo->Env->Out (List (Dat×Dat))):Qe ft o f e M ρ=((e M ρ).at M).then ρ fun kvs _=>((o (M++[⟨"",[]⟩]) ρ).at (M++[⟨"",[]⟩])).then ρ fun od M2=>match jV M2 od with
 |some (h,i)=>match ft.has i.cls f&&decide (i.fs.length < 100) with
  |true=>.next ρ (M2.set h (i.put f (.dic true kvs)))
  |false=>.bad
 |none=>.bad:=rfl
@[simp]theorem anx (o:QF) (e:GF):Dh f o e M ρ=((o M ρ).at M).then ρ fun od M0=>match Em M0 f od with
 |some (_,_,n,_)=>(e M0 ρ).then ρ fun d M1=>match Em M1 f od with
  |some (h,i,n',xs)=>match n==n'&&decide (xs.length < 100000) with
   |true=>.next ρ (M1.set h (i.put f (.lst n (xs++[d]))))
   |false=>.bad
  |none=>.bad
 |none=>.bad:=rfl
@[simp]theorem anj (o fi e:QF):Qh f o fi e M ρ=((e M ρ).at M).then ρ fun d _=>((o M ρ).at M).then ρ fun od _=>match Em M f od with
 |some (h,i,n,xs)=>((fi M ρ).at M).then ρ fun k _=>match k with
  |.int k=>match ixN xs.length k with
   |some j=>.next ρ (M.set h (i.put f (.lst n (xs.set j d))))
   |none=>.bad
  |_=>.bad
 |none=>.bad:=rfl
@[simp]theorem anM (ft:Ft) (o e:QF):Pk ft f o e M ρ=((o M ρ).at M).then ρ fun od _=>match jV M od with
 |some (h,i)=>match i.fs.lookup f,ft.has i.cls f&&decide (i.fs.length < 100) with
  |some (.dat (.int a)),true=>((e M ρ).at M).then ρ fun d _=>match d with
   |.int b=>.next ρ (M.set h (i.put f (.dat (.int (a+b)))))
   |_=>.bad
  |_,_=>.bad
 |none=>.bad:=rfl
theorem af3(d:Dat):Em M f d=(jV M d).bind fun p=>match p.2.fs.lookup f with
 |some (.lst n xs)=>some (p.1,p.2,n,xs)
 |_=>none:=rfl
@[simp]theorem am2:Em M f (ob h)=(M[h]?).bind fun i=>match i.cls=="" with
 |true=>none
 |false=>match i.fs.lookup f with
  |some (.lst n xs)=>some (h,i,n,xs)
  |_=>none:=by
 rw[af3,XD]
 cases M[h]? with
 |none=>rfl
 |some i=>
  show(match i.cls=="" with
   |true=>none
   |false=>some (h,i)).bind _=(match i.cls=="" with
   |true=>none
   |false=>_)
  cases i.cls=="" <;> rfl
@[simp]theorem anw (i:Inst) (x:iW):i.put f x=⟨i.cls,putL f x i.fs⟩:=rfl
@[simp]theorem apZ (x:iW):putL f x []=[(f,x)]:=rfl
@[simp]theorem apT (x y:iW) (g:Str) (r:List (Str×iW)):putL f x ((g,y)::r)=if g=f then(g,x)::r else(g,y)::putL f x r:=rfl
@[simp]theorem amX (ft:Ft) (c:Str):Ft.has ft c f=match ft.lookup c with
 |some fs=>fs.contains f
 |none=>false:=rfl
@[simp]theorem anN:yu M f (ob h)=(M[h]?).bind fun i=>match i.cls=="" with
 |true=>none
 |false=>match i.fs.lookup f with
  |some (.dic b kvs)=>some (h,i,b,kvs)
  |_=>none:=by
 show(jV M (ob h)).bind _=_
 rw[XD]
 cases M[h]? with
 |none=>rfl
 |some i=>
  show(match i.cls=="" with
   |true=>none
   |false=>some (h,i)).bind _=(match i.cls=="" with
   |true=>none
   |false=>_)
  cases i.cls=="" <;> rfl
@[simp]theorem aoM (neg:Bool) (k o:QF):NP neg f k o M ρ=(k M ρ).bind fun d=>(o M ρ).bind fun od=>match yu M f od with
 |some (_,_,b,kvs)=>(dhas b kvs d).bind fun r=>.ok (.bool (neg ^^ r))
 |none=>.bad:=rfl
@[simp]theorem anh (o k e:QF):Mf f o k e M ρ=((e M ρ).at M).then ρ fun v _=>((o M ρ).at M).then ρ fun od _=>match yu M f od with
 |some (h,i,b,kvs)=>((k M ρ).at M).then ρ fun d _=>match dhas b kvs d,decide (kvs.length < 100000) with
  |.ok false,true=>.next ρ (M.set h (i.put f (.dic b (kvs++[(d,v)]))))
  |_,_=>.bad
 |none=>.bad:=rfl
@[simp]theorem anH (o k:QF):Mr f o k M ρ=((o M ρ).at M).then ρ fun od _=>match yu M f od with
 |some (h,i,b,kvs)=>((k M ρ).at M).then ρ fun d _=>match dhas b kvs d,decide (kvs.length<=100000) with
  |.ok true,true=>.next ρ (M.set h (i.put f (.dic b (kvs.filter fun p=>!PyData.eqv p.1 d))))
  |_,_=>.bad
 |none=>.bad:=rfl
@[simp]theorem amd (o:QF):Cg f o M ρ=(o M ρ).bind fun od=>match yu M f od with
 |some (_,_,true,kvs)=>.ok (kvs.map (·.1))
 |_=>.bad:=rfl
@[simp]theorem al1 (o:QF):CP f o M ρ=(o M ρ).bind fun od=>match yu M f od with
 |some (_,_,_,kvs)=>.ok (.list (kvs.map (·.1)))
 |none=>.bad:=rfl
@[simp]theorem ap6 (it:IF) (tg:fL) (vs:List Nat) (tk:QF):qDc it tg vs tk M ρ=(it M ρ).bind fun ds=>Out.when (decide (ds.length<=50000)) (Dm tg tk M (bZ ρ vs) ds []):=rfl
@[simp]theorem al8 (kvs:List (Dat×Dat)) (i:Int):dhas false kvs (.int i)=.ok (kvs.any fun p=>PyData.eqv p.1 (.int i)):=rfl
@[simp]theorem aoH (neg:Bool) (kvs:List (Str×Dat)) (k:QF):TQ neg kvs k M ρ=(k M ρ).bind fun d=>match d with
 |.str x=>.ok (.bool (neg ^^ (kvs.lookup x).isSome))
 |_=>.bad:=rfl
@[simp]theorem aof (kvs:List (Str×Dat)) (k:QF):abo kvs k M ρ=(k M ρ).bind fun d=>match d with
 |.str x=>match kvs.lookup x with
  |some y=>.ok y
  |none=>.bad
 |_=>.bad:=rfl
@[simp]theorem amL (it:IF) (tg:fL) (vs:List Nat) (tt:QT) (it1:IF) (tg1:fL) (vs1:List Nat) (tt1:QT) (te:QF):Cy it tg vs tt it1 tg1 vs1 tt1 te M ρ=((it M ρ).bind fun ds=>(gQ tg tt it1 tg1 vs1 tt1 te M (bZ ρ vs) ds).bind fun r=>Out.when (decide (r.length<=50000)) (.ok r)).bind fun r=>.ok (.list r):=rfl
@[simp]theorem alK (it:IF) (tg:fL) (vs:List Nat) (tt:QT) (te:QF):af4 it tg vs tt te M ρ=((it M ρ).bind fun ds=>Out.when (decide (ds.length<=50000)) (dD tg tt te M (bZ ρ vs) ds)).bind fun ds=>match intsOf ds with
 |some l=>Out.when (decide (l.length<=4000)) (.ok (.list ((afU l).map PyData.int)))
 |none=>.bad:=rfl
@[simp]theorem alJ {α:Type} (k g:Str) (y:α) (r:List (Str×α)):List.lookup k ((g,y)::r)=if k=g then some y else List.lookup k r:=by
 rw[aqI]
 by_cases e:k=g
 ·subst e
  simp
 ·have:(k==g)=false:=by simpa using e
  rw[this,if_neg e]
end
end Rf
namespace Pr
open PySem PySem.Spec PyProof.Rows L2 Evl Rf
def yj:SF:=
 (aD (DY jU (ao 0) "allowances" (Nt au))
 (DY jU (ao 0) "circles" (Nt au)))
def tR:Mo->List Dat->aZ Dat:=mG 1 yj
def Ak:SF:=
 (Mq jU (ao 0) "held" true)
def vA:Mo->List Dat->aZ Dat:=mG 1 Ak
def Ek:SF:=
 (DY jU (ao 0) "beasts" (Nt au))
def zq:Mo->List Dat->aZ Dat:=mG 1 Ek
def yH:SF:=
 (aD (tV jU (ao 0) "owner_count" (gOf (qC (.int 0))))
 (aD (Mq jU (ao 0) "holders" false)
 (aD (tV jU (ao 0) "grounds" (Aj "Grounds" tR au))
 (aD (tV jU (ao 0) "rights" (Aj "Rights" vA au))
 (tV jU (ao 0) "herd" (Aj "Herd" zq au))))))
def o9:Mo->List Dat->aZ Dat:=mG 1 yH
def Ai:SF:=
 (aR (bJ (ak (gM "owner" (ao 0)) (ak (gM "ground" (ao 0)) (ak (gM "due" (ao 0)) (ak (gM "ear" (ao 0)) (ak (gM "alive" (ao 0)) au)))))))
def vq:Mo->List Dat->Out Dat:=mQ 1 Ai
def mj:List (Str×MV):=[("Beast",.q 1 vq)]
def CG:SF:=
 (aR (aA eV (aP mj (ao 0) au) (bJ (ak (gM "mother" (ao 0)) (ak (eX mJ (bL "story" (ao 0))) au)))))
def xK:Mo->List Dat->Out Dat:=mQ 1 CG
def vH:SF:=
 (aR (CP "holders" (ao 0)))
def qJ:Mo->List Dat->Out Dat:=mQ 1 vH
def uJ:SF:=
 (aR (CP "held" (ao 0)))
def oX:Mo->List Dat->Out Dat:=mQ 1 uJ
def tZ:SF:=
 (aR (eX pB (bL "allowances" (ao 0))))
def o7:Mo->List Dat->Out Dat:=mQ 1 tZ
def eO:List (Str×MV):=[("Grounds",.q 1 o7)]
def Ay:SF:=
 (aR (VH (oA uZ uZ (qC (.int 1)) (ao 1) (aP eO (ao 0) au))))
def vo:Mo->List Dat->Out Dat:=mQ 2 Ay
def yQ:List (Str×MV):=[("Grounds",.q 2 vo)]
def yr:SF:=
 (bR (jJ (iD (aP yQ (ao 0) (ak (aq 1) au)))) (eG "NoGround") aU)
def ux:Mo->List Dat->Out Dat:=mQ 2 yr
def aF:List (Str×MV):=[("Grounds",.q 2 ux)]
def mX:SF:=
 (aD (cD (gOf (aP aF (ao 0) (ak (aq 1) au))))
 (aR (aA aV (bL "allowances" (ao 0)) (aA mK (ao 1) (qC (.int 1))))))
def jN:Mo->List Dat->Out Dat:=mQ 2 mX
def ou:SF:=
 (aD (cD (gOf (aP aF (ao 0) (ak (aq 1) au))))
 (aR (eX Mj (aA aV (bL "circles" (ao 0)) (aA mK (ao 1) (qC (.int 1)))))))
def j7:Mo->List Dat->Out Dat:=mQ 2 ou
def bB:List (Str×MV):=[("Grounds",.q 2 j7)]
def oK:SF:=
 (aR (aP bB (bL "grounds" (ao 0)) (ak (aq 1) au)))
def jZ:Mo->List Dat->Out Dat:=mQ 2 oK
def tL:List (Str×MV):=[("Rights",.q 1 oX)]
def uN:List (Str×MV):=[("Commons",.q 1 qJ)]
def vC:List (Str×MV):=[("Beast",.q 1 xK)]
def bT:List (Str×MV):=[("Commons",.q 2 jZ)]
def dX:List (Str×MV):=[("Grounds",.q 2 jN)]
def yO:SF:=
 (aD (bD (aG 1) (gOf (eU (Bu (qC (.int 1)) (aA eV (aP eO (bL "grounds" (ao 0)) au) (qC (.int 1)))) (aG 3) [3] iJ (bJ (ak (aP dX (bL "grounds" (ao 0)) (ak (aq 3) au)) (ak (eX mJ (aP bT (ao 0) (ak (aq 3) au))) au))))))
 (aD (bD (aG 2) (gOf (eU (cW (bL "beasts" (bL "herd" (ao 0)))) (aG 4) [4] iJ (aP vC (ao 4) au))))
 (aR (bJ (ak (aP uN (ao 0) au) (ak (aq 1) (ak (aP tL (bL "rights" (ao 0)) au) (ak (aq 2) au))))))))
def pC:Mo->List Dat->Out Dat:=mQ 5 yO
def Ug:SF:=
 (aD (bD (aG 5) (gOf (aA oR (aA eV (aA eV (aA Ah (ao 5) (qC (.int 48271))) (aA Ah (qC (.int 9973)) (ao 4))) (qC (.int 11))) (qC (.int 2147483647)))))
 (HY 3 (aA oR (aA Iu (ao 5) (qC (.int 1021))) (ao 2))))
def TY:SF:=
 (aD (HY 3 (aA oR (ao 0) (ao 2)))
 (bD (aG 0) (gOf (aA Iu (ao 0) (ao 2)))))
def abA:SF:=
 (aD (BZ 3 (Nt au))
 (aD (bD (aG 0) (gOf (eX Uh (ao 0))))
 (aD (bR (bx (aA geD (ao 0) (aA Xu (qC (.int 10)) (qC (.int 18))))) (aD (oU (BJ (ao 1)) (aG 4) TY)
 (aR (aq 3))) aU)
 (aD (bD (aG 5) (gOf (aA oR (aA Ah (aA eV (aA oR (ao 0) (qC (.int 1000003))) (qC (.int 17))) (qC (.int 69621))) (qC (.int 2147483647)))))
 (aD (oU (BJ (ao 1)) (aG 4) Ug)
 (aR (aq 3)))))))
def Bp:Mo->List Dat->Out Dat:=mQ 6 abA
def Pb:SF:=
 (aD (bR (bx (aA cC (aA oR (ao 1) (qC (.int 4))) (qC (.int 1)))) (aR (eX mJ (eU (cW (ao 0)) (aG 2) [2] iJ (aA qD (qC (.int 0)) (aA mK (ao 2) (qC (.int 7))))))) aU)
 (aD (bR (bx (aA cC (aA oR (ao 1) (qC (.int 4))) (qC (.int 2)))) (aR (eX mJ (eU (cW (ao 0)) (aG 2) [2] iJ (aA oR (ao 2) (qC (.int 3)))))) aU)
 (aR (eX mJ (ao 0)))))
def tH:Mo->List Dat->Out Dat:=mQ 3 Pb
def abK:SF:=
 (aD (bD (aG 1) (gOf (aY Bp (ak (aq 0) (ak (qC (.int 7)) (ak (qC (.int 10)) au))))))
 (aR (aY tH (ak (M6 (ao 1) Ab (qW (qC (.int 6)))) (ak (aA aV (ao 1) (qC (.int 6))) au)))))
def Qn:Mo->List Dat->Out Dat:=mQ 2 abK
def Ea:SF:=
 (aD (bR (bx (aA cC (aA oR (ao 0) (qC (.int 8))) (qC (.int 7)))) (aR (yt au)) aU)
 (aD (bD (aG 1) (gOf (yt (ak (bJ (ak (qC (.str "ground")) (ak (qC (.int 0)) (ak (qC (.int 0)) au)))) (ak (bJ (ak (qC (.str "owner")) (ak (qC (.int 0)) (ak (qC (.int 0)) au)))) (ak (bJ (ak (qC (.str "owner")) (ak (qC (.int 0)) (ak (qC (.int 0)) au)))) (ak (bJ (ak (qC (.str "enrol")) (ak (qC (.int 0)) (ak (qC (.int 0)) au)))) (ak (bJ (ak (qC (.str "enrol")) (ak (qC (.int 1)) (ak (qC (.int 0)) au)))) au))))))))
 (aD (bD (aG 1) (gOf (aA eV (ao 1) (yt (ak (bJ (ak (qC (.str "bring")) (ak (qC (.int 0)) (ak (qC (.int 0)) au)))) (ak (bJ (ak (qC (.str "cut")) (ak (qC (.int 0)) (ak (qC (.int 0)) au)))) (ak (bJ (ak (qC (.str "bring")) (ak (qC (.int 1)) (ak (qC (.int 0)) au)))) (ak (bJ (ak (qC (.str "cut")) (ak (qC (.int 1)) (ak (qC (.int 0)) au)))) (ak (bJ (ak (qC (.str "ground")) (ak (qC (.int 0)) (ak (qC (.int 0)) au)))) (ak (bJ (ak (qC (.str "enrol")) (ak (qC (.int 0)) (ak (qC (.int 1)) au)))) au))))))))))
 (aR (aq 1)))))
def u5:Mo->List Dat->Out Dat:=mQ 2 Ea
def Km:SF:=
 (aD (bD (aG 1) (gOf (yt (ak (qC (.str "tear")) (ak (qC (.str "cut")) (ak (qC (.str "bring")) (ak (qC (.str "sell")) (ak (qC (.str "move")) (ak (qC (.str "enrol")) (ak (qC (.str "bear")) (ak (qC (.str "tear")) (ak (qC (.str "cut")) (ak (qC (.str "sell")) (ak (qC (.str "move")) (ak (qC (.str "unite")) (ak (qC (.str "part")) au))))))))))))))))
 (aD (bD (aG 1) (gOf (aA eV (ao 1) (yt (ak (qC (.str "heir")) (ak (qC (.str "pass")) (ak (qC (.str "die")) (ak (qC (.str "leave")) (ak (qC (.str "ground")) (ak (qC (.str "owner")) (ak (qC (.str "enrol")) (ak (qC (.str "tear")) (ak (qC (.str "sell")) (ak (qC (.str "bring")) (ak (qC (.str "bear")) (ak (qC (.str "cut")) au))))))))))))))))
 (aR (aA aV (ao 1) (aA oR (ao 0) (qC (.int 25)))))))
def zE:Mo->List Dat->Out Dat:=mQ 2 Km
def lU:SF:=
 (bR (bx (NP true "holders" (aq 1) (ao 0))) (eG "NoOwner") aU)
def jk:Mo->List Dat->Out Dat:=mQ 2 lU
def yC:SF:=
 (aR (eU (Cg "held" (ao 0)) (bA [3,4,5]) [3,4,5] (jY (bx (aA cC (ao 3) (ao 1))) (bx (aA cC (ao 4) (ao 2)))) (aq 5)))
def tY:Mo->List Dat->Out Dat:=mQ 6 yC
def cH:List (Str×MV):=[("Rights",.q 3 tY)]
def tD:SF:=
 (aR (aA Xp (eX pB (aP cH (ao 0) (ak (aq 1) (ak (aq 2) au)))) (qC (.int 0))))
def oM:Mo->List Dat->Out Dat:=mQ 3 tD
def rM:List (Str×MV):=[("Rights",.q 3 oM)]
def qm:SF:=
 (bR (jJ (iD (aP rM (bL "rights" (ao 0)) (ak (aq 1) (ak (aq 2) au))))) (eG "NoRight") aU)
def lJ:Mo->List Dat->Out Dat:=mQ 3 qm
def rJ:SF:=
 (aD (Pk jU "owner_count" (ao 0) (qC (.int 1)))
 (aD (Mf "holders" (ao 0) (gM "owner_count" (ao 0)) (qC (.bool true)))
 (aR (gM "owner_count" (ao 0)))))
def iy:Mo->List Dat->aZ Dat:=mG 1 rJ
def oF:SF:=
 (aD (bD (aG 4) (gOf (bJ (ak (aq 1) (ak (aq 2) (ak (aq 3) au))))))
 (aD (bR (bx (NP false "held" (aq 4) (ao 0))) (eG "HasRight") aU)
 (Mf "held" (ao 0) (aq 4) (qC (.bool true)))))
def jf:Mo->List Dat->aZ Dat:=mG 5 oF
def CK:SF:=
 (bD (aG 2) (gOf (Cy (cW (ao 2)) (bA [4,5]) [4,5,6] iJ (Bu (ao 3) (aA eV (aA HX (aA eV (ao 3) (ao 5)) (qC cQ)) (qC (.int 1)))) (aG 6) [6] iJ (bJ (ak (aA eV (ao 4) (bJ (ak (aq 6) au))) (ak (aA mK (ao 5) (aA mK (ao 6) (ao 3))) au))))))
def YG:SF:=
 (aD (bD (aG 2) (gOf (yt (ak (bJ (ak (bJ au) (ak (aq 1) au))) au))))
 (aD (oU (cW (aq 0)) (aG 3) CK)
 (aR (eU (cW (ao 2)) (bA [4,5]) [4,5] iJ (aq 4)))))
def KY:Mo->List Dat->Out Dat:=mQ 7 YG
def Tf:SF:=
 (aR (eX Ue (eU (Hr (ao 0) (ao 1)) (bA [2,3]) [2,3] (bx (aA Xp (ao 3) (ao 2))) (aA mK (ao 3) (ao 2)))))
def uh:Mo->List Dat->Out Dat:=mQ 4 Tf
def Ec:SF:=
 (aR (eU (cW (aY KY (ak (aq 0) (ak (aq 1) au)))) (aG 2) [2] (bx (aA cC (aY uh (ak (aq 0) (ak (aq 2) au))) (ao 1))) (aq 2)))
def uQ:Mo->List Dat->Out Dat:=mQ 3 Ec
def RW:SF:=
 (aR (aA qD (aY uh (ak (aq 0) (ak (aq 1) au))) (aY uh (ak (aq 1) (ak (aq 0) au)))))
def Gm:Mo->List Dat->Out Dat:=mQ 2 RW
def Yl:SF:=
 (aR (aA uZ (aY Gm (ak (aq 0) (ak (aq 1) au))) (ao 2)))
def qX:Mo->List Dat->Out Dat:=mQ 3 Yl
def jR:SF:=
 (bR (jJ (iD (eX N5 (eU (cW (ao 2)) (bA [5,6]) [5,6] iJ (aY qX (ak (aq 4) (ak (aq 6) (ak (aq 3) au)))))))) (aR (aq 4)) aU)
def wC:SF:=
 (aD (oU (cW (aY uQ (ak (aq 0) (ak (aq 1) au)))) (aG 4) jR)
 (eG "NoneFree"))
def pA:Mo->List Dat->Out Dat:=mQ 7 wC
def qu:SF:=
 (aR (aA aV (aP cH (bL "rights" (ao 0)) (ak (aq 1) (ak (aq 2) au))) (qC (.int 0))))
def lO:Mo->List Dat->Out Dat:=mQ 3 qu
def NT:SF:=
 (aR (eX QM (ao 0)))
def qK:Mo->List Dat->Out Dat:=mQ 1 NT
def uM:SF:=
 (aR (eU (uo 1 (bL "beasts" (ao 0))) (bA [1,2]) [1,2] (iD (bL "alive" (ao 2))) (bJ (ak (aq 1) (ak (aq 2) au)))))
def oY:Mo->List Dat->Out Dat:=mQ 3 uM
def dO:List (Str×MV):=[("Herd",.q 1 oY)]
def yx:SF:=
 (aR (eU (cW (aP dO (ao 0) au)) (bA [2,3]) [2,3] (bx (aA (inD false) (bL "ground" (ao 3)) (ao 1))) (bJ (ak (aq 2) (ak (aq 3) au)))))
def pq:Mo->List Dat->Out Dat:=mQ 4 yx
def rC:SF:=
 (aR (eU (Cg "held" (ao 0)) (bA [2,3,4]) [2,3,4] (bx (aA (inD false) (ao 3) (ao 1))) (bJ (ak (aq 2) (ak (aq 4) au)))))
def mZ:Mo->List Dat->Out Dat:=mQ 5 rC
def qw:List (Str×MV):=[("Rights",.q 2 mZ)]
def ji:List (Str×MV):=[("Herd",.q 2 pq)]
def jX:SF:=
 (aD (bD (aG 3) (gOf (aP bT (ao 0) (ak (aq 2) au))))
 (aD (bD (aG 4) (gOf (eU (cW (aP ji (bL "herd" (ao 0)) (ak (aq 3) au))) (bA [5,6]) [5,6] (jY (bx (yd true .none (bL "due" (ao 6)))) (bx (aA u9 (ao 5) (ao 1)))) (bJ (ak (gM "owner" (ao 6)) (ak (gM "due" (ao 6)) au))))))
 (aR (aY qK (ak (aA eV (aP qw (bL "rights" (ao 0)) (ak (aq 3) au)) (ao 4)) au)))))
def iz:Mo->List Dat->Out Dat:=mQ 7 jX
def cX:List (Str×MV):=[("Commons",.q 3 iz)]
def oE:SF:=
 (aR (aP cX (ao 0) (ak (qC (.int 0)) (ak (aq 1) au))))
def kh:Mo->List Dat->Out Dat:=mQ 2 oE
def uD:SF:=
 (aR (eX maxD (eU (cW (aP bB (ao 0) (ak (aq 1) au))) (aG 2) [2] iJ (aP dX (ao 0) (ak (aq 2) au)))))
def pO:Mo->List Dat->Out Dat:=mQ 3 uD
def rW:List (Str×MV):=[("Grounds",.q 2 pO)]
def ug:SF:=
 (aR (aP rW (bL "grounds" (ao 0)) (ak (aq 1) au)))
def pJ:Mo->List Dat->Out Dat:=mQ 2 ug
def ig:List (Str×MV):=[("Rights",.g 4 jf)]
def gD:List (Str×MV):=[("Commons",.g 1 iy)]
def cA:List (Str×MV):=[("Commons",.q 2 pJ)]
def bO:List (Str×MV):=[("Commons",.q 2 kh)]
def bU:List (Str×MV):=[("Commons",.q 3 lO)]
def aN:List (Str×MV):=[("Commons",.q 3 lJ)]
def aC:List (Str×MV):=[("Commons",.q 2 jk)]
def dW:SF:=
 (aD (cD (gOf (aP aC (ao 0) (ak (aq 1) au))))
 (aD (cD (gOf (aP aF (bL "grounds" (ao 0)) (ak (aq 2) au))))
 (aD (bR (jJ (oA uZ uZ (qC iV) (ao 3) (qC j8))) (eG "BadExtra") aU)
 (aD (cD (gOf (aP aN (ao 0) (ak (aq 1) (ak (aq 2) au)))))
 (aD (bD (aG 4) (gOf (aY pA (ak (aP bU (ao 0) (ak (aq 1) (ak (aq 2) au))) (ak (aq 3) (ak (aP bO (ao 0) (ak (aq 2) au)) (ak (aP cA (ao 0) (ak (aq 2) au)) au)))))))
 (aD (bD (aG 5) (cM gD (ao 0) au))
 (aD (cD (cM ig (bL "rights" (ao 0)) (ak (aq 5) (ak (aq 2) (ak (aq 4) au)))))
 (aR (bJ (ak (aq 5) (ak (aq 4) au)))))))))))
def cR:Mo->List Dat->aZ Dat:=mG 6 dW
def jB:SF:=
 (aD (bR (jJ (oA uZ uZ (qC (.int 0)) (ao 1) (qC gK))) (eG "BadAllowance") aU)
 (aD (Dh "allowances" (ao 0) (gOf (aq 1)))
 (aD (Dh "circles" (ao 0) (gOf (bJ (ak (aP eO (ao 0) au) au))))
 (aR (aP eO (ao 0) au)))))
def eZ:Mo->List Dat->aZ Dat:=mG 2 jB
def lg:List (Str×MV):=[("Grounds",.g 2 eZ)]
def lK:SF:=
 (gU (cM lg (bL "grounds" (ao 0)) (ak (aq 1) au)))
def gH:Mo->List Dat->aZ Dat:=mG 2 lK
def J5:SF:=
 (aR (eU (cW (aY qK (ak (aq 2) au))) (bA [4,5]) [4,5] (jY (bx (aA u9 (ao 4) (ao 0))) (iD (aY qX (ak (aq 1) (ak (aq 5) (ak (aq 3) au)))))) (bJ (ak (aq 4) (ak (aq 5) au)))))
def Ac:Mo->List Dat->Out Dat:=mQ 6 J5
def Ud:SF:=
 (aR (eX mJ (eU (Hr (ao 0) (ao 1)) (bA [2,3]) [2,3] iJ (aA qD (ao 2) (ao 3)))))
def pQ:Mo->List Dat->Out Dat:=mQ 4 Ud
def Bl:SF:=
 (aD (bD (aG 4) (gOf (aY Ac (ak (aq 0) (ak (aq 1) (ak (aq 2) (ak (aq 3) au)))))))
 (bR (iD (ao 4)) (aD (bD (bA [5,6]) (gOf (aA aV (ao 4) (qC (.int 0)))))
 (BK "Clash" ["ones","others","ear"] (ak (bJ (ak (aq 0) (ak (aq 1) au))) (ak (bJ (ak (aq 5) (ak (aq 6) au))) (ak (aY pQ (ak (aq 1) (ak (aq 6) au))) au))))) aU))
def nR:Mo->List Dat->Out Dat:=mQ 7 Bl
def lV:SF:=
 (cD (gOf (aY nR (ak (aq 1) (ak (aq 2) (ak (aP bO (ao 0) (ak (aq 3) au)) (ak (aP cA (ao 0) (ak (aq 3) au)) au)))))))
def gG:Mo->List Dat->Out Dat:=mQ 4 lV
def Ie:SF:=
 (aR (zp (aA cC (eX pB (ao 0)) (eX pB (qC iQ))) (eX N8 (eU (cW (ao 0)) (aG 1) [1] iJ (VH (oA uZ uZ (qC (.int 0)) (ao 1) (qC cQ)))))))
def sV:Mo->List Dat->Out Dat:=mQ 2 Ie
def Hg:SF:=
 (bR (jJ (iD (aY sV (ak (aq 0) au)))) (eG "BadEar") aU)
def qd:Mo->List Dat->Out Dat:=mQ 1 Hg
def bV:List (Str×MV):=[("Commons",.q 4 gG)]
def fW:SF:=
 (aD (cD (gOf (aP aC (ao 0) (ak (aq 1) au))))
 (aD (cD (gOf (aP aF (bL "grounds" (ao 0)) (ak (aq 2) au))))
 (aD (cD (gOf (aY qd (ak (aq 3) au))))
 (aD (bR (bx (aA cC (ao 3) (qC jw))) (eG "Bare") aU)
 (aD (bR (bx (aA (inD false) (ao 3) (aP cH (bL "rights" (ao 0)) (ak (aq 1) (ak (aq 2) au))))) (eG "HasRight") aU)
 (aD (cD (gOf (aP bV (ao 0) (ak (aq 1) (ak (aq 3) (ak (aq 2) au))))))
 (cD (cM ig (bL "rights" (ao 0)) (ak (aq 1) (ak (aq 2) (ak (aq 3) au)))))))))))
def dR:Mo->List Dat->aZ Dat:=mG 4 fW
def wZ:SF:=
 (Mr "held" (ao 0) (bJ (ak (aq 1) (ak (aq 2) (ak (aq 4) au)))))
def vm:SF:=
 (aD (bD (aG 3) (gOf (aP cH (ao 0) (ak (aq 1) (ak (aq 2) au)))))
 (aD (bR (jJ (iD (ao 3))) (eG "NoRight") aU)
 (aD (oU (cW (aq 3)) (aG 4) wZ)
 (aR (aq 3)))))
def ni:Mo->List Dat->aZ Dat:=mG 5 vm
def yR:List (Str×MV):=[("Rights",.g 3 ni)]
def jm:SF:=
 (aD (cD (gOf (aP aC (ao 0) (ak (aq 1) au))))
 (aD (cD (gOf (aP aF (bL "grounds" (ao 0)) (ak (aq 2) au))))
 (aD (cD (gOf (aP aN (ao 0) (ak (aq 1) (ak (aq 2) au)))))
 (aD (bR (iD (eX N5 (eU (cW (aP ji (bL "herd" (ao 0)) (ak (yt (ak (aq 2) au)) au))) (bA [3,4]) [3,4] iJ (aA cC (bL "owner" (ao 4)) (ao 1))))) (eG "StillThere") aU)
 (gU (cM yR (bL "rights" (ao 0)) (ak (aq 1) (ak (aq 2) au))))))))
def fQ:Mo->List Dat->aZ Dat:=mG 5 jm
def qI:SF:=
 (aD (bD (bA [2,3,4,5,6]) (gOf (aq 1)))
 (aD (tV jU (ao 0) "owner" (gOf (aq 2)))
 (aD (tV jU (ao 0) "ground" (gOf (aq 3)))
 (aD (tV jU (ao 0) "due" (gOf (aq 4)))
 (aD (tV jU (ao 0) "ear" (gOf (aq 5)))
 (tV jU (ao 0) "alive" (gOf (aq 6))))))))
def mW:Mo->List Dat->aZ Dat:=mG 7 qI
def Mu:SF:=
 (aD (bR (bx (aA cC (aA aV (ao 0) (qC (.int 0))) (qC (.str "born")))) (aD (bD (bA [1,2,3,4]) (gOf (aq 0)))
 (aR (bJ (ak (aq 3) (ak (aq 4) (ak (qC .none) (ak (qC jw) (ak (qC (.bool true)) au)))))))) aU)
 (aD (bD (bA [1,3,4,5]) (gOf (aq 0)))
 (aR (bJ (ak (aq 3) (ak (aq 4) (ak (qC .none) (ak (aq 5) (ak (qC (.bool true)) au)))))))))
def Bx:Mo->List Dat->Out Dat:=mQ 6 Mu
def jD:List (Str×MV):=[("Beast",.g 2 mW)]
def Cr:SF:=
 (aD (DY jU (ao 0) "story" (Nt (ak (aq 1) au)))
 (aD (tV jU (ao 0) "mother" (gOf (Rp (bx (aA cC (aA aV (ao 1) (qC (.int 0))) (qC (.str "born")))) (aA aV (ao 1) (qC (.int 1))) (qC (.int 0)))))
 (cD (cM jD (ao 0) (ak (aY Bx (ak (aq 1) au)) au)))))
def sS:Mo->List Dat->aZ Dat:=mG 2 Cr
def vM:SF:=
 (aD (Dh "beasts" (ao 0) (Aj "Beast" sS (ak (aq 1) au)))
 (aR (eX pB (bL "beasts" (ao 0)))))
def qp:Mo->List Dat->aZ Dat:=mG 2 vM
def jE:List (Str×MV):=[("Herd",.g 2 qp)]
def jy:SF:=
 (aD (cD (gOf (aP aC (ao 0) (ak (aq 1) au))))
 (aD (cD (gOf (aP aF (bL "grounds" (ao 0)) (ak (aq 2) au))))
 (aD (cD (gOf (aY qd (ak (aq 3) au))))
 (aD (cD (gOf (aP aN (ao 0) (ak (aq 1) (ak (aq 2) au)))))
 (gU (cM jE (bL "herd" (ao 0)) (ak (bJ (ak (qC (.str "brought")) (ak (aq 1) (ak (aq 2) (ak (aq 3) au))))) au)))))))
def fU:Mo->List Dat->aZ Dat:=mG 4 jy
def sE:SF:=
 (aD (bR (jJ (oA uZ uZ (qC (.int 1)) (ao 1) (eX pB (bL "beasts" (ao 0))))) (eG "NoBeast") aU)
 (aR (aA aV (bL "beasts" (ao 0)) (aA mK (ao 1) (qC (.int 1))))))
def j5:Mo->List Dat->Out Dat:=mQ 2 sE
def fj:List (Str×MV):=[("Herd",.q 2 j5)]
def vB:SF:=
 (aD (bD (aG 2) (gOf (aP fj (ao 0) (ak (aq 1) au))))
 (aD (bR (jJ (iD (bL "alive" (ao 2)))) (eG "Dead") aU)
 (aR (aq 2))))
def qN:Mo->List Dat->Out Dat:=mQ 3 vB
def bF:List (Str×MV):=[("Herd",.q 2 qN)]
def qL:SF:=
 (aD (bD (aG 2) (gOf (aP bF (ao 0) (ak (aq 1) au))))
 (aD (bR (bx (yd false .none (bL "due" (ao 2)))) (eG "Unmarked") aU)
 (aR (aq 2))))
def nH:Mo->List Dat->Out Dat:=mQ 3 qL
def bh:List (Str×MV):=[("Herd",.q 2 nH)]
def lZ:SF:=
 (aD (bD (aG 2) (gOf (aP bh (bL "herd" (ao 0)) (ak (aq 1) au))))
 (gU (cM jE (bL "herd" (ao 0)) (ak (bJ (ak (qC (.str "born")) (ak (aq 1) (ak (gM "owner" (ao 2)) (ak (gM "ground" (ao 2)) au))))) au))))
def iY:Mo->List Dat->aZ Dat:=mG 3 lZ
def Iw:SF:=
 (aR (eX mJ (eU (uo 0 (ao 0)) (bA [2,3]) [2,3] iJ (Rp (bx (aA cC (ao 2) (ao 1))) (aA eV (ao 3) (qC (.int 1))) (aq 3)))))
def wN:Mo->List Dat->Out Dat:=mQ 4 Iw
def JL:SF:=
 (aD (bD (bA [2,3,4,5,6]) (gOf (aq 0)))
 (aD (bD (aG 7) (gOf (aA aV (ao 1) (qC (.int 0)))))
 (aD (bR (bx (aA cC (ao 7) (qC (.str "cut")))) (Rv 4 5 (gOf (aA aV (ao 1) (qC (.int 1))))) (bR (bx (aA cC (ao 7) (qC (.str "torn")))) (bD (aG 5) (gOf (aY wN (ak (aq 5) (ak (aA aV (ao 1) (qC (.int 1))) au))))) (bR (bx (aA cC (ao 7) (qC (.str "sold")))) (aD (bD (aG 2) (gOf (aA aV (ao 1) (qC (.int 1)))))
 (Rv 4 5 (gOf (aA aV (ao 1) (qC (.int 2)))))) (bR (bx (aA cC (ao 7) (qC (.str "moved")))) (bD (aG 3) (gOf (aA aV (ao 1) (qC (.int 1))))) (bR (bx (aA cC (ao 7) (qC (.str "followed")))) (aD (bD (aG 2) (gOf (aA aV (ao 1) (qC (.int 1)))))
 (bD (aG 3) (gOf (aA aV (ao 1) (qC (.int 2)))))) (bR (bx (aA cC (ao 7) (qC (.str "passed")))) (bD (aG 2) (gOf (aA aV (ao 1) (qC (.int 1))))) (bR (bx (aA cC (ao 7) (qC (.str "died")))) (bD (aG 6) (gOf (qC (.bool false)))) aU)))))))
 (aR (bJ (ak (aq 2) (ak (aq 3) (ak (aq 4) (ak (aq 5) (ak (aq 6) au))))))))))
def zH:Mo->List Dat->Out Dat:=mQ 8 JL
def yw:SF:=
 (aD (Dh "story" (ao 0) (gOf (aq 1)))
 (cD (cM jD (ao 0) (ak (aY zH (ak (aP mj (ao 0) au) (ak (aq 1) au))) au))))
def lY:Mo->List Dat->aZ Dat:=mG 2 yw
def bM:List (Str×MV):=[("Beast",.g 2 lY)]
def nM:SF:=
 (aD (bD (aG 2) (gOf (aP bF (bL "herd" (ao 0)) (ak (aq 1) au))))
 (aD (bD (aG 3) (gOf (aY pQ (ak (gM "ear" (ao 2)) (ak (aP bU (ao 0) (ak (gM "owner" (ao 2)) (ak (gM "ground" (ao 2)) au))) au)))))
 (aD (cD (gOf (aP bV (ao 0) (ak (gM "owner" (ao 2)) (ak (aq 3) (ak (gM "ground" (ao 2)) au))))))
 (aD (cD (cM bM (ao 2) (ak (bJ (ak (qC (.str "cut")) (ak (aq 3) au))) au)))
 (aR (aq 3))))))
def jF:Mo->List Dat->aZ Dat:=mG 4 nM
def jc:SF:=
 (aD (bD (aG 3) (gOf (aP bF (bL "herd" (ao 0)) (ak (aq 1) au))))
 (aD (bR (jJ (oA uZ Qy (qC (.int 0)) (ao 2) (eX pB (qC iQ)))) (eG "NoPlace") aU)
 (aD (bR (bx (aA geD (aA aV (bL "ear" (ao 3)) (ao 2)) (qC cQ))) (eG "Deepest") aU)
 (aD (cD (cM bM (ao 3) (ak (bJ (ak (qC (.str "torn")) (ak (aq 2) au))) au)))
 (aR (gM "ear" (ao 3)))))))
def fD:Mo->List Dat->aZ Dat:=mG 4 jc
def vf:SF:=
 (aD (cD (gOf (aP fj (ao 0) (ak (aq 1) au))))
 (aR (eU (cW (aP dO (ao 0) au)) (bA [2,3]) [2,3] (jY (bx (aA cC (bL "mother" (ao 3)) (ao 1))) (bx (yd false .none (bL "due" (ao 3))))) (bJ (ak (aq 2) (ak (aq 3) au))))))
def qO:Mo->List Dat->Out Dat:=mQ 4 vf
def yq:List (Str×MV):=[("Herd",.q 2 qO)]
def qj:SF:=
 (cD (cM bM (ao 4) (ak (bJ (ak (qC (.str "followed")) (ak (gM "owner" (ao 2)) (ak (gM "ground" (ao 2)) au)))) au)))
def sJ:SF:=
 (aD (bD (aG 2) (gOf (aP fj (ao 0) (ak (aq 1) au))))
 (oU (cW (aP yq (ao 0) (ak (aq 1) au))) (bA [3,4]) qj))
def nQ:Mo->List Dat->aZ Dat:=mG 5 sJ
def iw:List (Str×MV):=[("Herd",.g 2 nQ)]
def fG:SF:=
 (aD (bD (aG 3) (gOf (aP bh (bL "herd" (ao 0)) (ak (aq 1) au))))
 (aD (cD (gOf (aP aC (ao 0) (ak (aq 2) au))))
 (aD (bR (bx (aA cC (bL "owner" (ao 3)) (ao 2))) (eG "SameOwner") aU)
 (aD (cD (gOf (aP aN (ao 0) (ak (aq 2) (ak (gM "ground" (ao 3)) au)))))
 (aD (bD (aG 4) (gOf (aY pQ (ak (gM "ear" (ao 3)) (ak (aP bU (ao 0) (ak (aq 2) (ak (gM "ground" (ao 3)) au))) au)))))
 (aD (cD (gOf (aY nR (ak (aq 2) (ak (aq 4) (ak (aP cX (ao 0) (ak (aq 1) (ak (gM "ground" (ao 3)) au))) (ak (aP cA (ao 0) (ak (gM "ground" (ao 3)) au)) au)))))))
 (aD (cD (cM bM (ao 3) (ak (bJ (ak (qC (.str "sold")) (ak (aq 2) (ak (aq 4) au)))) au)))
 (aD (cD (cM iw (bL "herd" (ao 0)) (ak (aq 1) au)))
 (aR (aq 4))))))))))
def dI:Mo->List Dat->aZ Dat:=mG 5 fG
def fH:SF:=
 (aD (bD (aG 3) (gOf (aP bh (bL "herd" (ao 0)) (ak (aq 1) au))))
 (aD (cD (gOf (aP aF (bL "grounds" (ao 0)) (ak (aq 2) au))))
 (aD (bD (aG 4) (gOf (gM "ground" (ao 3))))
 (aD (bR (bx (aA cC (ao 4) (ao 2))) (eG "SameGround") aU)
 (aD (cD (gOf (aP aN (ao 0) (ak (gM "owner" (ao 3)) (ak (aq 2) au)))))
 (aD (cD (gOf (aP bV (ao 0) (ak (gM "owner" (ao 3)) (ak (gM "due" (ao 3)) (ak (aq 2) au))))))
 (aD (cD (cM bM (ao 3) (ak (bJ (ak (qC (.str "moved")) (ak (aq 2) au))) au)))
 (aD (cD (cM iw (bL "herd" (ao 0)) (ak (aq 1) au)))
 (aR (aq 4))))))))))
def dJ:Mo->List Dat->aZ Dat:=mG 5 fH
def qR:SF:=
 (cD (cM bM (aP bF (bL "herd" (ao 0)) (ak (aq 1) au)) (ak (bJ (ak (qC (.str "died")) au)) au)))
def lB:Mo->List Dat->aZ Dat:=mG 2 qR
def Ir:SF:=
 (aD (bD (aG 2) (gOf (aY qK (ak (aq 0) au))))
 (aR (Cy (uo 0 (ao 2)) (bA [3,4]) [3,4,5] iJ (cW (M6 (ao 2) (qW (aA eV (ao 3) (qC (.int 1)))) Ab)) (aG 5) [5] (jY (bx (aA u9 (aA aV (ao 4) (qC (.int 0))) (aA aV (ao 5) (qC (.int 0))))) (iD (aY qX (ak (aA aV (ao 4) (qC (.int 1))) (ak (aA aV (ao 5) (qC (.int 1))) (ak (aq 1) au)))))) (bJ (ak (aq 4) (ak (aq 5) au))))))
def uF:Mo->List Dat->Out Dat:=mQ 6 Ir
def tK:SF:=
 (aD (bD (aG 3) (gOf (aA qD (aP cA (ao 0) (ak (aq 1) au)) (aP cA (ao 0) (ak (aq 2) au)))))
 (aR (aY uF (ak (aA eV (aP bO (ao 0) (ak (aq 1) au)) (aP bO (ao 0) (ak (aq 2) au))) (ak (aq 3) au)))))
def kE:Mo->List Dat->Out Dat:=mQ 4 tK
def rE:SF:=
 (Qh "circles" (ao 0) (aA mK (ao 3) (qC (.int 1))) (aq 2))
def uK:SF:=
 (aD (bD (aG 2) (gOf (eX mJ (ao 1))))
 (aD (oU (cW (aq 1)) (aG 3) rE)
 (aR (aq 1))))
def lG:Mo->List Dat->aZ Dat:=mG 4 uK
def gj:List (Str×MV):=[("Grounds",.g 2 lG)]
def rP:SF:=
 (aD (bD (aG 3) (gOf (aP bB (ao 0) (ak (aq 1) au))))
 (aD (bD (aG 4) (gOf (aP bB (ao 0) (ak (aq 2) au))))
 (aD (bR (bx (aA (inD false) (ao 2) (ao 3))) (eG "Together") aU)
 (gU (cM gj (ao 0) (ak (eX zA (aA eV (ao 3) (ao 4))) au))))))
def kY:Mo->List Dat->aZ Dat:=mG 5 rP
def vD:List (Str×MV):=[("Grounds",.g 3 kY)]
def fP:List (Str×MV):=[("Commons",.q 3 kE)]
def jA:SF:=
 (aD (cD (gOf (aP aF (bL "grounds" (ao 0)) (ak (aq 2) au))))
 (aD (bR (bx (aA (inD false) (ao 2) (aP bT (ao 0) (ak (aq 1) au)))) (eG "Together") aU)
 (aD (bD (aG 3) (gOf (aP fP (ao 0) (ak (aq 1) (ak (aq 2) au)))))
 (aD (bR (iD (ao 3)) (aD (bD (bA [4,5]) (gOf (aA aV (ao 3) (qC (.int 0)))))
 (BK "Clash" ["ones","others","ear"] (ak (aq 4) (ak (aq 5) (ak (aY pQ (ak (aA aV (ao 4) (qC (.int 1))) (ak (aA aV (ao 5) (qC (.int 1))) au))) au))))) aU)
 (gU (cM vD (bL "grounds" (ao 0)) (ak (aq 1) (ak (aq 2) au))))))))
def fX:Mo->List Dat->aZ Dat:=mG 6 jA
def pH:SF:=
 (aD (bD (aG 2) (gOf (eU (cW (aP bB (ao 0) (ak (aq 1) au))) (aG 3) [3] (bx (aA u9 (ao 3) (ao 1))) (aq 3))))
 (aD (bR (jJ (iD (ao 2))) (eG "Alone") aU)
 (aD (cD (cM gj (ao 0) (ak (yt (ak (aq 1) au)) au)))
 (gU (cM gj (ao 0) (ak (aq 2) au))))))
def jg:Mo->List Dat->aZ Dat:=mG 4 pH
def oJ:List (Str×MV):=[("Grounds",.g 2 jg)]
def pF:SF:=
 (gU (cM oJ (bL "grounds" (ao 0)) (ak (aq 1) au)))
def jQ:Mo->List Dat->aZ Dat:=mG 2 pF
def sW:SF:=
 (Qe jU (ao 0) "held" (qDc (Cg "held" (ao 0)) (bA [3,4,5]) [3,4,5] (bJ (ak (Rp (bx (aA cC (ao 3) (ao 1))) (aq 2) (aq 3)) (ak (aq 4) (ak (aq 5) au))))))
def nZ:Mo->List Dat->aZ Dat:=mG 6 sW
def Cv:SF:=
 (aR (eU (cW (aP dO (ao 0) au)) (bA [2,3]) [2,3] (bx (aA cC (bL "owner" (ao 3)) (ao 1))) (bJ (ak (aq 2) (ak (aq 3) au)))))
def xU:Mo->List Dat->Out Dat:=mQ 4 Cv
def Ao:List (Str×MV):=[("Herd",.q 2 xU)]
def rH:List (Str×MV):=[("Rights",.g 3 nZ)]
def rK:SF:=
 (cD (cM bM (ao 5) (ak (bJ (ak (qC (.str "passed")) (ak (aq 2) au))) au)))
def jC:SF:=
 (aD (cD (gOf (aP aC (ao 0) (ak (aq 1) au))))
 (aD (cD (gOf (aP aC (ao 0) (ak (aq 2) au))))
 (aD (bR (bx (aA cC (ao 1) (ao 2))) (eG "SameOwner") aU)
 (aD (cD (cM rH (bL "rights" (ao 0)) (ak (aq 1) (ak (aq 2) au))))
 (aD (bD (aG 3) (gOf (aP Ao (bL "herd" (ao 0)) (ak (aq 1) au))))
 (aD (oU (cW (aq 3)) (bA [4,5]) rK)
 (aD (Mr "holders" (ao 0) (aq 1))
 (aR (eU (cW (ao 3)) (bA [4,5]) [4,5] iJ (aq 4))))))))))
def fM:Mo->List Dat->aZ Dat:=mG 6 jC
def u6:SF:=
 (aD (bR (bx (aA cC (ao 0) (qC (.str "ear")))) (aR (zp (xO .tuple (ao 1)) (aY sV (ak (aq 1) au)))) aU)
 (aD (bD (aG 2) (gOf (Rp (bx (aA cC (ao 0) (qC (.str "place")))) (aA mK (eX pB (qC iQ)) (qC (.int 1))) (qC oG))))
 (aR (zp (xO .int (ao 1)) (VH (oA uZ uZ (qC (.int 0)) (ao 1) (ao 2)))))))
def iG:Mo->List Dat->Out Dat:=mQ 3 u6
def Xc:SF:=
 (aD (bR (Ef (bx (aA cC (eX pB (ao 0)) (qC (.int 0)))) (bx (TQ true (zj yP) (aA aV (ao 0) (qC (.int 0)))))) (aR (qC (.bool false))) aU)
 (aD (bD (aG 1) (gOf (abo (zj yP) (aA aV (ao 0) (qC (.int 0))))))
 (aD (bD (aG 2) (gOf (M6 (ao 0) (qW (qC (.int 1))) Ab)))
 (aR (zp (aA cC (eX pB (ao 2)) (eX pB (ao 1))) (eX N8 (eU (Hr (ao 1) (ao 2)) (bA [3,4]) [3,4] iJ (aY iG (ak (aq 3) (ak (aq 4) au))))))))))
def Fy:Mo->List Dat->Out Dat:=mQ 5 Xc
def rB:List (Str×MV):=[("Commons",.g 4 cR)]
def sO:List (Str×MV):=[("Commons",.g 3 fM)]
def wY:List (Str×MV):=[("Commons",.g 2 jQ)]
def vX:List (Str×MV):=[("Commons",.g 3 fX)]
def yG:List (Str×MV):=[("Commons",.g 2 lB)]
def xg:List (Str×MV):=[("Commons",.g 3 dJ)]
def wM:List (Str×MV):=[("Commons",.g 3 dI)]
def wz:List (Str×MV):=[("Commons",.g 3 fD)]
def yJ:List (Str×MV):=[("Commons",.g 2 jF)]
def xJ:List (Str×MV):=[("Commons",.g 2 iY)]
def vJ:List (Str×MV):=[("Commons",.g 4 fU)]
def vU:List (Str×MV):=[("Commons",.g 3 fQ)]
def vL:List (Str×MV):=[("Commons",.g 4 dR)]
def pN:List (Str×MV):=[("Commons",.g 2 gH)]
def cU:SF:=
 (aD (bR (jJ (iD (aY Fy (ak (aq 1) au)))) (eG "BadDeed") aU)
 (aD (WL 2 3 (gOf (aq 1)))
 (aD (bR (bx (aA cC (ao 2) (qC (.str "owner")))) (gU (cM gD (ao 0) au)) aU)
 (aD (bR (bx (aA cC (ao 2) (qC (.str "ground")))) (gU (cM pN (ao 0) (ak (aA aV (ao 3) (qC (.int 0))) au))) aU)
 (aD (bR (bx (aA cC (ao 2) (qC (.str "enrol")))) (gU (cM vL (ao 0) (ak (aA aV (ao 3) (qC (.int 0))) (ak (aA aV (ao 3) (qC (.int 1))) (ak (aA aV (ao 3) (qC (.int 2))) au))))) aU)
 (aD (bR (bx (aA cC (ao 2) (qC (.str "leave")))) (gU (cM vU (ao 0) (ak (aA aV (ao 3) (qC (.int 0))) (ak (aA aV (ao 3) (qC (.int 1))) au)))) aU)
 (aD (bR (bx (aA cC (ao 2) (qC (.str "bring")))) (gU (cM vJ (ao 0) (ak (aA aV (ao 3) (qC (.int 0))) (ak (aA aV (ao 3) (qC (.int 1))) (ak (aA aV (ao 3) (qC (.int 2))) au))))) aU)
 (aD (bR (bx (aA cC (ao 2) (qC (.str "bear")))) (gU (cM xJ (ao 0) (ak (aA aV (ao 3) (qC (.int 0))) au))) aU)
 (aD (bR (bx (aA cC (ao 2) (qC (.str "cut")))) (gU (cM yJ (ao 0) (ak (aA aV (ao 3) (qC (.int 0))) au))) aU)
 (aD (bR (bx (aA cC (ao 2) (qC (.str "tear")))) (gU (cM wz (ao 0) (ak (aA aV (ao 3) (qC (.int 0))) (ak (aA aV (ao 3) (qC (.int 1))) au)))) aU)
 (aD (bR (bx (aA cC (ao 2) (qC (.str "sell")))) (gU (cM wM (ao 0) (ak (aA aV (ao 3) (qC (.int 0))) (ak (aA aV (ao 3) (qC (.int 1))) au)))) aU)
 (aD (bR (bx (aA cC (ao 2) (qC (.str "move")))) (gU (cM xg (ao 0) (ak (aA aV (ao 3) (qC (.int 0))) (ak (aA aV (ao 3) (qC (.int 1))) au)))) aU)
 (aD (bR (bx (aA cC (ao 2) (qC (.str "die")))) (gU (cM yG (ao 0) (ak (aA aV (ao 3) (qC (.int 0))) au))) aU)
 (aD (bR (bx (aA cC (ao 2) (qC (.str "unite")))) (gU (cM vX (ao 0) (ak (aA aV (ao 3) (qC (.int 0))) (ak (aA aV (ao 3) (qC (.int 1))) au)))) aU)
 (aD (bR (bx (aA cC (ao 2) (qC (.str "part")))) (gU (cM wY (ao 0) (ak (aA aV (ao 3) (qC (.int 0))) au))) aU)
 (aD (bR (bx (aA cC (ao 2) (qC (.str "pass")))) (gU (cM sO (ao 0) (ak (aA aV (ao 3) (qC (.int 0))) (ak (aA aV (ao 3) (qC (.int 1))) au)))) aU)
 (gU (cM rB (ao 0) (ak (aA aV (ao 3) (qC (.int 0))) (ak (aA aV (ao 3) (qC (.int 1))) (ak (aA aV (ao 3) (qC (.int 2))) au)))))))))))))))))))))
def cP:Mo->List Dat->aZ Dat:=mG 4 cU
def qQ:List (Str×MV):=[("Commons",.g 2 cP)]
def JN:SF:=
 (aD (bD (aG 3) (gOf (qC .none)))
 (aD (Yp (bD (aG 3) (cM qQ (ao 0) (ak (aq 1) au))) [⟨"CommonError",fun x=>uf.lookup x,none,[(3,(.con .none))]⟩])
 (aD (bR (bx (yd false .none (ao 3))) (aR (aq 2)) aU)
 (aD (bD (bA [4,5,6]) (gOf (aq 2)))
 (aD (bR (Ef (bx (aA cC (aA aV (ao 1) (qC (.int 0))) (qC (.str "owner")))) (bx (aA cC (aA aV (ao 1) (qC (.int 0))) (qC (.str "heir"))))) (OD 4 (qC (.int 1))) aU)
 (aD (bR (bx (aA cC (aA aV (ao 1) (qC (.int 0))) (qC (.str "ground")))) (OD 5 (qC (.int 1))) aU)
 (aD (bR (Ef (bx (aA cC (aA aV (ao 1) (qC (.int 0))) (qC (.str "bring")))) (bx (aA cC (aA aV (ao 1) (qC (.int 0))) (qC (.str "bear"))))) (OD 6 (qC (.int 1))) aU)
 (aR (bJ (ak (aq 4) (ak (aq 5) (ak (aq 6) au))))))))))))
def qT:Mo->List Dat->aZ Dat:=mG 7 JN
def O2:SF:=
 (aD (bD (aG 5) (gOf (aA aV (bJ (ak (qC (.int 0)) (ak (qC (.int 0)) (ak (qC (.int 0)) (ak (qC (.int 0)) (ak (qC (.int 0)) (ak (qC (.int 1)) (ak (qC (.int 1)) (ak (qC (.int 2)) (ak (qC (.int 3)) (ak (eX O4 (qC (.int 1))) au))))))))))) (ao 4))))
 (HY 2 (aA qD (qC (.int 0)) (aA HX (qC (.int 9)) (aA eV (ao 3) (ao 5))))))
def Yr:SF:=
 (aD (BZ 2 (Nt au))
 (aD (oU (Hr (aq 0) (aq 1)) (bA [3,4]) O2)
 (aR (eX mJ (ao 2)))))
def KD:Mo->List Dat->Out Dat:=mQ 6 Yr
def Ln:SF:=
 (aD (bR (bx (aA Qy (ao 1) (qC (.int 4)))) (aR (aY KD (ak (aq 2) (ak (aq 0) au)))) aU)
 (aR (aY tH (ak (aq 0) (ak (aq 1) au)))))
def wg:Mo->List Dat->Out Dat:=mQ 3 Ln
def WY:SF:=
 (aD (bR (iD (ao 2)) (aR (aA eV (qC (.int 1)) (aA oR (ao 0) (aA qD (qC (.int 1)) (ao 1))))) aU)
 (aR (aA oR (ao 0) (aA eV (ao 1) (qC (.int 2))))))
def jK:Mo->List Dat->Out Dat:=mQ 3 WY
def jL:SF:=
 (aD (bD (aG 6) (gOf (aA u9 (aA aV (ao 3) (qC (.int 6))) (qC (.int 9)))))
 (aD (bD (aG 7) (gOf (aY wg (ak (M6 (ao 3) (qW (qC (.int 8))) (qW (qC (.int 14)))) (ak (aA aV (ao 3) (qC (.int 7))) (ak (aq 5) au))))))
 (aD (bR (bx (aA cC (ao 0) (qC (.str "owner")))) (aR (bJ (ak (qC (.str "owner")) au))) aU)
 (aD (bR (bx (aA cC (ao 0) (qC (.str "ground")))) (aR (bJ (ak (qC (.str "ground")) (ak (aA eV (aA aV (bJ (ak (qC (.int 0)) (ak (qC (.int 1)) (ak (qC (.int 2)) (ak (qC (.int 3)) (ak (qC (.int 0)) (ak (qC (.int 1)) (ak (qC (.int 5)) (ak (qC (.int 6)) (ak (qC (.int 7)) (ak (qC (.int 8)) au))))))))))) (aA aV (ao 3) (qC (.int 7)))) (aA Ah (qC (.int 4)) (eX intD (Qq (ao 6))))) au)))) aU)
 (aD (bR (jY (bx (aA cC (ao 0) (qC (.str "bring")))) (bx (aA Qy (aA aV (ao 3) (qC (.int 7))) (qC (.int 6))))) (bD (aG 7) (gOf (bJ (ak (qC (.int 0)) (ak (qC (.int 0)) (ak (qC (.int 0)) (ak (qC (.int 0)) (ak (qC (.int 0)) (ak (qC (.int 0)) au))))))))) aU)
 (aD (bR (Ef (bx (aA cC (ao 0) (qC (.str "enrol")))) (bx (aA cC (ao 0) (qC (.str "bring"))))) (aR (bJ (ak (aq 0) (ak (aY jK (ak (aq 1) (ak (aA aV (ao 4) (qC (.int 0))) (ak (aq 6) au)))) (ak (aY jK (ak (aq 2) (ak (aA aV (ao 4) (qC (.int 1))) (ak (aq 6) au)))) (ak (aq 7) au)))))) aU)
 (aD (bR (bx (aA cC (ao 0) (qC (.str "leave")))) (aR (bJ (ak (aq 0) (ak (aY jK (ak (aq 1) (ak (aA aV (ao 4) (qC (.int 0))) (ak (aq 6) au)))) (ak (aY jK (ak (aq 2) (ak (aA aV (ao 4) (qC (.int 1))) (ak (aq 6) au)))) au))))) aU)
 (aD (bR (bx (aA cC (ao 0) (qC (.str "heir")))) (aR (bJ (ak (aq 0) (ak (aY jK (ak (aq 1) (ak (aA aV (ao 4) (qC (.int 0))) (ak (aq 6) au)))) (ak (aY jK (ak (aq 2) (ak (aA aV (ao 4) (qC (.int 1))) (ak (aq 6) au)))) (ak (aA oR (aA aV (ao 3) (qC (.int 7))) (qC (.int 4))) au)))))) aU)
 (aD (bR (bx (aA cC (ao 0) (qC (.str "pass")))) (aR (bJ (ak (aq 0) (ak (aY jK (ak (aq 1) (ak (aA aV (ao 4) (qC (.int 0))) (ak (aq 6) au)))) (ak (aY jK (ak (aq 2) (ak (aA aV (ao 4) (qC (.int 0))) (ak (aq 6) au)))) au))))) aU)
 (aD (bR (bx (aA cC (ao 0) (qC (.str "unite")))) (aR (bJ (ak (aq 0) (ak (aY jK (ak (aq 1) (ak (aA aV (ao 4) (qC (.int 1))) (ak (aq 6) au)))) (ak (aY jK (ak (aq 2) (ak (aA aV (ao 4) (qC (.int 1))) (ak (aq 6) au)))) au))))) aU)
 (aD (bR (bx (aA cC (ao 0) (qC (.str "part")))) (aR (bJ (ak (aq 0) (ak (aY jK (ak (aq 1) (ak (aA aV (ao 4) (qC (.int 1))) (ak (aq 6) au)))) au)))) aU)
 (aD (bR (bx (aA cC (ao 0) (qC (.str "tear")))) (aR (bJ (ak (aq 0) (ak (aY jK (ak (aq 1) (ak (aA aV (ao 4) (qC (.int 2))) (ak (aq 6) au)))) (ak (aA oR (aA aV (ao 3) (qC (.int 7))) (qC (.int 6))) au))))) aU)
 (aD (bR (bx (aA cC (ao 0) (qC (.str "sell")))) (aR (bJ (ak (aq 0) (ak (aY jK (ak (aq 1) (ak (aA aV (ao 4) (qC (.int 2))) (ak (aq 6) au)))) (ak (aY jK (ak (aq 2) (ak (aA aV (ao 4) (qC (.int 0))) (ak (aq 6) au)))) au))))) aU)
 (aD (bR (bx (aA cC (ao 0) (qC (.str "move")))) (aR (bJ (ak (aq 0) (ak (aY jK (ak (aq 1) (ak (aA aV (ao 4) (qC (.int 2))) (ak (aq 6) au)))) (ak (aY jK (ak (aq 2) (ak (aA aV (ao 4) (qC (.int 1))) (ak (aq 6) au)))) au))))) aU)
 (aR (bJ (ak (aq 0) (ak (aY jK (ak (aq 1) (ak (aA aV (ao 4) (qC (.int 2))) (ak (aq 6) au)))) au))))))))))))))))))
def gq:Mo->List Dat->Out Dat:=mQ 8 jL
def HJ:SF:=
 (aD (bD (aG 3) (Ho qT (ak (aq 0) (ak (bJ (ak (qC (.str "bring")) (ak (qC (.int 1)) (ak (qC (.int 1)) (ak (bJ (ak (qC (.int 0)) (ak (qC (.int 0)) (ak (qC (.int 0)) (ak (qC (.int 0)) (ak (qC (.int 0)) (ak (qC (.int 0)) au))))))) au))))) (ak (aq 3) au)))))
 (bD (aG 3) (Ho qT (ak (aq 0) (ak (bJ (ak (qC (.str "cut")) (ak (aA aV (ao 3) (qC (.int 2))) au))) (ak (aq 3) au))))))
def Cd:SF:=
 (aD (bD (aG 8) (gOf (aY Bp (ak (aq 7) (ak (qC (.int 14)) (ak (qC (.int 10)) au))))))
 (aD (bD (aG 9) (gOf (aY zE (ak (aA eV (aA Ah (aA aV (ao 8) (qC (.int 0))) (qC (.int 10))) (aA aV (ao 8) (qC (.int 1)))) au))))
 (aD (bD (aG 10) (gOf (aA eV (aA Ah (aA aV (ao 8) (qC (.int 2))) (qC (.int 10))) (aA aV (ao 8) (qC (.int 3))))))
 (aD (bD (aG 11) (gOf (aA eV (aA Ah (aA aV (ao 8) (qC (.int 4))) (qC (.int 10))) (aA aV (ao 8) (qC (.int 5))))))
 (aD (bR (bx (aA Qy (ao 6) (eX pB (ao 5)))) (bD (bA [9,10,11]) (gOf (aA aV (ao 5) (ao 6)))) aU)
 (bD (aG 3) (Ho qT (ak (aq 0) (ak (aY gq (ak (aq 9) (ak (aq 10) (ak (aq 11) (ak (aq 8) (ak (aq 3) (ak (aq 4) au))))))) (ak (aq 3) au))))))))))
def QJ:SF:=
 (aD (bD (aG 3) (gOf (bJ (ak (qC (.int 0)) (ak (qC (.int 0)) (ak (qC (.int 0)) au))))))
 (aD (bD (aG 4) (gOf (aY Qn (ak (aA Iu (ao 2) (qC (.int 512))) au))))
 (aD (bD (aG 5) (gOf (aY u5 (ak (aq 2) au))))
 (aD (oU (uo 0 (aq 1)) (bA [6,7]) Cd)
 (aD (bR (bx (aA cC (aA oR (aA Iu (ao 2) (qC (.int 8))) (qC (.int 8))) (qC (.int 1)))) (oU (BJ (aA Ah (aA oR (aA Iu (ao 2) (qC (.int 64))) (qC (.int 8))) (qC (.int 4)))) (aG 12) HJ) aU)
 (aR (aq 3)))))))
def Gj:Mo->List Dat->aZ Dat:=mG 13 QJ
def XR:SF:=
 (aD (bR (bx (aA Qy (ao 1) (eX pB (ao 0)))) (aR (aA aV (ao 0) (ao 1))) aU)
 (aR (qC (.int 0))))
def FJ:Mo->List Dat->Out Dat:=mQ 2 XR
def Uk:SF:=
 (aR (zp (xO .int (ao 0)) (Qq (xO .bool (ao 0)))))
def Fp:Mo->List Dat->Out Dat:=mQ 1 Uk
def Og(r:Mo->List Dat->Out Dat):SF:=
 (bR (jJ (iD (aY r (ak (aq 2) (ak (aq 3) au))))) (aR (qC (.bool false))) aU)
def Fb(r:Mo->List Dat->Out Dat):SF:=
 (aD (bR (bx (yd false .none (ao 1))) (aR (yd false .none (ao 0))) aU)
 (aD (bR (bx (yd false (.bool true) (ao 1))) (aR (yd false (.bool true) (ao 0))) aU)
 (aD (bR (bx (yd false (.bool false) (ao 1))) (aR (yd false (.bool false) (ao 0))) aU)
 (aD (bR (iD (xO .int (ao 1))) (aR (zp (aY Fp (ak (aq 0) au)) (aA cC (ao 0) (ao 1)))) aU)
 (aD (bR (iD (xO .str (ao 1))) (aR (zp (xO .str (ao 0)) (aA cC (ao 0) (ao 1)))) aU)
 (aD (bR (jY (iD (xO .tuple (ao 1))) (jJ (iD (xO .tuple (ao 0))))) (aR (qC (.bool false))) aU)
 (aD (bR (jY (iD (xO .list (ao 1))) (jJ (iD (xO .list (ao 0))))) (aR (qC (.bool false))) aU)
 (aD (bR (bx (aA u9 (eX pB (ao 0)) (eX pB (ao 1)))) (aR (qC (.bool false))) aU)
 (aD (oU (Hr (aq 0) (aq 1)) (bA [2,3]) (Og r))
 (aR (qC (.bool true))))))))))))
def mF:Nat->Mo->List Dat->Out Dat
 |0=>fun _ _=>.bad
 |n+1=>mQ 4 (Fb (mF n))
def yK:SF:=
 (bR (Ef (bx (aA cC (ao 1) (yt au))) (bx (aA u9 (aA aV (ao 1) (eX O4 (qC (.int 1)))) (ao 2)))) (HY 1 (aq 2)) aU)
def YT:SF:=
 (aD (BZ 1 (Nt au))
 (aD (oU (cW (eX zA (ao 0))) (aG 2) yK)
 (aR (aq 1))))
def Kw:Mo->List Dat->Out Dat:=mQ 3 YT
def lW:SF:=
 (bR (jY (iD (aA aV (ao 5) (qC (.int 4)))) (jY (bx (yd true .none (aA aV (ao 5) (qC (.int 2))))) (jY (bx (aA (inD false) (aA aV (ao 5) (qC (.int 1))) (ao 1))) (bx (aA u9 (aA eV (ao 4) (qC (.int 1))) (ao 2)))))) (HY 3 (bJ (ak (aA aV (ao 5) (qC (.int 0))) (ak (aA aV (ao 5) (qC (.int 2))) au)))) aU)
def KN:SF:=
 (aD (BZ 3 (Ad (cW (aA aV (ao 0) (qC (.int 2)))) (bA [6,7,8]) [6,7,8] (bx (aA (inD false) (ao 7) (ao 1))) (bJ (ak (aq 6) (ak (aq 8) au)))))
 (aD (oU (uo 0 (aA aV (ao 0) (qC (.int 3)))) (bA [4,5]) lW)
 (aR (aY Kw (ak (aq 3) au)))))
def pZ:Mo->List Dat->Out Dat:=mQ 9 KN
def Ko:SF:=
 (aR (eX maxD (eU (cW (aA aV (aA aV (aA aV (ao 0) (qC (.int 1))) (aA mK (ao 1) (qC (.int 1)))) (qC (.int 1)))) (aG 2) [2] iJ (aA aV (aA aV (aA aV (ao 0) (qC (.int 1))) (aA mK (ao 2) (qC (.int 1)))) (qC (.int 0))))))
def zV:Mo->List Dat->Out Dat:=mQ 3 Ko
def R9:SF:=
 (aR (eX Ue (eU (Hr (ao 0) (ao 1)) (bA [2,3]) [2,3] iJ (aA qD (qC (.int 0)) (aA mK (ao 3) (ao 2))))))
def BL:Mo->List Dat->Out Dat:=mQ 4 R9
def abd:SF:=
 (aR (aA qD (aY BL (ak (aq 0) (ak (aq 1) au))) (aY BL (ak (aq 1) (ak (aq 0) au)))))
def Pu:Mo->List Dat->Out Dat:=mQ 2 abd
def CT:SF:=
 (bR (jY (bx (aA u9 (aA aV (ao 5) (qC (.int 0))) (aA aV (ao 6) (qC (.int 0))))) (bx (aA uZ (aY Pu (ak (aA aV (ao 5) (qC (.int 1))) (ak (aA aV (ao 6) (qC (.int 1))) au))) (ao 3)))) (aR (qC (.bool false))) aU)
def Hl:SF:=
 (oU (cW (M6 (ao 2) (qW (aA eV (ao 4) (qC (.int 1)))) Ab)) (aG 6) CT)
def YK:SF:=
 (aD (bD (aG 2) (gOf (aY pZ (ak (aq 0) (ak (aA aV (aA aV (aA aV (ao 0) (qC (.int 1))) (aA mK (ao 1) (qC (.int 1)))) (qC (.int 1))) (ak (qC (.int 0)) au))))))
 (aD (bD (aG 3) (gOf (aY zV (ak (aq 0) (ak (aq 1) au)))))
 (aD (oU (uo 0 (aq 2)) (bA [4,5]) Hl)
 (aR (qC (.bool true))))))
def Kr:Mo->List Dat->Out Dat:=mQ 7 YK
def xP:List (Str×MV):=[("Commons",.q 1 pC)]
def Fe:SF:=
 (bR (bx (aA cC (aA aV (aA aV (ao 4) (qC (.int 1))) (qC (.int 0))) (aA eV (ao 3) (qC (.int 1))))) (aD (bR (Ef (jJ (iD (aY Kr (ak (aq 2) (ak (aA eV (ao 3) (qC (.int 1))) au))))) (jJ (iD (aY (mF 10) (ak (aP fP (ao 1) (ak (aA eV (ao 3) (qC (.int 1))) (ak (aA eV (ao 3) (qC (.int 1))) au))) (ak (yt au) au)))))) (aR (qC (.bool false))) aU)
 (bR (jJ (iD (aY (mF 10) (ak (aP bO (ao 1) (ak (aA eV (ao 3) (qC (.int 1))) au)) (ak (aY pZ (ak (aq 2) (ak (aA aV (ao 4) (qC (.int 1))) (ak (qC (.int 0)) au)))) au))))) (aR (qC (.bool false))) aU)) aU)
def abq:SF:=
 (aD (bD (aG 1) (Aj "Commons" o9 au))
 (aD (cD (Ho Gj (ak (aq 1) (ak (M6 (ao 0) (qW (qC (.int 1))) (qW (qC (.int 44)))) (ak (eX Uh (aY FJ (ak (aq 0) (ak (qC (.int 0)) au)))) au)))))
 (aD (bD (aG 2) (gOf (aP xP (ao 1) au)))
 (aD (oU (uo 0 (aA aV (ao 2) (qC (.int 1)))) (bA [3,4]) Fe)
 (aR (qC (.bool true)))))))
def W4:Mo->List Dat->aZ Dat:=mG 5 abq
theorem Wq:FnScope ["self","ones","others","ear"] ["self","ones","others","ear"] (defScope Ku):=⟨rfl,rfl,rfl,by decide +kernel,rfl,by decide +kernel,by decide +kernel⟩
abbrev rX(N:List Str)(s:Stmt)(G:List (Str×GV))(B:List Str)(Ms:List (Str×List (Str×MV)))(ml:List Str):Option SF:=rd ⟨N,defScope s,G,B,⟨Ms,jU,xmH,dfH,Vz⟩,ml,true⟩ (defBody s)
abbrev rY(N:List Str)(s:Stmt)(G:List (Str×GV))(B:List Str)(Ms:List (Str×List (Str×MV)))(ml:List Str):Option SF:=rdG ⟨N,defScope s,G,B,⟨Ms,jU,xmH,dfH,Vz⟩,ml,true⟩ (defBody s)
theorem ahE:FnScope ["_law_found","_law_due","_law_one","_law_other"] ["_law_found","_law_due"] (defScope QD):=⟨rfl,rfl,rfl,by decide +kernel,rfl,by decide +kernel,by decide +kernel⟩
theorem ajC:FnScope ["_law_script","_law_house","_law_stand","_law_at","_law_row_here"] ["_law_script"] (defScope Ls):=⟨rfl,rfl,rfl,by decide +kernel,rfl,by decide +kernel,by decide +kernel⟩
theorem Uj:rY ["self"] FP [] [] [] []=some yj:=by kernel_rfl
theorem Ws:rY ["self"] Jv [] [] [] []=some Ak:=by kernel_rfl
theorem ZS:rY ["self"] Nh [] [] [] []=some Ek:=by kernel_rfl
theorem Tq:rY ["self"] Ep [("Herd",.cls 0 zq),("Rights",.cls 0 vA),("Grounds",.cls 0 tR)] [] [] []=some yH:=by kernel_rfl
theorem V7:rX ["self"] Jq [] [] [] []=some Ai:=by kernel_rfl
theorem Y0:rX ["self"] K7 [] ["tuple"] [("stand",mj)] []=some CG:=by kernel_rfl
theorem Ow:rX ["self"] CN [] ["list"] [] []=some vH:=by kernel_rfl
theorem MK:rX ["self"] Bf [] ["list"] [] []=some uJ:=by kernel_rfl
theorem SN:rX ["self"] Fv [] ["len"] [] []=some tZ:=by kernel_rfl
theorem Wt:rX ["self","ground"] Jk [] [] [("many",eO)] []=some Ay:=by kernel_rfl
theorem Tv:rX ["self","ground"] FZ [("NoGround",.exc)] [] [("has",yQ)] []=some yr:=by kernel_rfl
theorem Jx:rX ["self","ground"] yh [] [] [("need",aF)] []=some mX:=by kernel_rfl
theorem K9:rX ["self","ground"] zW [] ["list"] [("need",aF)] []=some ou:=by kernel_rfl
theorem JM:rX ["self","ground"] zK [] [] [("together",bB)] []=some oK:=by kernel_rfl
theorem Tg:rX ["self","grounds","beasts","ground","beast"] Gy [] ["range","tuple"] [("all_rows",tL),("owners",uN),("told",vC),("many",eO),("together",bT),("allowance",dX)] []=some yO:=by kernel_rfl
theorem alB:rX ["_law_cell_here","_law_many","_law_base","_law_found","_law_k","_law_turn"] s_row [] ["range","abs"] [] ["_law_found"]=some abA:=by kernel_rfl
theorem aeA:rX ["_law_figures","_law_mode","_law_figure"] XS [] ["tuple","max"] [] []=some Pb:=by kernel_rfl
theorem ald:rX ["_law_cell_here","_law_figures"] afC [("_law_ear_by",.fq 2 tH),("_law_row",.fq 3 Bp)] [] [] []=some abK:=by kernel_rfl
theorem ZF:rX ["_law_head","_law_rows"] M7 [] [] [] []=some Ea:=by kernel_rfl
theorem acv:rX ["_law_figure","_law_some"] V2 [] [] [] []=some Km:=by kernel_rfl
theorem Hq:rX ["self","owner"] wV [("NoOwner",.exc)] [] [] []=some lU:=by kernel_rfl
theorem Uq:rX ["self","owner","ground","holder","where","mark"] Gx [] [] [] []=some yC:=by kernel_rfl
theorem Lq:rX ["self","owner","ground"] zN [] ["len"] [("marks",cH)] []=some tD:=by kernel_rfl
theorem Ij:rX ["self","owner","ground"] wu [("NoRight",.exc)] [] [("has_right",rM)] []=some qm:=by kernel_rfl
theorem Jy:rY ["self"] xX [] [] [] []=some rJ:=by kernel_rfl
theorem Lh:rY ["self","owner","ground","mark","row"] zG [("HasRight",.exc)] [] [] []=some oF:=by kernel_rfl
theorem aj5:rX ["ear","many","heads","depth","head","left","cut"] acM [("GREATEST_DEPTH",.con cQ)] ["range","min"] [] []=some YG:=by kernel_rfl
theorem ahf:rX ["one","other","here","there"] aam [] ["sum","zip"] [] []=some Tf:=by kernel_rfl
theorem ZV:rX ["mark","extra","ear"] Nb [("lacks",.fq 2 uh),("torn",.fq 2 KY)] [] [] []=some Ec:=by kernel_rfl
theorem agx:rX ["one","other"] aaI [("lacks",.fq 2 uh)] ["max"] [] []=some RW:=by kernel_rfl
theorem akd:rX ["one","other","room"] adX [("apart",.fq 2 Gm)] [] [] []=some Yl:=by kernel_rfl
theorem Y6:rX ["mark","extra","rows","room","ear","owner","taken"] JR [("NoneFree",.exc),("offspring",.fq 2 uQ),("meet",.fq 3 qX)] ["any"] [] []=some wC:=by kernel_rfl
theorem Iz:rX ["self","owner","ground"] wJ [] [] [("marks",cH)] []=some qu:=by kernel_rfl
theorem afo:rX ["rows"] YF [] ["sorted","set"] [] []=some NT:=by kernel_rfl
theorem MF:rX ["self","number","beast"] Bc [] ["enumerate"] [] []=some uM:=by kernel_rfl
theorem Ua:rX ["self","grounds","number","beast"] GZ [] [] [("all_living",dO)] []=some yx:=by kernel_rfl
theorem Jz:rX ["self","grounds","owner","ground","mark"] xZ [] [] [] []=some rC:=by kernel_rfl
theorem Ei:rX ["self","left_out","ground","near","due","number","beast"] uP [("tidied",.fq 1 qK)] [] [("in_grounds",qw),("grazing",ji),("together",bT)] []=some jX:=by kernel_rfl
theorem Lk:rX ["self","ground"] zU [] [] [("standing_but",cX)] []=some oE:=by kernel_rfl
theorem R8:rX ["self","ground","near"] Ey [] ["max"] [("together",bB),("allowance",dX)] []=some uD:=by kernel_rfl
theorem Tp:rX ["self","ground"] Gp [] [] [("room",rW)] []=some ug:=by kernel_rfl
theorem Ke:rY ["self","elder","ground","extra","mark","heir"] Aa [("first_free",.fq 4 pA),("BadExtra",.exc),("FEWEST_EXTRA",.con iV),("MOST_EXTRA",.con j8)] [] [("add_right",ig),("new_owner",gD),("room",cA),("standing",bO),("first_mark",bU),("need_right",aN),("need",aF),("need_owner",aC)] []=some dW:=by kernel_rfl
theorem Io:rY ["self","allowance"] xQ [("BadAllowance",.exc),("GREATEST_ALLOWANCE",.con gK)] [] [("many",eO)] []=some jB:=by kernel_rfl
theorem Hj:rY ["self","allowance"] wO [] [] [("add_ground",lg)] []=some lK:=by kernel_rfl
theorem ac2:rX ["owner","ear","rows","room","holder","mark"] V3 [("meet",.fq 3 qX),("tidied",.fq 1 qK)] [] [] []=some J5:=by kernel_rfl
theorem agF:rX ["one","other","here","there"] aaB [] ["tuple","zip","max"] [] []=some Ud:=by kernel_rfl
theorem aa7:rX ["owner","ear","rows","room","bars","holder","mark"] QK [("Clash",.exi ["ones","others","ear"]),("joint",.fq 2 pQ),("barring",.fq 4 Ac)] [] [] []=some Bl:=by kernel_rfl
theorem Im:rX ["self","owner","ear","ground"] wL [("ask_room",.fq 4 nR)] [] [("room",cA),("standing",bO)] []=some lV:=by kernel_rfl
theorem afm:rX ["parts","depth"] Zw [("GREATEST_DEPTH",.con cQ),("PLACES",.con iQ)] ["all","len"] [] []=some Ie:=by kernel_rfl
theorem abY:rX ["parts"] Py [("BadEar",.exc),("is_ear",.fq 1 sV)] [] [] []=some Hg:=by kernel_rfl
theorem Q6:rY ["self","owner","ground","mark"] Dz [("HasRight",.exc),("Bare",.exc),("BARE_EAR",.con jw),("need_ear",.fq 1 qd)] [] [("add_right",ig),("ask_ground",bV),("marks",cH),("need",aF),("need_owner",aC)] []=some fW:=by kernel_rfl
theorem Wg:rY ["self","owner","ground","gone","mark"] Jo [("NoRight",.exc)] [] [("marks",cH)] []=some vm:=by kernel_rfl
theorem Ru:rY ["self","owner","ground","number","beast"] Dk [("StillThere",.exc)] ["any"] [("drop",yR),("grazing",ji),("need_right",aN),("need",aF),("need_owner",aC)] []=some jm:=by kernel_rfl
theorem NK:rY ["self","stand","owner","ground","due","ear","alive"] BX [] [] [] []=some qI:=by kernel_rfl
theorem agA:rX ["first","word","mother","owner","ground","ear"] aao [("BARE_EAR",.con jw)] [] [] []=some Mu:=by kernel_rfl
theorem Yw:rY ["self","first"] K6 [("begun",.fq 1 Bx)] [] [("stand_so",jD)] []=some Cr:=by kernel_rfl
theorem Nz:rY ["self","first"] Ce [("Beast",.cls 1 sS)] ["len"] [] []=some vM:=by kernel_rfl
theorem Rq:rY ["self","owner","ground","ear"] DQ [("need_ear",.fq 1 qd)] [] [("add_beast",jE),("need_right",aN),("need",aF),("need_owner",aC)] []=some jy:=by kernel_rfl
theorem Yd:rX ["self","number"] KC [("NoBeast",.exc)] ["len"] [] []=some sE:=by kernel_rfl
theorem Wh:rX ["self","number","beast"] Jh [("Dead",.exc)] [] [("known",fj)] []=some vB:=by kernel_rfl
theorem V9:rX ["self","number","beast"] Jt [("Unmarked",.exc)] [] [("living",bF)] []=some qL:=by kernel_rfl
theorem R3:rY ["self","mother","cow"] Fl [] [] [("add_beast",jE),("marked",bh)] []=some lZ:=by kernel_rfl
theorem aa8:rX ["ear","place","at","depth"] QX [] ["tuple","enumerate"] [] []=some Iw:=by kernel_rfl
theorem ab3:rX ["stand","event","owner","ground","due","ear","alive","word"] V1 [("deepened",.fq 2 wN)] [] [] []=some JL:=by kernel_rfl
theorem Ur:rY ["self","event"] Eu [("gone_on",.fq 2 zH)] [] [("stand_so",jD),("stand",mj)] []=some yw:=by kernel_rfl
theorem Ww:rY ["self","beast","found","due"] Jf [("joint",.fq 2 pQ)] [] [("befall",bM),("ask_ground",bV),("first_mark",bU),("living",bF)] []=some nM:=by kernel_rfl
theorem TJ:rY ["self","beast","place","found"] GD [("Deepest",.exc),("GREATEST_DEPTH",.con cQ),("NoPlace",.exc),("PLACES",.con iQ)] ["len"] [("befall",bM),("living",bF)] []=some jc:=by kernel_rfl
theorem Wz:rX ["self","mother","number","beast"] Ju [] [] [("all_living",dO),("known",fj)] []=some vf:=by kernel_rfl
theorem JW:rY ["self","mother","beast","number","calf"] zX [] [] [("calves",yq),("befall",bM),("known",fj)] []=some sJ:=by kernel_rfl
theorem Um:rY ["self","beast","buyer","found","due"] Fq [("ask_room",.fq 4 nR),("joint",.fq 2 pQ),("SameOwner",.exc)] [] [("lead_calves",iw),("befall",bM),("room",cA),("standing_but",cX),("first_mark",bU),("need_right",aN),("need_owner",aC),("marked",bh)] []=some fG:=by kernel_rfl
theorem Ui:rY ["self","beast","ground","found","left"] GX [("SameGround",.exc)] [] [("lead_calves",iw),("befall",bM),("ask_ground",bV),("need_right",aN),("need",aF),("marked",bh)] []=some fH:=by kernel_rfl
theorem Wi:rY ["self","beast"] Ji [] [] [("befall",bM),("living",bF)] []=some qR:=by kernel_rfl
theorem abb:rX ["rows","room","tidy","at","row","greater"] Ri [("meet",.fq 3 qX),("tidied",.fq 1 qK)] ["enumerate"] [] []=some Ir:=by kernel_rfl
theorem J9:rX ["self","ground","other","room"] zB [("clashing",.fq 2 uF)] ["max"] [("standing",bO),("room",cA)] []=some tK:=by kernel_rfl
theorem MN:rY ["self","grounds","circle","ground"] Az [] ["tuple"] [] []=some uK:=by kernel_rfl
theorem Qz:rY ["self","ground","other","ones","others"] Dy [("Together",.exc)] ["sorted"] [("enclose",gj),("together",bB)] []=some rP:=by kernel_rfl
theorem Qv:rY ["self","ground","other","pairs","row","greater"] Dd [("Clash",.exi ["ones","others","ear"]),("joint",.fq 2 pQ),("Together",.exc)] [] [("unite",vD),("quarrels",fP),("together",bT),("need",aF)] []=some jA:=by kernel_rfl
theorem T6:rY ["self","ground","left","near"] FW [("Alone",.exc)] [] [("enclose",gj),("together",bB)] []=some pH:=by kernel_rfl
theorem Uo:rY ["self","ground"] Fo [] [] [("part",oJ)] []=some pF:=by kernel_rfl
theorem Kv:rY ["self","elder","heir","owner","ground","mark"] zM [] [] [] []=some sW:=by kernel_rfl
theorem YS:rX ["self","owner","number","beast"] Lj [] [] [("all_living",dO)] []=some Cv:=by kernel_rfl
theorem M5:rY ["self","elder","heir","passed","number","beast"] Bj [("SameOwner",.exc)] [] [("befall",bM),("owned",Ao),("hand_over",rH),("need_owner",aC)] []=some jC:=by kernel_rfl
theorem ZP:rX ["kind","part","greatest"] Np [("PLACES",.con iQ),("GREATEST_PART",.con oG),("is_ear",.fq 1 sV)] ["isinstance","int","len","tuple"] [] []=some u6:=by kernel_rfl
theorem aja:rX ["deed","shape","parts","kind","part"] acq [("part_fits",.fq 2 iG),("SHAPES",.dic (zj yP))] ["all","zip","len"] [] []=some Xc:=by kernel_rfl
theorem Xq:rY ["self","deed","word","parts"] Lp [("BadDeed",.exc),("fits",.fq 1 Fy)] [] [("new_heir",rB),("pass_on",sO),("part",wY),("unite",vX),("die",yG),("move",xg),("sell",wM),("tear",wz),("cut",yJ),("bear",xJ),("bring",vJ),("leave",vU),("enrol",vL),("new_ground",pN),("new_owner",gD)] []=some cU:=by kernel_rfl
theorem aiS:rY ["_law_house","_law_deed_here","_law_counts","_law_told","_law_owners","_law_grounds","_law_beasts"] acE [("CommonError",.exc)] [] [("do",qQ)] []=some JN:=by kernel_rfl
theorem ajw:rX ["_law_ear_here","_law_figures","_law_found","_law_depth","_law_figure","_law_more"] acI [] ["tuple","zip","max","min"] [] ["_law_found"]=some Yr:=by kernel_rfl
theorem adz:rX ["_law_figures","_law_mode","_law_base"] VF [("_law_ear_by",.fq 2 tH),("_law_near",.fq 2 KD)] [] [] []=some Ln:=by kernel_rfl
theorem alc:rX ["_law_figure","_law_many","_law_sure"] afQ [] ["max"] [] []=some WY:=by kernel_rfl
theorem ajy:rX ["_law_word","_law_one","_law_two","_law_parts","_law_counts","_law_base","_law_sure","_law_mark"] acW [("_law_ref",.fq 3 jK),("_law_mark_by",.fq 3 wg)] ["int"] [] []=some jL:=by kernel_rfl
theorem ahU:rY ["_law_house","_law_cells","_law_head","_law_counts","_law_base","_law_begun_here","_law_at","_law_cell_here","_law_parts","_law_word","_law_one","_law_two","_law_k"] abZ [("_law_done",.fg 3 qT),("_law_deed",.fq 6 gq),("_law_word_by",.fq 1 zE),("_law_row",.fq 3 Bp),("_law_begun",.fq 1 u5),("_law_ear",.fq 1 Qn)] ["range","enumerate","len"] [] []=some QJ:=by kernel_rfl
theorem aj7:rX ["_law_script","_law_k"] aea [] ["len"] [] []=some XR:=by kernel_rfl
theorem afX:rX ["_law_found"] aaw [] ["isinstance","bool","int"] [] []=some Uk:=by kernel_rfl
theorem ahK(r:Mo->List Dat->Out Dat):rd ⟨["_law_found","_law_due","_law_one","_law_other"],defScope QD,[("_law_like",.fq 2 r),("_law_whole",.fq 1 Fp)],["zip","len","isinstance","list","tuple","str","int"],⟨[],jU,xmH,dfH,Vz⟩,[],true⟩ (defBody QD)=some (Fb r):=by kernel_rfl
theorem ajL:rX ["_law_rows","_law_found","_law_row_here"] adx [] ["sorted"] [] ["_law_found"]=some YT:=by kernel_rfl
theorem adp:rX ["_law_stand","_law_grounds","_law_but","_law_rows","_law_at","_law_beast","_law_owner","_law_ground","_law_mark"] Vj [("_law_once",.fq 1 Kw)] ["enumerate"] [] ["_law_rows"]=some KN:=by kernel_rfl
theorem adi:rX ["_law_stand","_law_ground","_law_one"] Vf [] ["max"] [] []=some Ko:=by kernel_rfl
theorem ag1:rX ["_law_one","_law_other","_law_a","_law_b"] aay [] ["sum","zip","max"] [] []=some R9:=by kernel_rfl
theorem alj:rX ["_law_one","_law_other"] aft [("_law_tears",.fq 2 BL)] ["max"] [] []=some abd:=by kernel_rfl
theorem aif:rX ["_law_stand","_law_ground","_law_rows","_law_space","_law_at","_law_one","_law_other"] ab1 [("_law_far",.fq 2 Pu),("_law_room_of",.fq 2 zV),("_law_rows_of",.fq 3 pZ)] ["enumerate"] [] []=some YK:=by kernel_rfl
theorem akU:rY ["_law_script","_law_house","_law_stand","_law_at","_law_row_here"] Ls [("_law_like",.fq 2 (mF 10)),("_law_rows_of",.fq 3 pZ),("_law_fine",.fq 2 Kr),("_law_play",.fg 3 Gj),("_law_cell",.fq 2 FJ),("Commons",.cls 0 o9)] ["enumerate","abs"] [("standing",bO),("quarrels",fP),("look",xP)] []=some abq:=by kernel_rfl
structure Top(w:World)(K:aqf)(mg:Str->Option Value):Prop where
 ex:∃h:Heap,K.In h/\h.Ns mainGlobals mg
 c:Ly fa fn tbs exB w K
abbrev aj(w:World)(K:aqf):aQ:=oH w K xsH jU
section
variable{P:Program}{w:World}{K:aqf}{mg:Str->Option Value}{base:Heap}{k:Nat}(T:Top w K mg)
include T
theorem Top.glo(i:Nat){x:Str}(h:fa[i]?=some (.glo x):=by rfl):mg x=some (.ref (He.ga K x)):=by
 obtain⟨_,X,G⟩:=T.ex
 exact He.glo_ok X G (T.c.oV i h)
theorem Top.free(i:Nat){x:Str}(h:fa[i]?=some (.free x):=by rfl):mg x=none:=by
 obtain⟨_,X,G⟩:=T.ex
 exact He.free_ok X G (T.c.oV i h)
theorem Top.int(i:Nat){x:Str}{j:Int}(h:fa[i]?=some (.int x j):=by rfl):∃t,mg x=some (.int j t):=by
 obtain⟨_,X,G⟩:=T.ex
 exact He.int_ok X G (T.c.oV i h)
theorem Top.str(i:Nat){x j:Str}(h:fa[i]?=some (.str x j):=by rfl):∃t,mg x=some (.str j t):=by
 obtain⟨_,X,G⟩:=T.ex
 exact He.str_ok X G (T.c.oV i h)
theorem vP:bf P w K mg base (aj w K) k "GREATEST_DEPTH" (.con cQ):=by
 obtain⟨t,h⟩:=T.int 150
 exact J8 h
theorem TX:bf P w K mg base (aj w K) k "FEWEST_EXTRA" (.con iV):=by
 obtain⟨t,h⟩:=T.int 151
 exact J8 h
theorem Zu:bf P w K mg base (aj w K) k "MOST_EXTRA" (.con j8):=by
 obtain⟨t,h⟩:=T.int 152
 exact J8 h
theorem Ja:bf P w K mg base (aj w K) k "GREATEST_ALLOWANCE" (.con gK):=by
 obtain⟨t,h⟩:=T.int 153
 exact J8 h
theorem Oi:bf P w K mg base (aj w K) k "PLACES" (.con iQ):=acR (T.glo 154) (fun H=>He.tupB_ok (He.ba (He.ba T.c.more).1).2 H) rfl rfl
theorem Ql:bf P w K mg base (aj w K) k "BARE_EAR" (.con jw):=acR (T.glo 155) (fun H=>He.tupB_ok (He.ba T.c.more).2 H) rfl rfl
theorem Qm:bf P w K mg base (aj w K) k "GREATEST_PART" (.con oG):=by
 obtain⟨t,h⟩:=T.int 156
 exact J8 h
theorem afb:bf P w K mg base (aj w K) k "SHAPES" (.dic (zj yP)):=aki (T.glo 149) (He.ba (He.ba (He.ba T.c.more).1).1).2 (T.c.t.tab 0)
theorem abL:bf P w K mg base (aj w K) k "NoGround" .exc:=iH (by rfl) (T.glo 106) (T.c.oV 107)
theorem acg:bf P w K mg base (aj w K) k "NoOwner" .exc:=iH (by rfl) (T.glo 108) (T.c.oV 109)
theorem UL:bf P w K mg base (aj w K) k "NoRight" .exc:=iH (by rfl) (T.glo 110) (T.c.oV 111)
theorem PL:bf P w K mg base (aj w K) k "HasRight" .exc:=iH (by rfl) (T.glo 112) (T.c.oV 113)
theorem aa9:bf P w K mg base (aj w K) k "NoneFree" .exc:=iH (by rfl) (T.glo 114) (T.c.oV 115)
theorem abF:bf P w K mg base (aj w K) k "BadExtra" .exc:=iH (by rfl) (T.glo 116) (T.c.oV 117)
theorem Sh:bf P w K mg base (aj w K) k "BadAllowance" .exc:=iH (by rfl) (T.glo 118) (T.c.oV 119)
theorem aew:bf P w K mg base (aj w K) k "BadEar" .exc:=iH (by rfl) (T.glo 121) (T.c.oV 122)
theorem ai3:bf P w K mg base (aj w K) k "Bare" .exc:=iH (by rfl) (T.glo 123) (T.c.oV 124)
theorem Xz:bf P w K mg base (aj w K) k "StillThere" .exc:=iH (by rfl) (T.glo 125) (T.c.oV 126)
theorem acn:bf P w K mg base (aj w K) k "NoBeast" .exc:=iH (by rfl) (T.glo 127) (T.c.oV 128)
theorem aiv:bf P w K mg base (aj w K) k "Dead" .exc:=iH (by rfl) (T.glo 129) (T.c.oV 130)
theorem abG:bf P w K mg base (aj w K) k "Unmarked" .exc:=iH (by rfl) (T.glo 131) (T.c.oV 132)
theorem acP:bf P w K mg base (aj w K) k "Deepest" .exc:=iH (by rfl) (T.glo 133) (T.c.oV 134)
theorem aco:bf P w K mg base (aj w K) k "NoPlace" .exc:=iH (by rfl) (T.glo 135) (T.c.oV 136)
theorem Nq:bf P w K mg base (aj w K) k "SameOwner" .exc:=iH (by rfl) (T.glo 137) (T.c.oV 138)
theorem Zo:bf P w K mg base (aj w K) k "SameGround" .exc:=iH (by rfl) (T.glo 139) (T.c.oV 140)
theorem Rr:bf P w K mg base (aj w K) k "Together" .exc:=iH (by rfl) (T.glo 141) (T.c.oV 142)
theorem ag0:bf P w K mg base (aj w K) k "Alone" .exc:=iH (by rfl) (T.glo 143) (T.c.oV 144)
theorem ac7:bf P w K mg base (aj w K) k "BadDeed" .exc:=iH (by rfl) (T.glo 145) (T.c.oV 146)
theorem Wx:bf P w K mg base (aj w K) k "CommonError" .exc:=iH (by rfl) (T.glo 147) (T.c.oV 148)
theorem Top.afz:JH K jU=true:=(He.ba (He.ba (He.ba (He.ba (He.ba (He.ba T.c.more).1).1).1).1).1).2
theorem Top.xf:(Vz.all fun p=>xsH.contains p.1&&T5 K p.1 p.2)=true:=(He.ba (He.ba (He.ba (He.ba T.c.more).1).1).1).2
theorem Top.hs{Ms:List (Str×List (Str×MV))}(h:El P w K mg base (aj w K) k Ms):Ss P w K mg base (aj w K) k ⟨Ms,jU,xmH,dfH,Vz⟩:=alp h T.afz (He.ba (He.ba (He.ba (He.ba (He.ba T.c.more).1).1).1).1).2 (by rfl) T.xf
theorem Top.cls{c:Str}{fs:List Str}(h:jU.lookup c=some fs:=by rfl):Cls K (He.ga K c):=(Y9 T.afz h).1
local macro_rules | `(tactic| nofun)=>`(tactic| first | (exact fun _ _ _ _ _ _ us hl=>match us,hl with | [_],_=>rfl) | (exact fun _ _ _ _ _ _ us hl=>match us,hl with | [_,_],_=>rfl) | (exact fun _ _ _ _ _ _ us hl=>match us,hl with | [_,_,_],_=>rfl) | (exact fun _ _ _ _ _ _ us hl=>match us,hl with | [_,_,_,_],_=>rfl) | (exact fun _ _ _ _ _ _ us hl=>match us,hl with | [_,_,_,_,_],_=>rfl) | (exact fun _ _ _ _ _ _ us hl=>match us,hl with | [_,_,_,_,_,_],_=>rfl) | (exact fun _ _ _ _ _ _ us hl=>match us,hl with | [_,_,_,_,_,_,_],_=>rfl) | (exact fun _ _ _ _ _ _ us hl=>match us,hl with | [_,_,_,_,_,_,_,_],_=>rfl))
theorem vQ(i j:Nat){x:Str}{k0:Nat}(hk:k0+1<=k){st:Stmt}{N ps ml B:List Str}{G:List (Str×GV)}{Ms:List (Str×List (Str×MV))}{body:SF}(h:rX N st G B Ms ml=some body)(g:CQ P w K mg base (aj w K) k0 G)(b:BW mg B)(ms:El P w K mg base (aj w K) k0 Ms)(hi:fn[i]?=some (dF x st):=by rfl)(hj:fa[j]?=some (.glo x):=by rfl)(S:FnScope N ps (defScope st):=by exact⟨rfl,rfl,rfl,by decide +kernel,rfl,by decide +kernel,by decide +kernel⟩)(hb:∀(kV doc pm:Value) (an:Option Addr) (cdv ct:Value) (us:List Value),us.length=ps.length->bindArgs (PySem.W.fnOf x x (defArgs st) (defBody st) (defScope st) .none kV doc pm an cdv ct) ⟨us,[]⟩=pure (ps.zip us):=by nofun):bf P w K mg base (aj w K) k x (.fq ps.length (mQ N.length body)):=by
 obtain⟨fd,F⟩:=T.c.VR i hi
 exact aeL hk (T.glo j hj) F.kp (FunD.bindsN (ps:=ps) F hb) (XQ (Dg F) S g b (T.hs ms) h)
theorem wQ(i j:Nat){c m q:Str}{k0:Nat}(hk:k0+1<=k){st:Stmt}{N ps ml B:List Str}{G:List (Str×GV)}{Ms:List (Str×List (Str×MV))}{body:SF}(h:rX N st G B Ms ml=some body)(g:CQ P w K mg base (aj w K) k0 G)(b:BW mg B)(ms:El P w K mg base (aj w K) k0 Ms)(hi:fn[i]?=some (dM c m q st):=by rfl)(hj:fa[j]?=some (.meth c m):=by rfl)(hx:xsH.contains c=true:=by rfl){fs:List Str}(hc:jU.lookup c=some fs:=by rfl)(hf:((jU.lookup c).getD []).contains m=false:=by rfl)(S:FnScope N ps (defScope st):=by exact⟨rfl,rfl,rfl,by decide +kernel,rfl,by decide +kernel,by decide +kernel⟩)(hb:∀(kV doc pm:Value) (an:Option Addr) (cdv ct:Value) (us:List Value),us.length=ps.length->bindArgs (PySem.W.fnOf m q (defArgs st) (defBody st) (defScope st) .none kV doc pm an cdv ct) ⟨us,[]⟩=pure (ps.zip us):=by nofun):bW P w K mg base (aj w K) k c m (.q ps.length (mQ N.length body)):=by
 obtain⟨fd,F⟩:=T.c.VR i hi
 exact amb hk hx (T.cls hc) (T.c.oV j hj) hf (FunD.bindsN (ps:=ps) F hb) (XQ (Dg F) S g b (T.hs ms) h)
theorem vG(i j:Nat){x:Str}{k0:Nat}(hk:k0+1<=k){st:Stmt}{N ps ml B:List Str}{G:List (Str×GV)}{Ms:List (Str×List (Str×MV))}{body:SF}(h:rY N st G B Ms ml=some body)(g:CQ P w K mg base (aj w K) k0 G)(b:BW mg B)(ms:El P w K mg base (aj w K) k0 Ms)(hi:fn[i]?=some (dF x st):=by rfl)(hj:fa[j]?=some (.glo x):=by rfl)(S:FnScope N ps (defScope st):=by exact⟨rfl,rfl,rfl,by decide +kernel,rfl,by decide +kernel,by decide +kernel⟩)(hb:∀(kV doc pm:Value) (an:Option Addr) (cdv ct:Value) (us:List Value),us.length=ps.length->bindArgs (PySem.W.fnOf x x (defArgs st) (defBody st) (defScope st) .none kV doc pm an cdv ct) ⟨us,[]⟩=pure (ps.zip us):=by nofun):bf P w K mg base (aj w K) k x (.fg ps.length (mG N.length body)):=by
 obtain⟨fd,F⟩:=T.c.VR i hi
 exact al3 hk (T.glo j hj) F.kp (FunD.bindsN (ps:=ps) F hb) (PB (Dg F) S g b (T.hs ms) h)
theorem wG(i j:Nat){c m q:Str}{k0:Nat}(hk:k0+1<=k){st:Stmt}{N ps ml B:List Str}{G:List (Str×GV)}{Ms:List (Str×List (Str×MV))}{body:SF}(h:rY N st G B Ms ml=some body)(g:CQ P w K mg base (aj w K) k0 G)(b:BW mg B)(ms:El P w K mg base (aj w K) k0 Ms)(hi:fn[i]?=some (dM c m q st):=by rfl)(hj:fa[j]?=some (.meth c m):=by rfl)(hx:xsH.contains c=true:=by rfl){fs:List Str}(hc:jU.lookup c=some fs:=by rfl)(hf:((jU.lookup c).getD []).contains m=false:=by rfl)(S:FnScope N ps (defScope st):=by exact⟨rfl,rfl,rfl,by decide +kernel,rfl,by decide +kernel,by decide +kernel⟩)(hb:∀(kV doc pm:Value) (an:Option Addr) (cdv ct:Value) (us:List Value),us.length=ps.length->bindArgs (PySem.W.fnOf m q (defArgs st) (defBody st) (defScope st) .none kV doc pm an cdv ct) ⟨us,[]⟩=pure (ps.zip us):=by nofun):bW P w K mg base (aj w K) k c m (.g ps.length (mG N.length body)):=by
 obtain⟨fd,F⟩:=T.c.VR i hi
 exact amv hk hx (T.cls hc) (T.c.oV j hj) hf (FunD.bindsN (ps:=ps) F hb) (PB (Dg F) S g b (T.hs ms) h)
theorem vI(i j l:Nat){c q:Str}{n:Nat}{k0:Nat}{st:Stmt}{N ps ml B:List Str}{G:List (Str×GV)}{Ms:List (Str×List (Str×MV))}{body:SF}(h:rY N st G B Ms ml=some body)(g:CQ P w K mg base (aj w K) k0 G)(b:BW mg B)(ms:El P w K mg base (aj w K) k0 Ms)(hk:k0+1+1<=k)(hi:fn[i]?=some (dM c "__init__" q st):=by rfl)(hj:fa[j]?=some (.mkr c):=by rfl)(hg:fa[l]?=some (.glo c):=by rfl)(hx:xsH.contains c=true:=by rfl){fs:List Str}(hc:jU.lookup c=some fs:=by rfl)(hp:ps.length=n+1:=by rfl)(S:FnScope N ps (defScope st):=by exact⟨rfl,rfl,rfl,by decide +kernel,rfl,by decide +kernel,by decide +kernel⟩)(hb:∀(kV doc pm:Value) (an:Option Addr) (cdv ct:Value) (us:List Value),us.length=ps.length->bindArgs (PySem.W.fnOf "__init__" q (defArgs st) (defBody st) (defScope st) .none kV doc pm an cdv ct) ⟨us,[]⟩=pure (ps.zip us):=by nofun):bf P w K mg base (aj w K) k c (.cls n (mG N.length body)):=by
 obtain⟨fd,F⟩:=T.c.VR i hi
 exact ajG hk hx (T.glo l hg) (T.cls hc) (T.c.oV j hj) hp (FunD.bindsN (ps:=ps) F hb) (PB (Dg F) S g b (T.hs ms) h)
theorem aat(hk:2<=k):bf P w K mg base (aj w K) k "Clash" (.exi ["ones","others","ear"]):=by
 have ho:T5 K "Clash" ["ones","others","ear"]=true:=(He.ba (aqD.mp T.xf _ (show(("Clash" : Str),(["ones","others","ear"]:List Str))∈Vz by simp[Vz]))).2
 obtain⟨o1,o2,o3,o4,o5⟩:=SJ ho
 obtain⟨fd,F⟩:=T.c.VR 101
 have b:=FunD.bindsN (ps:=["self","ones","others","ear"]) F fun _ _ _ _ _ _ us hl=>match us,hl with|[_,_,_,_],_=>rfl
 exact ahN hk (by rfl) (T.glo 120) ho rfl b (acA (Dg F) Wq o1 (by rfl) (by decide) (o5 _ (by decide)) (o5 _ (by decide)) (o5 _ (by decide)))
theorem acT(hk:2<=k:=by omega):bf P w K mg base (aj w K) k "Grounds" (.cls 0 tR):=vI T 0 0 101 (ps:=["self"]) Uj trivial trivial trivial hk
theorem ae3(hk:2<=k:=by omega):bf P w K mg base (aj w K) k "Rights" (.cls 0 vA):=vI T 1 1 102 (ps:=["self"]) Ws trivial trivial trivial hk
theorem ain(hk:2<=k:=by omega):bf P w K mg base (aj w K) k "Herd" (.cls 0 zq):=vI T 2 2 103 (ps:=["self"]) ZS trivial trivial trivial hk
theorem adk(hk:4<=k:=by omega):bf P w K mg base (aj w K) k "Commons" (.cls 0 o9):=vI T 3 3 104 (ps:=["self"]) Tq ⟨ain T,ae3 T,acT T,trivial⟩ trivial trivial hk
theorem Fg(hk:1<=k:=by omega):bW P w K mg base (aj w K) k "Beast" "stand" (.q 1 vq):=wQ T 4 4 hk (ps:=["self"]) V7 trivial trivial trivial
theorem Wk(hk:2<=k:=by omega):bW P w K mg base (aj w K) k "Beast" "told" (.q 1 xK):=wQ T 5 5 hk (ps:=["self"]) Y0 trivial ⟨T.free 157,trivial⟩ ⟨⟨Fg T,trivial⟩,trivial⟩
theorem M4(hk:1<=k:=by omega):bW P w K mg base (aj w K) k "Commons" "owners" (.q 1 qJ):=wQ T 6 6 hk (ps:=["self"]) Ow trivial ⟨T.free 158,trivial⟩ trivial
theorem Ka(hk:1<=k:=by omega):bW P w K mg base (aj w K) k "Rights" "all_rows" (.q 1 oX):=wQ T 7 7 hk (ps:=["self"]) MK trivial ⟨T.free 158,trivial⟩ trivial
theorem w6(hk:1<=k:=by omega):bW P w K mg base (aj w K) k "Grounds" "many" (.q 1 o7):=wQ T 8 8 hk (ps:=["self"]) SN trivial ⟨T.free 159,trivial⟩ trivial
theorem T7(hk:2<=k:=by omega):bW P w K mg base (aj w K) k "Grounds" "has" (.q 2 vo):=wQ T 9 9 hk (ps:=["self","ground"]) Wt trivial trivial ⟨⟨w6 T,trivial⟩,trivial⟩
theorem gW(hk:3<=k:=by omega):bW P w K mg base (aj w K) k "Grounds" "need" (.q 2 ux):=wQ T 10 10 hk (ps:=["self","ground"]) Tv ⟨abL T,trivial⟩ trivial ⟨⟨T7 T,trivial⟩,trivial⟩
theorem xM(hk:4<=k:=by omega):bW P w K mg base (aj w K) k "Grounds" "allowance" (.q 2 jN):=wQ T 11 11 hk (ps:=["self","ground"]) Jx trivial trivial ⟨⟨gW T,trivial⟩,trivial⟩
theorem m7(hk:4<=k:=by omega):bW P w K mg base (aj w K) k "Grounds" "together" (.q 2 j7):=wQ T 12 12 hk (ps:=["self","ground"]) K9 trivial ⟨T.free 158,trivial⟩ ⟨⟨gW T,trivial⟩,trivial⟩
theorem rG(hk:5<=k:=by omega):bW P w K mg base (aj w K) k "Commons" "together" (.q 2 jZ):=wQ T 13 13 hk (ps:=["self","ground"]) JM trivial trivial ⟨⟨m7 T,trivial⟩,trivial⟩
theorem RG(hk:6<=k:=by omega):bW P w K mg base (aj w K) k "Commons" "look" (.q 1 pC):=wQ T 14 14 hk (ps:=["self"]) Tg trivial ⟨T.free 160,T.free 157,trivial⟩ ⟨⟨Ka T,trivial⟩,⟨M4 T,trivial⟩,⟨Wk T,trivial⟩,⟨w6 T,trivial⟩,⟨rG T,trivial⟩,⟨xM T,trivial⟩,trivial⟩
theorem afv(hk:1<=k:=by omega):bf P w K mg base (aj w K) k "_law_row" (.fq 3 Bp):=vQ T 15 15 hk (ps:=["_law_cell_here","_law_many","_law_base"]) alB trivial ⟨T.free 160,T.free 161,trivial⟩ trivial
theorem W8(hk:1<=k:=by omega):bf P w K mg base (aj w K) k "_law_ear_by" (.fq 2 tH):=vQ T 16 16 hk (ps:=["_law_figures","_law_mode"]) aeA trivial ⟨T.free 157,T.free 162,trivial⟩ trivial
theorem ak5(hk:2<=k:=by omega):bf P w K mg base (aj w K) k "_law_ear" (.fq 1 Qn):=vQ T 17 17 hk (ps:=["_law_cell_here"]) ald ⟨W8 T,afv T,trivial⟩ trivial trivial
theorem ZW(hk:1<=k:=by omega):bf P w K mg base (aj w K) k "_law_begun" (.fq 1 u5):=vQ T 18 18 hk (ps:=["_law_head"]) ZF trivial trivial trivial
theorem adS(hk:1<=k:=by omega):bf P w K mg base (aj w K) k "_law_word_by" (.fq 1 zE):=vQ T 19 19 hk (ps:=["_law_figure"]) acv trivial trivial trivial
theorem fZ(hk:1<=k:=by omega):bW P w K mg base (aj w K) k "Commons" "need_owner" (.q 2 jk):=wQ T 20 20 hk (ps:=["self","owner"]) Hq ⟨acg T,trivial⟩ trivial trivial
theorem rO(hk:1<=k:=by omega):bW P w K mg base (aj w K) k "Rights" "marks" (.q 3 tY):=wQ T 21 21 hk (ps:=["self","owner","ground"]) Uq trivial trivial trivial
theorem JC(hk:2<=k:=by omega):bW P w K mg base (aj w K) k "Rights" "has_right" (.q 3 oM):=wQ T 22 22 hk (ps:=["self","owner","ground"]) Lq trivial ⟨T.free 159,trivial⟩ ⟨⟨rO T,trivial⟩,trivial⟩
theorem jh(hk:3<=k:=by omega):bW P w K mg base (aj w K) k "Commons" "need_right" (.q 3 lJ):=wQ T 23 23 hk (ps:=["self","owner","ground"]) Ij ⟨UL T,trivial⟩ trivial ⟨⟨JC T,trivial⟩,trivial⟩
theorem xR(hk:1<=k:=by omega):bW P w K mg base (aj w K) k "Commons" "new_owner" (.g 1 iy):=wG T 24 24 hk (ps:=["self"]) Jy trivial trivial trivial
theorem yg(hk:1<=k:=by omega):bW P w K mg base (aj w K) k "Rights" "add_right" (.g 4 jf):=wG T 25 25 hk (ps:=["self","owner","ground","mark"]) Lh ⟨PL T,trivial⟩ trivial trivial
theorem aiW(hk:1<=k:=by omega):bf P w K mg base (aj w K) k "torn" (.fq 2 KY):=vQ T 26 26 hk (ps:=["ear","many"]) aj5 ⟨vP T,trivial⟩ ⟨T.free 160,T.free 163,trivial⟩ trivial
theorem aav(hk:1<=k:=by omega):bf P w K mg base (aj w K) k "lacks" (.fq 2 uh):=vQ T 27 27 hk (ps:=["one","other"]) ahf trivial ⟨T.free 164,T.free 165,trivial⟩ trivial
theorem Zy(hk:2<=k:=by omega):bf P w K mg base (aj w K) k "offspring" (.fq 2 uQ):=vQ T 28 28 hk (ps:=["mark","extra"]) ZV ⟨aav T,aiW T,trivial⟩ trivial trivial
theorem ahd(hk:2<=k:=by omega):bf P w K mg base (aj w K) k "apart" (.fq 2 Gm):=vQ T 29 29 hk (ps:=["one","other"]) agx ⟨aav T,trivial⟩ ⟨T.free 162,trivial⟩ trivial
theorem Y5(hk:3<=k:=by omega):bf P w K mg base (aj w K) k "meet" (.fq 3 qX):=vQ T 30 30 hk (ps:=["one","other","room"]) akd ⟨ahd T,trivial⟩ trivial trivial
theorem Zb(hk:4<=k:=by omega):bf P w K mg base (aj w K) k "first_free" (.fq 4 pA):=vQ T 31 31 hk (ps:=["mark","extra","rows","room"]) Y6 ⟨aa9 T,Zy T,Y5 T,trivial⟩ ⟨T.free 166,trivial⟩ trivial
theorem pU(hk:2<=k:=by omega):bW P w K mg base (aj w K) k "Commons" "first_mark" (.q 3 lO):=wQ T 32 32 hk (ps:=["self","owner","ground"]) Iz trivial trivial ⟨⟨rO T,trivial⟩,trivial⟩
theorem Oq(hk:1<=k:=by omega):bf P w K mg base (aj w K) k "tidied" (.fq 1 qK):=vQ T 33 33 hk (ps:=["rows"]) afo trivial ⟨T.free 167,T.free 168,trivial⟩ trivial
theorem sY(hk:1<=k:=by omega):bW P w K mg base (aj w K) k "Herd" "all_living" (.q 1 oY):=wQ T 34 34 hk (ps:=["self"]) MF trivial ⟨T.free 169,trivial⟩ trivial
theorem DR(hk:2<=k:=by omega):bW P w K mg base (aj w K) k "Herd" "grazing" (.q 2 pq):=wQ T 35 35 hk (ps:=["self","grounds"]) Ua trivial trivial ⟨⟨sY T,trivial⟩,trivial⟩
theorem Hw(hk:1<=k:=by omega):bW P w K mg base (aj w K) k "Rights" "in_grounds" (.q 2 mZ):=wQ T 36 36 hk (ps:=["self","grounds"]) Jz trivial trivial trivial
theorem uI(hk:6<=k:=by omega):bW P w K mg base (aj w K) k "Commons" "standing_but" (.q 3 iz):=wQ T 37 37 hk (ps:=["self","left_out","ground"]) Ei ⟨Oq T,trivial⟩ trivial ⟨⟨Hw T,trivial⟩,⟨DR T,trivial⟩,⟨rG T,trivial⟩,trivial⟩
theorem mY(hk:7<=k:=by omega):bW P w K mg base (aj w K) k "Commons" "standing" (.q 2 kh):=wQ T 38 38 hk (ps:=["self","ground"]) Lk trivial trivial ⟨⟨uI T,trivial⟩,trivial⟩
theorem QH(hk:5<=k:=by omega):bW P w K mg base (aj w K) k "Grounds" "room" (.q 2 pO):=wQ T 39 39 hk (ps:=["self","ground"]) R8 trivial ⟨T.free 162,trivial⟩ ⟨⟨m7 T,trivial⟩,⟨xM T,trivial⟩,trivial⟩
theorem rQ(hk:6<=k:=by omega):bW P w K mg base (aj w K) k "Commons" "room" (.q 2 pJ):=wQ T 40 40 hk (ps:=["self","ground"]) Tp trivial trivial ⟨⟨QH T,trivial⟩,trivial⟩
theorem Jw(hk:8<=k:=by omega):bW P w K mg base (aj w K) k "Commons" "new_heir" (.g 4 cR):=wG T 41 41 hk (ps:=["self","elder","ground","extra"]) Ke ⟨Zb T,abF T,TX T,Zu T,trivial⟩ trivial ⟨⟨yg T,trivial⟩,⟨xR T,trivial⟩,⟨rQ T,trivial⟩,⟨mY T,trivial⟩,⟨pU T,trivial⟩,⟨jh T,trivial⟩,⟨gW T,trivial⟩,⟨fZ T,trivial⟩,trivial⟩
theorem Eo(hk:2<=k:=by omega):bW P w K mg base (aj w K) k "Grounds" "add_ground" (.g 2 eZ):=wG T 42 42 hk (ps:=["self","allowance"]) Io ⟨Sh T,Ja T,trivial⟩ trivial ⟨⟨w6 T,trivial⟩,trivial⟩
theorem Gq(hk:3<=k:=by omega):bW P w K mg base (aj w K) k "Commons" "new_ground" (.g 2 gH):=wG T 43 43 hk (ps:=["self","allowance"]) Hj trivial trivial ⟨⟨Eo T,trivial⟩,trivial⟩
theorem ac6(hk:4<=k:=by omega):bf P w K mg base (aj w K) k "barring" (.fq 4 Ac):=vQ T 44 44 hk (ps:=["owner","ear","rows","room"]) ac2 ⟨Y5 T,Oq T,trivial⟩ trivial trivial
theorem LQ(hk:1<=k:=by omega):bf P w K mg base (aj w K) k "joint" (.fq 2 pQ):=vQ T 45 45 hk (ps:=["one","other"]) agF trivial ⟨T.free 157,T.free 165,T.free 162,trivial⟩ trivial
theorem Px(hk:5<=k:=by omega):bf P w K mg base (aj w K) k "ask_room" (.fq 4 nR):=vQ T 46 46 hk (ps:=["owner","ear","rows","room"]) aa7 ⟨aat T (by decide),LQ T,ac6 T,trivial⟩ trivial trivial
theorem pK(hk:8<=k:=by omega):bW P w K mg base (aj w K) k "Commons" "ask_ground" (.q 4 gG):=wQ T 47 47 hk (ps:=["self","owner","ear","ground"]) Im ⟨Px T,trivial⟩ trivial ⟨⟨rQ T,trivial⟩,⟨mY T,trivial⟩,trivial⟩
theorem YC(hk:1<=k:=by omega):bf P w K mg base (aj w K) k "is_ear" (.fq 1 sV):=vQ T 48 48 hk (ps:=["parts"]) afm ⟨vP T,Oi T,trivial⟩ ⟨T.free 170,T.free 159,trivial⟩ trivial
theorem Rm(hk:2<=k:=by omega):bf P w K mg base (aj w K) k "need_ear" (.fq 1 qd):=vQ T 49 49 hk (ps:=["parts"]) abY ⟨aew T,YC T,trivial⟩ trivial trivial
theorem Oa(hk:9<=k:=by omega):bW P w K mg base (aj w K) k "Commons" "enrol" (.g 4 dR):=wG T 50 50 hk (ps:=["self","owner","ground","mark"]) Q6 ⟨PL T,ai3 T,Ql T,Rm T,trivial⟩ trivial ⟨⟨yg T,trivial⟩,⟨pK T,trivial⟩,⟨rO T,trivial⟩,⟨gW T,trivial⟩,⟨fZ T,trivial⟩,trivial⟩
theorem RN(hk:2<=k:=by omega):bW P w K mg base (aj w K) k "Rights" "drop" (.g 3 ni):=wG T 51 51 hk (ps:=["self","owner","ground"]) Wg ⟨UL T,trivial⟩ trivial ⟨⟨rO T,trivial⟩,trivial⟩
theorem O8(hk:4<=k:=by omega):bW P w K mg base (aj w K) k "Commons" "leave" (.g 3 fQ):=wG T 52 52 hk (ps:=["self","owner","ground"]) Ru ⟨Xz T,trivial⟩ ⟨T.free 166,trivial⟩ ⟨⟨RN T,trivial⟩,⟨DR T,trivial⟩,⟨jh T,trivial⟩,⟨gW T,trivial⟩,⟨fZ T,trivial⟩,trivial⟩
theorem Bh(hk:1<=k:=by omega):bW P w K mg base (aj w K) k "Beast" "stand_so" (.g 2 mW):=wG T 53 53 hk (ps:=["self","stand"]) NK trivial trivial trivial
theorem ahm(hk:1<=k:=by omega):bf P w K mg base (aj w K) k "begun" (.fq 1 Bx):=vQ T 54 54 hk (ps:=["first"]) agA ⟨Ql T,trivial⟩ trivial trivial
theorem agt(hk:3<=k:=by omega):bf P w K mg base (aj w K) k "Beast" (.cls 1 sS):=vI T 55 55 105 (ps:=["self","first"]) Yw ⟨ahm T,trivial⟩ trivial ⟨⟨Bh T,trivial⟩,trivial⟩ hk
theorem Ba(hk:4<=k:=by omega):bW P w K mg base (aj w K) k "Herd" "add_beast" (.g 2 qp):=wG T 56 56 hk (ps:=["self","first"]) Nz ⟨agt T,trivial⟩ ⟨T.free 159,trivial⟩ trivial
theorem N6(hk:5<=k:=by omega):bW P w K mg base (aj w K) k "Commons" "bring" (.g 4 fU):=wG T 57 57 hk (ps:=["self","owner","ground","ear"]) Rq ⟨Rm T,trivial⟩ trivial ⟨⟨Ba T,trivial⟩,⟨jh T,trivial⟩,⟨gW T,trivial⟩,⟨fZ T,trivial⟩,trivial⟩
theorem Av(hk:1<=k:=by omega):bW P w K mg base (aj w K) k "Herd" "known" (.q 2 j5):=wQ T 58 58 hk (ps:=["self","number"]) Yd ⟨acn T,trivial⟩ ⟨T.free 159,trivial⟩ trivial
theorem uz(hk:2<=k:=by omega):bW P w K mg base (aj w K) k "Herd" "living" (.q 2 qN):=wQ T 59 59 hk (ps:=["self","number"]) Wh ⟨aiv T,trivial⟩ trivial ⟨⟨Av T,trivial⟩,trivial⟩
theorem yD(hk:3<=k:=by omega):bW P w K mg base (aj w K) k "Herd" "marked" (.q 2 nH):=wQ T 60 60 hk (ps:=["self","number"]) V9 ⟨abG T,trivial⟩ trivial ⟨⟨uz T,trivial⟩,trivial⟩
theorem RK(hk:5<=k:=by omega):bW P w K mg base (aj w K) k "Commons" "bear" (.g 2 iY):=wG T 61 61 hk (ps:=["self","mother"]) R3 trivial trivial ⟨⟨Ba T,trivial⟩,⟨yD T,trivial⟩,trivial⟩
theorem abm(hk:1<=k:=by omega):bf P w K mg base (aj w K) k "deepened" (.fq 2 wN):=vQ T 62 62 hk (ps:=["ear","place"]) aa8 trivial ⟨T.free 157,T.free 169,trivial⟩ trivial
theorem ab8(hk:2<=k:=by omega):bf P w K mg base (aj w K) k "gone_on" (.fq 2 zH):=vQ T 63 63 hk (ps:=["stand","event"]) ab3 ⟨abm T,trivial⟩ trivial trivial
theorem jo(hk:3<=k:=by omega):bW P w K mg base (aj w K) k "Beast" "befall" (.g 2 lY):=wG T 64 64 hk (ps:=["self","event"]) Ur ⟨ab8 T,trivial⟩ trivial ⟨⟨Bh T,trivial⟩,⟨Fg T,trivial⟩,trivial⟩
theorem Tt(hk:9<=k:=by omega):bW P w K mg base (aj w K) k "Commons" "cut" (.g 2 jF):=wG T 65 65 hk (ps:=["self","beast"]) Ww ⟨LQ T,trivial⟩ trivial ⟨⟨jo T,trivial⟩,⟨pK T,trivial⟩,⟨pU T,trivial⟩,⟨uz T,trivial⟩,trivial⟩
theorem Rh(hk:4<=k:=by omega):bW P w K mg base (aj w K) k "Commons" "tear" (.g 3 fD):=wG T 66 66 hk (ps:=["self","beast","place"]) TJ ⟨acP T,vP T,aco T,Oi T,trivial⟩ ⟨T.free 159,trivial⟩ ⟨⟨jo T,trivial⟩,⟨uz T,trivial⟩,trivial⟩
theorem SQ(hk:2<=k:=by omega):bW P w K mg base (aj w K) k "Herd" "calves" (.q 2 qO):=wQ T 67 67 hk (ps:=["self","mother"]) Wz trivial trivial ⟨⟨sY T,trivial⟩,⟨Av T,trivial⟩,trivial⟩
theorem xY(hk:4<=k:=by omega):bW P w K mg base (aj w K) k "Herd" "lead_calves" (.g 2 nQ):=wG T 68 68 hk (ps:=["self","mother"]) JW trivial trivial ⟨⟨SQ T,trivial⟩,⟨jo T,trivial⟩,⟨Av T,trivial⟩,trivial⟩
theorem Qa(hk:7<=k:=by omega):bW P w K mg base (aj w K) k "Commons" "sell" (.g 3 dI):=wG T 69 69 hk (ps:=["self","beast","buyer"]) Um ⟨Px T,LQ T,Nq T,trivial⟩ trivial ⟨⟨xY T,trivial⟩,⟨jo T,trivial⟩,⟨rQ T,trivial⟩,⟨uI T,trivial⟩,⟨pU T,trivial⟩,⟨jh T,trivial⟩,⟨fZ T,trivial⟩,⟨yD T,trivial⟩,trivial⟩
theorem Qx(hk:9<=k:=by omega):bW P w K mg base (aj w K) k "Commons" "move" (.g 3 dJ):=wG T 70 70 hk (ps:=["self","beast","ground"]) Ui ⟨Zo T,trivial⟩ trivial ⟨⟨xY T,trivial⟩,⟨jo T,trivial⟩,⟨pK T,trivial⟩,⟨jh T,trivial⟩,⟨gW T,trivial⟩,⟨yD T,trivial⟩,trivial⟩
theorem Ut(hk:4<=k:=by omega):bW P w K mg base (aj w K) k "Commons" "die" (.g 2 lB):=wG T 71 71 hk (ps:=["self","beast"]) Wi trivial trivial ⟨⟨jo T,trivial⟩,⟨uz T,trivial⟩,trivial⟩
theorem abe(hk:4<=k:=by omega):bf P w K mg base (aj w K) k "clashing" (.fq 2 uF):=vQ T 72 72 hk (ps:=["rows","room"]) abb ⟨Y5 T,Oq T,trivial⟩ ⟨T.free 169,trivial⟩ trivial
theorem yc(hk:8<=k:=by omega):bW P w K mg base (aj w K) k "Commons" "quarrels" (.q 3 kE):=wQ T 73 73 hk (ps:=["self","ground","other"]) J9 ⟨abe T,trivial⟩ ⟨T.free 162,trivial⟩ ⟨⟨mY T,trivial⟩,⟨rQ T,trivial⟩,trivial⟩
theorem zR(hk:1<=k:=by omega):bW P w K mg base (aj w K) k "Grounds" "enclose" (.g 2 lG):=wG T 74 74 hk (ps:=["self","grounds"]) MN trivial ⟨T.free 157,trivial⟩ trivial
theorem O9(hk:5<=k:=by omega):bW P w K mg base (aj w K) k "Grounds" "unite" (.g 3 kY):=wG T 75 75 hk (ps:=["self","ground","other"]) Qz ⟨Rr T,trivial⟩ ⟨T.free 167,trivial⟩ ⟨⟨zR T,trivial⟩,⟨m7 T,trivial⟩,trivial⟩
theorem O7(hk:9<=k:=by omega):bW P w K mg base (aj w K) k "Commons" "unite" (.g 3 fX):=wG T 76 76 hk (ps:=["self","ground","other"]) Qv ⟨aat T (by decide),LQ T,Rr T,trivial⟩ trivial ⟨⟨O9 T,trivial⟩,⟨yc T,trivial⟩,⟨rG T,trivial⟩,⟨gW T,trivial⟩,trivial⟩
theorem Q5(hk:5<=k:=by omega):bW P w K mg base (aj w K) k "Grounds" "part" (.g 2 jg):=wG T 77 77 hk (ps:=["self","ground"]) T6 ⟨ag0 T,trivial⟩ trivial ⟨⟨zR T,trivial⟩,⟨m7 T,trivial⟩,trivial⟩
theorem PN(hk:6<=k:=by omega):bW P w K mg base (aj w K) k "Commons" "part" (.g 2 jQ):=wG T 78 78 hk (ps:=["self","ground"]) Uo trivial trivial ⟨⟨Q5 T,trivial⟩,trivial⟩
theorem JB(hk:1<=k:=by omega):bW P w K mg base (aj w K) k "Rights" "hand_over" (.g 3 nZ):=wG T 79 79 hk (ps:=["self","elder","heir"]) Kv trivial trivial trivial
theorem Wn(hk:2<=k:=by omega):bW P w K mg base (aj w K) k "Herd" "owned" (.q 2 xU):=wQ T 80 80 hk (ps:=["self","owner"]) YS trivial trivial ⟨⟨sY T,trivial⟩,trivial⟩
theorem Ks(hk:4<=k:=by omega):bW P w K mg base (aj w K) k "Commons" "pass_on" (.g 3 fM):=wG T 81 81 hk (ps:=["self","elder","heir"]) M5 ⟨Nq T,trivial⟩ trivial ⟨⟨jo T,trivial⟩,⟨Wn T,trivial⟩,⟨JB T,trivial⟩,⟨fZ T,trivial⟩,trivial⟩
theorem ZG(hk:2<=k:=by omega):bf P w K mg base (aj w K) k "part_fits" (.fq 2 iG):=vQ T 82 82 hk (ps:=["kind","part"]) ZP ⟨Oi T,Qm T,YC T,trivial⟩ ⟨T.free 171,T.free 172,T.free 159,T.free 157,trivial⟩ trivial
theorem ail(hk:3<=k:=by omega):bf P w K mg base (aj w K) k "fits" (.fq 1 Fy):=vQ T 83 83 hk (ps:=["deed"]) aja ⟨ZG T,afb T,trivial⟩ ⟨T.free 170,T.free 165,T.free 159,trivial⟩ trivial
theorem Wc(hk:10<=k:=by omega):bW P w K mg base (aj w K) k "Commons" "do" (.g 2 cP):=wG T 84 84 hk (ps:=["self","deed"]) Xq ⟨ac7 T,ail T,trivial⟩ trivial ⟨⟨Jw T,trivial⟩,⟨Ks T,trivial⟩,⟨PN T,trivial⟩,⟨O7 T,trivial⟩,⟨Ut T,trivial⟩,⟨Qx T,trivial⟩,⟨Qa T,trivial⟩,⟨Rh T,trivial⟩,⟨Tt T,trivial⟩,⟨RK T,trivial⟩,⟨N6 T,trivial⟩,⟨O8 T,trivial⟩,⟨Oa T,trivial⟩,⟨Gq T,trivial⟩,⟨xR T,trivial⟩,trivial⟩
theorem aib(hk:11<=k:=by omega):bf P w K mg base (aj w K) k "_law_done" (.fg 3 qT):=vG T 85 85 hk (ps:=["_law_house","_law_deed_here","_law_counts"]) aiS ⟨Wx T,trivial⟩ trivial ⟨⟨Wc T,trivial⟩,trivial⟩
theorem aij(hk:1<=k:=by omega):bf P w K mg base (aj w K) k "_law_near" (.fq 2 KD):=vQ T 86 86 hk (ps:=["_law_ear_here","_law_figures"]) ajw trivial ⟨T.free 157,T.free 165,T.free 162,T.free 163,trivial⟩ trivial
theorem ac8(hk:2<=k:=by omega):bf P w K mg base (aj w K) k "_law_mark_by" (.fq 3 wg):=vQ T 87 87 hk (ps:=["_law_figures","_law_mode","_law_base"]) adz ⟨W8 T,aij T,trivial⟩ trivial trivial
theorem alC(hk:1<=k:=by omega):bf P w K mg base (aj w K) k "_law_ref" (.fq 3 jK):=vQ T 88 88 hk (ps:=["_law_figure","_law_many","_law_sure"]) alc trivial ⟨T.free 162,trivial⟩ trivial
theorem ajZ(hk:3<=k:=by omega):bf P w K mg base (aj w K) k "_law_deed" (.fq 6 gq):=vQ T 89 89 hk (ps:=["_law_word","_law_one","_law_two","_law_parts","_law_counts","_law_base"]) ajy ⟨alC T,ac8 T,trivial⟩ ⟨T.free 172,trivial⟩ trivial
theorem ako(hk:12<=k:=by omega):bf P w K mg base (aj w K) k "_law_play" (.fg 3 Gj):=vG T 90 90 hk (ps:=["_law_house","_law_cells","_law_head"]) ahU ⟨aib T,ajZ T,adS T,afv T,ZW T,ak5 T,trivial⟩ ⟨T.free 160,T.free 169,T.free 159,trivial⟩ trivial
theorem ajb(hk:1<=k:=by omega):bf P w K mg base (aj w K) k "_law_cell" (.fq 2 FJ):=vQ T 91 91 hk (ps:=["_law_script","_law_k"]) aj7 trivial ⟨T.free 159,trivial⟩ trivial
theorem ago(hk:1<=k:=by omega):bf P w K mg base (aj w K) k "_law_whole" (.fq 1 Fp):=vQ T 92 92 hk (ps:=["_law_found"]) afX trivial ⟨T.free 171,T.free 173,T.free 172,trivial⟩ trivial
theorem aiY(hk:12<=k:=by omega):bf P w K mg base (aj w K) k "_law_like" (.fq 2 (mF 10)):=by
 obtain⟨fd,F⟩:=T.c.VR 93
 have b:=FunD.bindsN (ps:=["_law_found","_law_due"]) F fun _ _ _ _ _ _ us hl=>match us,hl with|[_,_],_=>rfl
 have key:∀j:Nat,FnOk P w K mg base (L2.CX P w) (2+j) (He.ga K "_law_like") fd ["_law_found","_law_due"] (Vi K (aj w K) 2 (mF j)):=by
  intro j
  induction j with
  |zero=>exact ai5
  |succ j ih'=>
   have ih:∀{k:Nat},2+j<=k->bf P w K mg base (aj w K) k "_law_like" (.fq 2 (mF j)):=fun hk=>aeL hk (T.glo 93) F.kp (b) ih'
   refine XQ (k:=2+j) (Dg F) ahE ?_ ?_ ?_ (ahK (mF j))
   ·exact⟨ih (aqF _),ago T,trivial⟩
   ·exact⟨T.free 165,T.free 159,T.free 171,T.free 158,T.free 157,T.free 174,T.free 172,trivial⟩
   ·exact T.hs trivial
 exact aeL hk (T.glo 93) F.kp (b) (key 10)
theorem ajS(hk:1<=k:=by omega):bf P w K mg base (aj w K) k "_law_once" (.fq 1 Kw):=vQ T 94 94 hk (ps:=["_law_rows"]) ajL trivial ⟨T.free 167,trivial⟩ trivial
theorem Uy(hk:2<=k:=by omega):bf P w K mg base (aj w K) k "_law_rows_of" (.fq 3 pZ):=vQ T 95 95 hk (ps:=["_law_stand","_law_grounds","_law_but"]) adp ⟨ajS T,trivial⟩ ⟨T.free 169,trivial⟩ trivial
theorem adZ(hk:1<=k:=by omega):bf P w K mg base (aj w K) k "_law_room_of" (.fq 2 zV):=vQ T 96 96 hk (ps:=["_law_stand","_law_ground"]) adi trivial ⟨T.free 162,trivial⟩ trivial
theorem aga(hk:1<=k:=by omega):bf P w K mg base (aj w K) k "_law_tears" (.fq 2 BL):=vQ T 97 97 hk (ps:=["_law_one","_law_other"]) ag1 trivial ⟨T.free 164,T.free 165,T.free 162,trivial⟩ trivial
theorem ak8(hk:2<=k:=by omega):bf P w K mg base (aj w K) k "_law_far" (.fq 2 Pu):=vQ T 98 98 hk (ps:=["_law_one","_law_other"]) alj ⟨aga T,trivial⟩ ⟨T.free 162,trivial⟩ trivial
theorem ajd(hk:3<=k:=by omega):bf P w K mg base (aj w K) k "_law_fine" (.fq 2 Kr):=vQ T 99 99 hk (ps:=["_law_stand","_law_ground"]) aif ⟨ak8 T,adZ T,Uy T,trivial⟩ ⟨T.free 169,trivial⟩ trivial
theorem akH{fd:FuncData}(F:FunD K "law" "law" (defArgs Ls) (defBody Ls) (defScope Ls) [] [] (He.ga K "law") fd):FnOk P w K mg base (L2.CX P w) 13 (He.ga K "law") fd ["_law_script"] (Jg K (aj w K) 1 W4):=by
 refine PB (k:=12) (Dg F) ajC ?_ ?_ ?_ akU
 ·exact⟨aiY T,Uy T,ajd T,ako T,ajb T,adk T,trivial⟩
 ·exact⟨T.free 169,T.free 161,trivial⟩
 ·exact T.hs ⟨⟨mY T,trivial⟩,⟨yc T,trivial⟩,⟨RG T,trivial⟩,trivial⟩
end
def digs(b:Int):Nat->Int->List Int
 |0,_=>[]
 |n+1,c=>c % b::digs b n (c / b)
def Nm(b:Int):Nat->Int->Int->List Int
 |0,_,_=>[]
 |n+1,k,t=>((t * 48271+9973 * k+11) % 2147483647 / 1021 % b)::Nm b n (k+1) ((t * 48271+9973 * k+11) % 2147483647)
def Ae(c:Int):Int:=if c < 0 then -c else c
def rowOf(c:Int)(n:Nat)(b:Int):List Int:=if 10 ^ 18<=Ae c then digs b n (Ae c) else Nm b n 0 ((Ae c % 1000003+17) * 69621 % 2147483647)
theorem W9(b:Int):∀n c,(digs b n c).length=n
 |0,_=>rfl
 |n+1,c=>by simp[digs,W9 b n]
theorem aaH(b:Int):∀n k t,(Nm b n k t).length=n
 |0,_,_=>rfl
 |n+1,k,t=>by simp[Nm,aaH b n]
theorem aaD{b:Int}(hb:0 < b):∀n c,∀x∈digs b n c,0<=x/\x < b
 |0,_,x,h=>by simp[digs]at h
 |n+1,c,x,h=>by
  rcases aqv.mp h with rfl|h
  ·exact⟨Int.emod_nonneg _ (by omega),Int.emod_lt_of_pos _ hb⟩
  ·exact aaD hb n _ x h
theorem acJ{b:Int}(hb:0 < b):∀n k t,∀x∈Nm b n k t,0<=x/\x < b
 |0,_,_,x,h=>by simp[Nm]at h
 |n+1,k,t,x,h=>by
  rcases aqv.mp h with rfl|h
  ·exact⟨Int.emod_nonneg _ (by omega),Int.emod_lt_of_pos _ hb⟩
  ·exact acJ hb n _ _ x h
@[simp]theorem aau (c:Int) (n:Nat) (b:Int):(rowOf c n b).length=n:=by
 unfold rowOf
 split
 ·exact W9 ..
 ·exact aaH ..
theorem adn{b:Int}(hb:0 < b)(c:Int)(n:Nat):∀x∈rowOf c n b,0<=x/\x < b:=by
 unfold rowOf
 split
 ·exact aaD hb _ _
 ·exact acJ hb _ _ _
@[simp]theorem agC (M:Mo) (ns:List Int) (k:Nat):FJ M [lI ns,.int k]=.ok (.int (ns.getD k 0)):=by
 unfold FJ XR
 by_cases h:k < ns.length
 ·simp[h,atI,ixN]
 ·simp[h]
theorem Xn(M:Mo)(b:Int)(hb:0 < b)(hb2:b < 1073741824):∀(n k:Nat) (c:Int) (x1:Option Cell) (acc:List Dat) (x4 x5:Option Cell),acc.length+n < 100000->∃c' x4',fB (aG 4) TY ((List.range' k n).map fun(i:Nat)=>PyData.int (i:Int)) M [some (.dat (.int c)),x1,some (.dat (.int b)),some (.mut acc),x4,x5]=.next [c',x1,some (.dat (.int b)),some (.mut (acc++(digs b n c).map .int)),x4',x5] M
 |0,k,c,x1,acc,x4,x5,_=>⟨some (.dat (.int c)),x4,by simp[fB,digs]⟩
 |n+1,k,c,x1,acc,x4,x5,hl=>by
  obtain⟨c',x4',ih⟩:=Xn M b hb hb2 n (k+1) (c / b) x1 (acc++[.int (c % b)]) (some (.dat (.int k))) x5 (by simp;omega)
  refine⟨c',x4',?_⟩
  have h1:decide (CDiv c b)=true:=decide_eq_true ⟨hb,hb2⟩
  have hl:acc.length < 100000:=by omega
  rw[List.range'_succ,aqj,fK (ρ1:=[some (.dat (.int c)),x1,some (.dat (.int b)),some (.mut acc),some (.dat (.int k)),x5]) (by simp) (ρ2:=[some (.dat (.int (c / b))),x1,some (.dat (.int b)),some (.mut (acc++[.int (c % b)])),some (.dat (.int k)),x5]) (M2:=M) (by simp[TY,h1,hb,hl])]
  rw[ih]
  simp[digs]
theorem aar(M:Mo)(b:Int)(hb:0 < b):∀(n k:Nat) (t:Int) (x0 x1:Option Cell) (acc:List Dat) (x4:Option Cell),acc.length+n < 100000->∃x4' x5',fB (aG 4) Ug ((List.range' k n).map fun(i:Nat)=>PyData.int (i:Int)) M [x0,x1,some (.dat (.int b)),some (.mut acc),x4,some (.dat (.int t))]=.next [x0,x1,some (.dat (.int b)),some (.mut (acc++(Nm b n k t).map .int)),x4',x5'] M
 |0,k,t,x0,x1,acc,x4,_=>⟨x4,some (.dat (.int t)),by simp[fB,Nm]⟩
 |n+1,k,t,x0,x1,acc,x4,hl=>by
  obtain⟨x4',x5',ih⟩:=aar M b hb n (k+1) ((t * 48271+9973 * k+11) % 2147483647) x0 x1 (acc++[.int ((t * 48271+9973 * k+11) % 2147483647 / 1021 % b)]) (some (.dat (.int k))) (by simp;omega)
  refine⟨x4',x5',?_⟩
  have h1:decide (CMul t 48271)=true:=mul_r (by decide)
  have h2:decide (CMul 9973 (k:Int))=true:=afO (by decide)
  have h3:∀x,decide (CDiv x 1021)=true:=fun x=>decide_eq_true ⟨by decide,by decide⟩
  have hl:acc.length < 100000:=by omega
  rw[List.range'_succ,aqj,fK (ρ1:=[x0,x1,some (.dat (.int b)),some (.mut acc),some (.dat (.int k)),some (.dat (.int t))]) (by simp) (ρ2:=[x0,x1,some (.dat (.int b)),some (.mut (acc++[.int ((t * 48271+9973 * k+11) % 2147483647 / 1021 % b)])),some (.dat (.int k)),some (.dat (.int ((t * 48271+9973 * k+11) % 2147483647)))]) (M2:=M) (by simp[Ug,h1,h2,h3,hb,hl])]
  rw[ih]
  simp[Nm]
theorem Qu(n:Nat):jx 0 n=(List.range' 0 n).map fun(i:Nat)=>PyData.int (i:Int):=by
 unfold jx
 rw[List.range_eq_range']
 simp
theorem acp(M:Mo)(c:Int)(n:Nat)(b:Int)(hb:0 < b)(hb2:b < 1073741824)(hn:n<=1000):Bp M [.int c,.int n,.int b]=.ok (lI (rowOf c n b)):=by
 unfold Bp abA
 have hp:decide (CPow 10 18)=true:=decide_eq_true ⟨by decide,by decide,by decide⟩
 have hn1:(n:Int)<=100000:=by omega
 have hn2 : -100000<=(n:Int):=by omega
 have hm:∀x,decide (CMul x 69621)=true:=fun x=>mul_r (by decide)
 have ea:(if c < 0 then -c else c)=Ae c:=rfl
 by_cases h:10 ^ 18<=Ae c
 ·obtain⟨c',x4',e⟩:=Xn M b hb hb2 n 0 (Ae c) (some (.dat (.int n))) [] none none (by simp;omega)
  have e2:rowOf c n b=digs b n (Ae c):=if_pos h
  have h':(1000000000000000000:Int)<=Ae c:=by simpa using h
  simp[hp,ea,h',hn1,hn2,Qu,e,e2]
 ·obtain⟨x4',x5',e⟩:=aar M b hb n 0 ((Ae c % 1000003+17) * 69621 % 2147483647) (some (.dat (.int (Ae c)))) (some (.dat (.int n))) [] none (by simp;omega)
  have e2:rowOf c n b=Nm b n 0 ((Ae c % 1000003+17) * 69621 % 2147483647):=if_neg h
  have h':¬(1000000000000000000:Int)<=Ae c:=by simpa using h
  have e':=e
  simp[hp,ea,h',hn1,hn2,hm,Qu]at e ⊢
  rw[e]
  simp[e2]
def Ny(i j:Int):Int:=if j > i then j else i
def zf(l:List Int)(m:Int):List Int:=if m % 4=1 then l.map fun f=>Ny 0 (f - 7) else if m % 4=2 then l.map fun f=>f % 3 else l
theorem Ux(M:Mo)(l:List Int)(m:Int)(hl:l.length<=1000):tH M [lI l,.int m]=.ok (aM (zf l m)):=by
 unfold tH Pb
 have hl':l.length<=50000:=by omega
 have c1:=fJ (tg:=aG 2) (te:=aA qD (qC (.int 0)) (aA mK (ao 2) (qC (.int 7)))) (M:=M) (ρ:=[some (.dat (lI l)),some (.dat (.int m)),none]) PyData.int (fun f=>.int (Ny 0 (f - 7))) l fun x _=>⟨_,rfl,by simp[Ny]⟩
 have c2:=fJ (tg:=aG 2) (te:=aA oR (ao 2) (qC (.int 3))) (M:=M) (ρ:=[some (.dat (lI l)),some (.dat (.int m)),none]) PyData.int (fun f=>.int (f % 3)) l fun x _=>⟨_,rfl,by simp⟩
 by_cases h1:m % 4=1
 ·simp[h1,hl',c1,zf,aqB]
 ·by_cases h2:m % 4=2
  ·simp[h2,hl',c2,zf,aqB]
  ·simp[h1,h2,zf]
def Mg(c:Int):List Int:=zf ((rowOf c 7 10).take 6) ((rowOf c 7 10).getD 6 0)
theorem aeI{α:Type}(l:List α)(n:Nat):Rf.cutD l none (some (n:Int))=l.take n:=by
 unfold Rf.cutD
 rw[HT.sIx_nat]
 simp[HT.sIx]
theorem O5{α:Type}(l:List α)(n:Nat):Rf.cutD l (some (n:Int)) none=l.drop n:=by
 unfold Rf.cutD
 rw[HT.sIx_nat]
 simp[HT.sIx]
 by_cases h:n<=l.length
 ·rw[Nat.min_eq_left h]
  exact List.take_of_length_le (by simp)
 ·rw[Nat.min_eq_right (by omega),List.drop_eq_nil_of_le (by omega),List.drop_eq_nil_of_le (by omega)]
  simp
theorem Xk(l:List Int)(n:Nat)(h:n < l.length):atI (l.map PyData.int) (n:Int)=some (.int (l.getD n 0)):=atI_nat (by simp[h])
theorem ajl(M:Mo)(c:Int):Qn M [.int c]=.ok (aM (Mg c)):=by
 unfold Qn abK
 have h1:Bp M [.int c,.int 7,.int 10]=.ok (.list ((rowOf c 7 10).map .int)):=acp M c 7 10 (by decide) (by decide) (by decide)
 have h2:Rf.cutD ((rowOf c 7 10).map PyData.int) none (some 6)=((rowOf c 7 10).take 6).map PyData.int:=by
  rw[show(6:Int)=((6:Nat):Int) from rfl,aeI,List.map_take]
 have h3:atI ((rowOf c 7 10).map PyData.int) 6=some (.int ((rowOf c 7 10).getD 6 0)):=Xk _ 6 (by simp)
 have h4:tH M [.list (((rowOf c 7 10).take 6).map .int),.int ((rowOf c 7 10).getD 6 0)]=.ok (.tuple ((Mg c).map .int)):=Ux M _ _ (by simp)
 generalize (rowOf c 7 10).getD 6 0=z at h3 h4
 generalize ((rowOf c 7 10).take 6).map PyData.int=y at h2 h4
 simp[h1,h2,h3,h4]
theorem adT(c:Int):(Mg c).length=6:=by
 unfold Mg zf
 split
 ·simp
 ·split <;> simp
theorem aez{l:List Int}{m:Int}(h:∀x∈l,0<=x/\x < 10):∀x∈zf l m,0<=x/\x < 10:=by
 unfold zf Ny
 split
 ·intro x hx
  obtain⟨y,hy,rfl⟩:=aqt.mp hx
  have:=h y hy
  split <;> omega
 ·split
  ·intro x hx
   obtain⟨y,hy,rfl⟩:=aqt.mp hx
   have:=h y hy
   omega
  ·exact h
mutual
def lk:Nat->Dat->Bool
 |_,.none=>true
 |_,.bool _=>true
 |_,.int _=>true
 |_,.str _=>true
 |n+1,.list ds=>Rc n ds
 |n+1,.tuple ds=>Rc n ds
 |0,.list _=>false
 |0,.tuple _=>false
 |_,.dict _=>false
def Rc:Nat->List Dat->Bool
 |_,[]=>true
 |n,d::ds=>lk n d&&Rc n ds
end
theorem Fj{n:Nat}:∀{ds:List Dat},Rc n ds=true↔∀d∈ds,lk n d=true
 |[]=>by simp[Rc]
 |d::ds=>by simp[Rc,Fj (ds:=ds)]
@[simp]theorem amo (n:Nat) (l:List Int):Rc n (l.map PyData.int)=true:=Fj.mpr fun d h=>by
 obtain⟨i,_,rfl⟩:=aqt.mp h
 simp[lk]
theorem Vn(M:Mo)(i:Int):Fp M [.int i]=.ok (.bool true):=by
 unfold Fp Uk
 simp[yM,Ax]
theorem zip_self(ds:List Dat):xq ds ds=ds.map fun d=>.tuple [d,d]:=by
 unfold xq
 rw[List.zipWith_self]
theorem JD(M:Mo)(r:Mo->List Dat->Out Dat)(x0 x1:Option Cell):∀(ds:List Dat) (x2 x3:Option Cell),(∀d∈ds,r M [d,d]=.ok (.bool true))->∃x2' x3',fB (bA [2,3]) (Og r) (ds.map fun d=>PyData.tuple [d,d]) M [x0,x1,x2,x3]=.next [x0,x1,x2',x3'] M
 |[],x2,x3,_=>⟨x2,x3,rfl⟩
 |d::ds,x2,x3,h=>by
  obtain⟨x2',x3',ih⟩:=JD M r x0 x1 ds (some (.dat d)) (some (.dat d)) fun d hd=>h d (aqk _ hd)
  refine⟨x2',x3',?_⟩
  have hd:=h d aql
  rw[aqj,fK (ρ1:=[x0,x1,some (.dat d),some (.dat d)]) (by simp) (ρ2:=[x0,x1,some (.dat d),some (.dat d)]) (M2:=M) (by simp[Og,hd])]
  exact ih
theorem aaF(M:Mo):∀(n:Nat) (d:Dat),lk n d=true->mF (n+1) M [d,d]=.ok (.bool true):=by
 intro n
 induction n with
 |zero=>
  intro d h
  show mQ 4 (Fb (mF 0)) M [d,d]=_
  unfold Fb
  cases d with
  |none=>simp[lM]
  |bool b=>cases b <;> simp[lM]
  |int i=>simp[lM,yM,Ax,Vn]
  |str x=>simp[lM,yM,Ax]
  |list ds=>simp[lk]at h
  |tuple ds=>simp[lk]at h
  |dict kv=>simp[lk]at h
 |succ n ih=>
  intro d h
  show mQ 4 (Fb (mF (n+1))) M [d,d]=_
  unfold Fb
  cases d with
  |none=>simp[lM]
  |bool b=>cases b <;> simp[lM]
  |int i=>simp[lM,yM,Ax,Vn]
  |str x=>simp[lM,yM,Ax]
  |list ds=>
   rw[lk,Fj]at h
   obtain⟨x2',x3',e⟩:=JD M (mF (n+1)) (some (.dat (.list ds))) (some (.dat (.list ds))) ds none none fun d hd=>ih d (h d hd)
   simp[lM,yM,Ax,zip_self,e]
  |tuple ds=>
   rw[lk,Fj]at h
   obtain⟨x2',x3',e⟩:=JD M (mF (n+1)) (some (.dat (.tuple ds))) (some (.dat (.tuple ds))) ds none none fun d hd=>ih d (h d hd)
   simp[lM,yM,Ax,zip_self,e]
  |dict kv=>simp[lk]at h
inductive En where
 |torn (p:Nat)|cut (e:List Int)|sold (o:Int) (e:List Int)|moved (g:Int)|followed (o g:Int)|passed (o:Int)|died
def En.dat:En->Dat
 |.torn p=>.tuple [.str "torn",.int p]
 |.cut e=>.tuple [.str "cut",aM e]
 |.sold o e=>.tuple [.str "sold",.int o,aM e]
 |.moved g=>.tuple [.str "moved",.int g]
 |.followed o g=>.tuple [.str "followed",.int o,.int g]
 |.passed o=>.tuple [.str "passed",.int o]
 |.died=>.tuple [.str "died"]
inductive Fi where
 |brought (o g:Int) (e:List Int)|born (m o g:Int)
def Fi.dat:Fi->Dat
 |.brought o g e=>.tuple [.str "brought",.int o,.int g,aM e]
 |.born m o g=>.tuple [.str "born",.int m,.int o,.int g]
structure Sd where
 o:Int
 g:Int
 due:Option (List Int)
 ear:List Int
 al:Bool
def qG:Option (List Int)->Dat
 |none=>.none
 |some e=>aM e
def Sd.dat(s:Sd):Dat:=.tuple [.int s.o,.int s.g,qG s.due,aM s.ear,.bool s.al]
def wB(l:List Int)(p:Nat):List Int:=l.mapIdx fun i x=>if i=p then x+1 else x
def go(s:Sd):En->Sd
 |.torn p=>{ s with ear:=wB s.ear p }
 |.cut e=>{ s with due:=some e,ear:=e }
 |.sold o e=>{ s with o:=o,due:=some e,ear:=e }
 |.moved g=>{ s with g:=g }
 |.followed o g=>{ s with o:=o,g:=g }
 |.passed o=>{ s with o:=o }
 |.died=>{ s with al:=false }
def beg:Fi->Sd
 |.brought o g e=>⟨o,g,none,e,true⟩
 |.born _ o g=>⟨o,g,none,[0,0,0,0,0,0],true⟩
theorem aeV(M:Mo)(f:Fi):Bx M [f.dat]=.ok (beg f).dat:=by
 cases f <;> simp[Bx,Mu,Fi.dat,beg,Sd.dat,qG,jw]
theorem ZK(M:Mo)(l:List Int)(p:Nat)(hl:l.length<=1000):wN M [aM l,.int p]=.ok (aM (wB l p)):=by
 unfold wN Iw
 have c:kW 0 (l.map PyData.int)=(l.mapIdx fun i x=>(i,x)).map fun(q:Nat×Int)=>PyData.tuple [.int q.1,.int q.2]:=by
  unfold kW
  rw[List.mapIdx_eq_mapIdx_iff.mpr (fun i h=>rfl)]
  apply aqE
  intro i
  simp
  cases l[i]? <;> simp
 have c2:=fJ (tg:=bA [2,3]) (te:=Rp (bx (aA cC (ao 2) (ao 1))) (aA eV (ao 3) (qC (.int 1))) (aq 3)) (M:=M) (ρ:=[some (.dat (aM l)),some (.dat (.int p)),none,none]) (fun(q:Nat×Int)=>PyData.tuple [.int q.1,.int q.2]) (fun q=>.int (if q.1=p then q.2+1 else q.2)) (l.mapIdx fun i x=>(i,x)) fun x _=>⟨[some (.dat (aM l)),some (.dat (.int p)),some (.dat (.int x.1)),some (.dat (.int x.2))],by simp,by
  by_cases h:x.1=p
  ·simp[h]
  ·have h':¬((x.1:Int)=p):=by omega
   simp[h,h']⟩
 have hl':l.length<=50000:=by omega
 simp[c,c2,hl',wB]
 apply aqE
 intro i
 simp
 cases l[i]? <;> simp
theorem abz(l:List Int)(p:Nat):(wB l p).length=l.length:=by simp[wB]
theorem gone_ok(M:Mo)(s:Sd)(e:En)(hl:s.ear.length<=1000):zH M [s.dat,e.dat]=.ok (go s e).dat:=by
 have h:=fun p=>ZK M s.ear p hl
 cases e <;> simp[zH,JL,En.dat,go,Sd.dat,qG,h]
abbrev Row3:=Int×Int×List Int
def gY(r:Row3):Dat:=.tuple [.int r.1,.int r.2.1,aM r.2.2]
structure dU where
 fi:Fi
 en:List En
 mo:Int
 sd:Sd
structure aK where
 count:Int
 own:List Int
 al:List Int
 ci:List (List Int)
 held:List Row3
 bs:List dU
structure Lay where
 c:Nat
 g:Nat
 r:Nat
 h:Nat
 bs:List Nat
 fr:List (Nat×Inst)
def aO(L:Lay)(c:aK):Inst:=⟨"Commons",[("owner_count",.dat (.int c.count)),("holders",.dic false (c.own.map fun o=>(.int o,.bool true))),("grounds",.dat (ob L.g)),("rights",.dat (ob L.r)),("herd",.dat (ob L.h))]⟩
def dh(n m:Nat)(c:aK):Inst:=⟨"Grounds",[("allowances",.lst n (c.al.map PyData.int)),("circles",.lst m (c.ci.map aM))]⟩
def m9(c:aK):Inst:=⟨"Rights",[("held",.dic true (c.held.map fun r=>(gY r,.bool true)))]⟩
def dH(n:Nat)(L:Lay):Inst:=⟨"Herd",[("beasts",.lst n (L.bs.map ob))]⟩
def iB(n:Nat)(b:dU):Inst:=⟨"Beast",[("story",.lst n (b.fi.dat::b.en.map En.dat)),("mother",.dat (.int b.mo)),("owner",.dat (.int b.sd.o)),("ground",.dat (.int b.sd.g)),("due",.dat (qG b.sd.due)),("ear",.dat (aM b.sd.ear)),("alive",.dat (.bool b.sd.al))]⟩
structure At(M:Mo)(L:Lay)(c:aK):Prop where
 hc:M[L.c]?=some (aO L c)
 hg:∃n m,M[L.g]?=some (dh n m c)
 hr:M[L.r]?=some (m9 c)
 hh:∃n,M[L.h]?=some (dH n L)
 len:L.bs.length=c.bs.length
 hb:∀(i h:Nat) (b:dU),L.bs[i]?=some h->c.bs[i]?=some b->∃n,M[h]?=some (iB n b)
 nd:(L.c::L.g::L.r::L.h::L.bs).Nodup
 fr:∀p∈L.fr,M[p.1]?=some p.2/\p.1∉L.c::L.g::L.r::L.h::L.bs
section
variable{M:Mo}{L:Lay}{c:aK}(a:At M L c)
include a
theorem aah:o7 M [ob L.g]=.ok (.int c.al.length):=by
 obtain⟨n,m,hg⟩:=a.hg
 simp[o7,tZ,hg,dh]
theorem aiC(g:Int):vo M [ob L.g,.int g]=.ok (.bool (decide (1<=g/\g<=c.al.length))):=by
 obtain⟨n,m,hg⟩:=a.hg
 have:=aah a
 by_cases h:1<=g <;> simp[vo,Ay,hg,dh,this,eO,h]
end
@[simp]theorem aed {α:Type} (l:List α) (n:Nat):atI l (n:Int)=l[n]?:=by
 cases h:l[n]? with
 |some a=>exact atI_nat h
 |none=>
  have hl:=List.getElem?_eq_none_iff.mp h
  unfold atI ixN
  rw[if_pos (by omega),if_neg (by omega)]
  rfl
abbrev Vg(c:aK)(x:Int):Prop:=1<=x/\x<=c.al.length
theorem qP{c:aK}{x:Int}(h:Vg c x):∃k:Nat,k < c.al.length/\x=(k:Int)+1:=⟨(x - 1).toNat,by omega,by omega⟩
structure cV(c:aK):Prop where
 len:c.ci.length=c.al.length
 few:c.al.length<=200
 al:∀x∈c.al,0<=x/\x<=9
 mem:∀(k:Nat) (l:List Int),c.ci[k]?=some l->∀y∈l,Vg c y
 own:∀(k:Nat) (l:List Int),c.ci[k]?=some l->(k:Int)+1∈l
 up:∀(k:Nat) (l:List Int),c.ci[k]?=some l->l.Pairwise (· < ·)
 one:∀(k j:Nat) (l:List Int),c.ci[k]?=some l->(j:Int)+1∈l->c.ci[j]?=some l
def aH(c:aK)(x:Int):List Int:=(c.ci[(x - 1).toNat]?).getD []
def jG(c:aK)(x:Int):Int:=(c.al[(x - 1).toNat]?).getD 0
def abI:List Int->Int
 |[]=>0
 |n::ns=>Ed n ns
def roomOf(c:aK)(x:Int):Int:=abI ((aH c x).map (jG c))
theorem adu:∀{l:List Int} {lo hi:Int},l.Pairwise (· < ·)->(∀y∈l,lo<=y/\y<=hi)->(l.length:Int)<=max 0 (hi - lo+1)
 |[],_,_,_,_=>by simp;omega
 |x::l,lo,hi,h,hb=>by
  rw[List.pairwise_cons]at h
  have:=adu (lo:=x+1) (hi:=hi) h.2 fun y hy=>⟨by have:=h.1 y hy;omega,(hb y (aqk _ hy)).2⟩
  have:=hb x aql
  simp
  omega
theorem maxD_ints{l:List Int}(h:l≠[]):maxD (.list (l.map PyData.int))=.ok (.int (abI l)):=by
 cases l with
 |nil=>exact absurd rfl h
 |cons n ns=>
  show(match intsOf ((n::ns).map PyData.int) with
   |some (n::ns)=>Out.ok (PyData.int (Ed n ns))
   |_=>Out.bad)=_
  rw[Br]
  rfl
theorem cV.clen{c:aK}(i:cV c){k:Nat}{l:List Int}(h:c.ci[k]?=some l):l.length<=200:=by
 have:=adu (lo:=1) (hi:=c.al.length) (i.up k l h) fun y hy=>i.mem k l h y hy
 have:=i.few
 omega
section
variable{M:Mo}{L:Lay}{c:aK}(a:At M L c)
include a
theorem v9(x:Int):ux M [ob L.g,.int x]=if Vg c x then .ok .none else .exc ⟨"NoGround",[]⟩:=by
 obtain⟨n,m,hg⟩:=a.hg
 have:=aiC a x
 by_cases h:Vg c x <;> simp[ux,yr,hg,dh,this,yQ,h]
theorem JZ(x:Int):jN M [ob L.g,.int x]=if Vg c x then .ok (.int (jG c x)) else .exc ⟨"NoGround",[]⟩:=by
 obtain⟨n,m,hg⟩:=a.hg
 have hn:=v9 a x
 by_cases h:Vg c x
 ·obtain⟨k,hk,rfl⟩:=qP h
  rw[if_pos h]at hn ⊢
  simp[jN,mX,hg,dh,hn,aF,jG,hk]
 ·rw[if_neg h]at hn ⊢
  simp[jN,mX,hg,dh,hn,aF]
theorem uW(i:cV c)(x:Int):j7 M [ob L.g,.int x]=if Vg c x then .ok (lI (aH c x)) else .exc ⟨"NoGround",[]⟩:=by
 obtain⟨n,m,hg⟩:=a.hg
 have hn:=v9 a x
 by_cases h:Vg c x
 ·obtain⟨k,hk,rfl⟩:=qP h
  have hk':k < c.ci.length:=by rw[i.len];exact hk
  rw[if_pos h]at hn ⊢
  simp[j7,ou,hg,dh,hn,aF,aH,hk']
 ·rw[if_neg h]at hn ⊢
  simp[j7,ou,hg,dh,hn,aF]
theorem afW(i:cV c)(x:Int):pO M [ob L.g,.int x]=if Vg c x then .ok (.int (roomOf c x)) else .exc ⟨"NoGround",[]⟩:=by
 obtain⟨n,m,hg⟩:=a.hg
 have hn:=uW a i x
 by_cases h:Vg c x
 ·rw[if_pos h]at hn ⊢
  obtain⟨k,hk,rfl⟩:=qP h
  have hk':k < c.ci.length:=by rw[i.len];exact hk
  have hc:c.ci[k]?=some (aH c ((k:Int)+1)):=by simp[aH,hk']
  unfold roomOf
  generalize aH c ((k:Int)+1)=l at hc hn ⊢
  have hl:l.length<=50000:=by have:=i.clen hc;omega
  have hne:l.map (jG c)≠[]:=fun z=>by
   have:=i.own k l hc
   rw[List.map_eq_nil_iff.mp z]at this
   cases this
  have key:=fJ (tg:=aG 2) (te:=aP dX (ao 0) (ak (aq 2) au)) (M:=M) (ρ:=[some (.dat (ob L.g)),some (.dat (.int ((k:Int)+1))),none]) PyData.int (fun y=>.int (jG c y)) l fun y hy=>⟨[some (.dat (ob L.g)),some (.dat (.int ((k:Int)+1))),some (.dat (.int y))],by simp,by
   have:=JZ a y
   rw[if_pos (i.mem k l hc y hy)]at this
   simp[hg,dh,dX,this]⟩
  simp[pO,uD,hg,dh,hn,bB,key,hl]
  have:=maxD_ints hne
  rw[aqK]at this
  simp[aqB]at this ⊢
  simp[this]
 ·rw[if_neg h]at hn ⊢
  simp[pO,uD,hg,dh,hn,bB]
end
theorem bG{M:Mo}{h k:Nat}{i j:Inst}(hm:M[h]?=some j):(M.set h i)[k]?=if h=k then some i else M[k]?:=by
 have hl:h < M.length:=(aqh.mp hm).1
 rw[aq4]
 by_cases e:h=k
 ·subst e
  rw[if_pos rfl,if_pos hl,if_pos rfl]
 ·rw[if_neg e,if_neg e]
theorem At.neq{M:Mo}{L:Lay}{c:aK}(a:At M L c):L.c≠L.g/\L.c≠L.r/\L.c≠L.h/\L.g≠L.r/\L.g≠L.h/\L.r≠L.h/\(∀x∈L.bs,L.c≠x/\L.g≠x/\L.r≠x/\L.h≠x)/\L.bs.Nodup:=by
 have nd:=a.nd
 simp only[arl,aqv,not_or]at nd
 obtain⟨⟨n1,n2,n3,n4⟩,⟨n5,n6,n7⟩,⟨n8,n9⟩,n10,n11⟩:=nd
 exact⟨n1,n2,n3,n5,n6,n8,fun x hx=>⟨fun z=>n4 (z ▸ hx),fun z=>n7 (z ▸ hx),fun z=>n9 (z ▸ hx),fun z=>n10 (z ▸ hx)⟩,n11⟩
theorem At.frS{M:Mo}{L:Lay}{c:aK}(a:At M L c){h:Nat}{i j:Inst}(hm:M[h]?=some j)(hh:h∈L.c::L.g::L.r::L.h::L.bs):∀p∈L.fr,(M.set h i)[p.1]?=some p.2/\p.1∉L.c::L.g::L.r::L.h::L.bs:=fun p hp=>by
 obtain⟨h1,h2⟩:=a.fr p hp
 refine⟨?_,h2⟩
 rw[bG hm,if_neg (fun(z:h=p.1)=>h2 (z ▸ hh))]
 exact h1
theorem At.setG{M:Mo}{L:Lay}{c:aK}(a:At M L c){al:List Int}{ci:List (List Int)}{n m:Nat}:At (M.set L.g (dh n m { c with al:=al,ci:=ci })) L { c with al:=al,ci:=ci }:=by
 obtain⟨n',m',hg⟩:=a.hg
 obtain⟨e1,e2,e3,e4,e5,e6,e7,e8⟩:=a.neq
 have e1':=Ne.symm e1
 refine⟨?_,⟨n,m,?_⟩,?_,?_,a.len,fun i h b h1 h2=>?_,a.nd,a.frS hg (by simp)⟩
 ·rw[bG hg,if_neg e1']
  exact a.hc
 ·rw[bG hg,if_pos rfl]
 ·rw[bG hg,if_neg e4]
  exact a.hr
 ·rw[bG hg,if_neg e5]
  exact a.hh
 ·rw[bG hg,if_neg (e7 h (aqn h1)).2.1]
  exact a.hb i h b h1 h2
theorem At.aeo{M:Mo}{L:Lay}{c:aK}(a:At M L c){held:List Row3}:At (M.set L.r (m9 { c with held:=held })) L { c with held:=held }:=by
 obtain⟨e1,e2,e3,e4,e5,e6,e7,e8⟩:=a.neq
 have e2':=Ne.symm e2
 have e4':=Ne.symm e4
 have hr:=a.hr
 refine⟨?_,?_,?_,?_,a.len,fun i h b h1 h2=>?_,a.nd,a.frS hr (by simp)⟩
 ·rw[bG hr,if_neg e2']
  exact a.hc
 ·rw[bG hr,if_neg e4']
  exact a.hg
 ·rw[bG hr,if_pos rfl]
 ·rw[bG hr,if_neg e6]
  exact a.hh
 ·rw[bG hr,if_neg (e7 h (aqn h1)).2.2.1]
  exact a.hb i h b h1 h2
theorem At.setC{M:Mo}{L:Lay}{c:aK}(a:At M L c){n:Int}{own:List Int}:At (M.set L.c (aO L { c with count:=n,own:=own })) L { c with count:=n,own:=own }:=by
 obtain⟨e1,e2,e3,e4,e5,e6,e7,e8⟩:=a.neq
 have hc:=a.hc
 refine⟨?_,?_,?_,?_,a.len,fun i h b h1 h2=>?_,a.nd,a.frS hc (by simp)⟩
 ·rw[bG hc,if_pos rfl]
 ·rw[bG hc,if_neg e1]
  exact a.hg
 ·rw[bG hc,if_neg e2]
  exact a.hr
 ·rw[bG hc,if_neg e3]
  exact a.hh
 ·rw[bG hc,if_neg (e7 h (aqn h1)).1]
  exact a.hb i h b h1 h2
theorem At.setB{M:Mo}{L:Lay}{c:aK}(a:At M L c){k h n:Nat}{b':dU}(hk:L.bs[k]?=some h):At (M.set h (iB n b')) L { c with bs:=c.bs.set k b' }:=by
 obtain⟨e1,e2,e3,e4,e5,e6,e7,e8⟩:=a.neq
 have hl:k < c.bs.length:=by rw[←a.len];exact(aqh.mp hk).1
 obtain⟨n0,hb⟩:=a.hb k h _ hk (aqi hl)
 obtain⟨q1,q2,q3,q4⟩:=e7 h (aqn hk)
 refine⟨?_,?_,?_,?_,by simp[a.len],fun i h2 b h3 h4=>?_,a.nd,a.frS hb (by simp[aqn hk])⟩
 ·rw[bG hb,if_neg (Ne.symm q1)]
  exact a.hc
 ·rw[bG hb,if_neg (Ne.symm q2)]
  exact a.hg
 ·rw[bG hb,if_neg (Ne.symm q3)]
  exact a.hr
 ·rw[bG hb,if_neg (Ne.symm q4)]
  exact a.hh
 ·by_cases e:i=k
  ·subst e
   rw[hk]at h3
   cases h3
   have h4:(c.bs.set i b')[i]?=some b:=h4
   rw[aqx hl]at h4
   cases h4
   exact⟨n,by rw[bG hb,if_pos rfl]⟩
  ·have h4:(c.bs.set k b')[i]?=some b:=h4
   rw[aqo (Ne.symm e)]at h4
   have ne:h≠h2:=fun z=>by
    subst z
    exact e ((List.getElem?_inj (aqh.mp h3).1 e8).mp (h3.trans hk.symm))
   rw[bG hb,if_neg ne]
   exact a.hb i h2 b h3 h4
theorem At.alX{M:Mo}{L:Lay}{c:aK}(a:At M L c){M2:Mo}{h n n2:Nat}{b:dU}(hh:M.length<=h)(hM:∀k,k < M.length->M2[k]?=M[k]?)(hb:M2[h]?=some (iB n b)):At (M2.set L.h (dH n2 { L with bs:=L.bs++[h] })) { L with bs:=L.bs++[h] } { c with bs:=c.bs++[b] }:=by
 obtain⟨e1,e2,e3,e4,e5,e6,e7,e8⟩:=a.neq
 have lt:∀{k:Nat} {i:Inst},M[k]?=some i->k < M.length:=fun z=>(aqh.mp z).1
 obtain⟨n0,m0,hg⟩:=a.hg
 obtain⟨n1,hh1⟩:=a.hh
 have l1:=lt a.hc
 have l2:=lt hg
 have l3:=lt a.hr
 have l4:=lt hh1
 have lb:∀x∈L.bs,x < M.length:=fun x hx=>by
  obtain⟨i,hi,e⟩:=List.mem_iff_getElem.mp hx
  obtain⟨n',z⟩:=a.hb i x _ (by rw[aqi hi,e]) (aqi (by rw[←a.len];exact hi))
  exact lt z
 have g4:M2[L.h]?=some (dH n1 L):=by rw[hM _ l4];exact hh1
 refine⟨?_,⟨n0,m0,?_⟩,?_,⟨n2,?_⟩,by simp[a.len],fun i h2 b2 h3 h4=>?_,?_,fun p hp=>?_⟩
 ·show(M2.set L.h _)[L.c]?=_
  rw[bG g4,if_neg (Ne.symm e3),hM _ l1]
  exact a.hc
 ·show(M2.set L.h _)[L.g]?=_
  rw[bG g4,if_neg (Ne.symm e5),hM _ l2]
  exact hg
 ·show(M2.set L.h _)[L.r]?=_
  rw[bG g4,if_neg (Ne.symm e6),hM _ l3]
  exact a.hr
 ·show(M2.set L.h _)[L.h]?=_
  rw[bG g4,if_pos rfl]
 ·have h3:(L.bs++[h])[i]?=some h2:=h3
  have h4:(c.bs++[b])[i]?=some b2:=h4
  by_cases hi:i < L.bs.length
  ·rw[aqq hi]at h3
   rw[aqq (by rw[←a.len];exact hi)]at h4
   have m:=aqn h3
   rw[bG g4,if_neg (e7 h2 m).2.2.2,hM _ (lb h2 m)]
   exact a.hb i h2 b2 h3 h4
  ·rw[aqy (by omega)]at h3
   rw[aqy (by rw[←a.len];omega),←a.len]at h4
   have e0:i - L.bs.length=0:=by
    have:=(aqh.mp h3).1
    simp at this
    omega
   rw[e0]at h3 h4
   cases h3
   cases h4
   exact⟨n,by rw[bG g4,if_neg (by omega)];exact hb⟩
 ·have nd:=a.nd
  show(L.c::L.g::L.r::L.h::(L.bs++[h])).Nodup
  have:(L.c::L.g::L.r::L.h::(L.bs++[h]))=(L.c::L.g::L.r::L.h::L.bs)++[h]:=by simp
  rw[this,aqZ]
  refine⟨nd,by simp,fun x hx y hy=>?_⟩
  rw[aqm.mp hy]
  rcases aqv.mp hx with rfl|hx
  ·omega
  rcases aqv.mp hx with rfl|hx
  ·omega
  rcases aqv.mp hx with rfl|hx
  ·omega
  rcases aqv.mp hx with rfl|hx
  ·omega
  have:=lb x hx
  omega
 ·obtain⟨h1,h2⟩:=a.fr p hp
  have hl:=lt h1
  refine⟨?_,?_⟩
  ·show(M2.set L.h _)[p.1]?=_
   rw[bG g4,if_neg (fun(z:L.h=p.1)=>h2 (by simp[←z])),hM _ hl]
   exact h1
  ·show p.1∉L.c::L.g::L.r::L.h::(L.bs++[h])
   intro z
   have:p.1∈(L.c::L.g::L.r::L.h::L.bs)++[h]:=by simpa using z
   rcases aqp.mp this with z|z
   ·exact h2 z
   ·rw[aqm]at z
    omega
section
variable{M:Mo}{L:Lay}{c:aK}(a:At M L c)
include a
theorem V8(i:cV c)(hf:c.al.length < 200)(x:Int):if 0<=x/\x<=9 then ∃M',eZ M [ob L.g,.int x]=.ok (.int (c.al.length+1)) M'/\At M' L { c with al:=c.al++[x],ci:=c.ci++[[(c.al.length:Int)+1]] } else eZ M [ob L.g,.int x]=.exc ⟨"BadAllowance",[]⟩ M:=by
 obtain⟨n,m,hg⟩:=a.hg
 have hl:∀i,(M.set L.g i)[L.g]?=some i:=fun i=>by rw[bG hg,if_pos rfl]
 by_cases h:0<=x/\x<=9
 ·rw[if_pos h]
  refine⟨_,?_,a.setG (n:=n) (m:=m)⟩
  have h2:c.ci.length < 100000:=by rw[i.len];omega
  have h3:c.al.length < 100000:=by omega
  simp[eZ,jB,o7,tZ,eO,hg,dh,hl,h,gK,h2,h3]
  rfl
 ·rw[if_neg h]
  have:decide (0<=x)=true->decide (x<=9)=false:=by simp;omega
  by_cases h0:0<=x
  ·have h9:¬x<=9:=by omega
   simp[eZ,jB,gK,h0,h9]
  ·simp[eZ,jB,gK,h0]
end
def encl(ci:List (List Int))(l:List Int):List (List Int):=l.foldl (fun s y=>s.set (y - 1).toNat l) ci
theorem vR(l:List Int):∀(k:List Int) (ci:List (List Int)),(k.foldl (fun s y=>s.set (y - 1).toNat l) ci).length=ci.length
 |[],_=>rfl
 |y::k,ci=>by rw[aq8,vR l k];simp
@[simp]theorem amj (n k:Nat):ixN n (k:Int)=if k < n then some k else none:=by
 unfold ixN
 rw[if_pos (by omega)]
 by_cases h:k < n
 ·rw[if_pos (by omega),if_pos h]
  simp
 ·rw[if_neg (by omega),if_neg h]
section
variable{M:Mo}{L:Lay}{c:aK}{n m:Nat}(hg:M[L.g]?=some (dh n m c))
include hg
theorem Vb(l:List Int):∀(k:List Int) (s:List (List Int)) (o:Option Cell),(∀y∈k,1<=y/\y<=s.length)->
  ∃o',fB (aG 3) rE (k.map PyData.int) (M.set L.g (dh n m { c with ci:=s })) [some (.dat (ob L.g)),some (.dat (lI l)),some (.dat (aM l)),o]=.next [some (.dat (ob L.g)),some (.dat (lI l)),some (.dat (aM l)),o'] (M.set L.g (dh n m { c with ci:=k.foldl (fun s y=>s.set (y - 1).toNat l) s }))
 |[],s,o,_=>⟨o,rfl⟩
 |y::k,s,o,h=>by
  have hl:∀i,(M.set L.g i)[L.g]?=some i:=fun i=>by rw[bG hg,if_pos rfl]
  obtain⟨j,hj,rfl⟩:∃j:Nat,j < s.length/\y=(j:Int)+1:=⟨(y - 1).toNat,by have:=h y aql;omega,by have:=h y aql;omega⟩
  obtain⟨o',ih⟩:=Vb l k (s.set j l) (some (.dat (.int ((j:Int)+1)))) fun z hz=>by
   have:=h z (aqk _ hz)
   simpa using this
  refine⟨o',?_⟩
  rw[aqj,fK (ρ1:=[some (.dat (ob L.g)),some (.dat (lI l)),some (.dat (aM l)),some (.dat (.int ((j:Int)+1)))]) (M2:=M.set L.g (dh n m { c with ci:=s.set j l })) (ρ2:=[some (.dat (ob L.g)),some (.dat (lI l)),some (.dat (aM l)),some (.dat (.int ((j:Int)+1)))]) (by simp) (by simp[rE,hl,dh,hj,List.map_set]),ih]
  simp
end
theorem Ye{M:Mo}{h:Nat}{i:Inst}(e:M[h]?=some i):M.set h i=M:=by
 apply aqE
 intro k
 rw[bG e]
 split
 ·next z=>rw[←z,e]
 ·rfl
section
variable{M:Mo}{L:Lay}{c:aK}(a:At M L c)
include a
theorem IK(l:List Int)(h:∀y∈l,1<=y/\y<=c.ci.length):∃M',lG M [ob L.g,lI l]=.ok (lI l) M'/\At M' L { c with ci:=encl c.ci l }:=by
 obtain⟨n,m,hg⟩:=a.hg
 obtain⟨o',key⟩:=Vb hg l l c.ci none h
 have e:(dh n m { c with ci:=c.ci })=dh n m c:=rfl
 rw[e,Ye hg]at key
 refine⟨_,?_,a.setG (n:=n) (m:=m) (al:=c.al)⟩
 simp[lG,uK,key,encl]
end
theorem any_ints(y:Int)(l:List Int):((l.map PyData.int).any fun d=>PyData.eqv d (.int y))=decide (y∈l):=by
 induction l with
 |nil=>simp
 |cons x l ih=>
  rw[aqj,aq9,ih,YD]
  by_cases h:x=y
  ·simp[h]
  ·have:¬y=x:=fun z=>h z.symm
   simp[h,this]
theorem Ge(neg:Bool)(y:Int)(l:List Int):inD neg (.int y) (lI l)=.ok (.bool (neg ^^ decide (y∈l))):=by
 show(Out.when (okd 12 (.int y)&&mU 12 (l.map PyData.int)) (.ok ((l.map PyData.int).any fun z=>PyData.eqv z (.int y)))).bind _=_
 rw[any_ints,af5,Ve]
 rfl
section
variable{M:Mo}{L:Lay}{c:aK}(a:At M L c)
include a
theorem abr(i:cV c)(x y:Int)(hx:Vg c x)(hy:Vg c y):if y∈aH c x then kY M [ob L.g,.int x,.int y]=.exc ⟨"Together",[]⟩ M else
  ∃M',kY M [ob L.g,.int x,.int y]=.ok (lI (sortI (aH c x++aH c y))) M'/\At M' L { c with ci:=encl c.ci (sortI (aH c x++aH c y)) }:=by
 have t1:=uW a i x
 have t2:=uW a i y
 rw[if_pos hx]at t1
 rw[if_pos hy]at t2
 obtain⟨n,m,hg⟩:=a.hg
 have hcx:c.ci[(x - 1).toNat]?=some (aH c x):=by
  obtain⟨k,hk,rfl⟩:=qP hx
  have hk':k < c.ci.length:=by rw[i.len];exact hk
  simp[aH,hk']
 have hcy:c.ci[(y - 1).toNat]?=some (aH c y):=by
  obtain⟨k,hk,rfl⟩:=qP hy
  have hk':k < c.ci.length:=by rw[i.len];exact hk
  simp[aH,hk']
 by_cases h:y∈aH c x
 ·rw[if_pos h]
  simp[kY,rP,hg,dh,bB,t1,t2,Ge,h]
 ·rw[if_neg h]
  have hm:∀z∈sortI (aH c x++aH c y),1<=z/\z<=c.ci.length:=fun z hz=>by
   unfold sortI at hz
   rw[List.mem_mergeSort,aqp]at hz
   rw[i.len]
   rcases hz with hz|hz
   ·exact i.mem _ _ hcx z hz
   ·exact i.mem _ _ hcy z hz
  obtain⟨M',h1,h2⟩:=IK a _ hm
  refine⟨M',?_,h2⟩
  have l1:=i.clen hcx
  have l2:=i.clen hcy
  have hs:zA (lI (aH c x++aH c y))=.ok (lI (sortI (aH c x++aH c y))):=by
   show(match intsOf ((aH c x++aH c y).map PyData.int) with
    |some l=>Out.ok (PyData.list ((sortI l).map PyData.int))
    |none=>_)=_
   rw[Br]
  have hz:(aH c x).length+(aH c y).length<=100000:=by omega
  have hs:zA (.list ((aH c x).map PyData.int++(aH c y).map PyData.int))=.ok (lI (sortI (aH c x++aH c y))):=by rw[←List.map_append];exact hs
  simp[kY,rP,hg,dh,bB,gj,t1,t2,Ge,h,hz,hs,h1]
theorem acF(i:cV c)(x:Int):if Vg c x then(if (aH c x).filter (fun y=>!(y==x))=[] then jg M [ob L.g,.int x]=.exc ⟨"Alone",[]⟩ M else
  ∃M',jg M [ob L.g,.int x]=.ok (lI ((aH c x).filter (fun y=>!(y==x)))) M'/\At M' L { c with ci:=encl (encl c.ci [x]) ((aH c x).filter (fun y=>!(y==x))) }) else jg M [ob L.g,.int x]=.exc ⟨"NoGround",[]⟩ M:=by
 have t1:=uW a i x
 obtain⟨n,m,hg⟩:=a.hg
 by_cases hx:Vg c x
 ·rw[if_pos hx]at t1 ⊢
  have hcx:c.ci[(x - 1).toNat]?=some (aH c x):=by
   obtain⟨k,hk,rfl⟩:=qP hx
   have hk':k < c.ci.length:=by rw[i.len];exact hk
   simp[aH,hk']
  have hl:(aH c x).length<=50000:=by have:=i.clen hcx;omega
  have key:=gA (tg:=aG 3) (tt:=bx (aA u9 (ao 3) (ao 1))) (te:=aq 3) (M:=M) (ρ:=[some (.dat (ob L.g)),some (.dat (.int x)),none,none]) PyData.int (fun y=>!(y==x)) PyData.int (aH c x) fun y _=>⟨[some (.dat (ob L.g)),some (.dat (.int x)),none,some (.dat (.int y))],by simp,by simp,fun _=>by simp⟩
  by_cases he:(aH c x).filter (fun y=>!(y==x))=[]
  ·rw[if_pos he]
   rw[he]at key
   simp only[aq3]at key
   simp[jg,pH,hg,dh,bB,t1,key,hl]
  ·rw[if_neg he]
   generalize hL:(aH c x).filter (fun y=>!(y==x))=left at he key
   have hm:∀z∈left,1<=z/\z<=(encl c.ci [x]).length:=fun z hz=>by
    rw[←hL,aqC]at hz
    unfold encl
    rw[vR,i.len]
    exact i.mem _ _ hcx z hz.1
   obtain⟨M1,h1,a1⟩:=IK a [x] (fun z hz=>by rw[aqm.mp hz,i.len];exact hx)
   obtain⟨M2,h2,a2⟩:=IK a1 left hm
   refine⟨M2,?_,a2⟩
   obtain⟨n1,m1,hg1⟩:=a1.hg
   have h1:lG M [ob L.g,.list [.int x]]=.ok (.list [.int x]) M1:=h1
   have he':left.isEmpty=false:=by cases left with
    |nil=>exact absurd rfl he
    |cons _ _=>rfl
   simp[jg,pH,hg,hg1,dh,bB,gj,t1,key,hl,h1,h2,he']
 ·rw[if_neg hx]at t1 ⊢
  simp[jg,pH,hg,dh,bB,t1]
end
theorem af6(o g:Int)(m:List Int)(o' g':Int)(m':List Int):PyData.eqv (gY (o,g,m)) (gY (o',g',m'))=decide ((o,g,m)=(o',g',m')):=by
 simp only[gY,X5,aa3,YD,yZ,agR,Bool.and_true]
 by_cases h1:o=o' <;> by_cases h2:g=g' <;> by_cases h3:m=m' <;> simp[h1,h2,h3]
theorem ab5(r s:Row3):PyData.eqv (gY r) (gY s)=decide (r=s):=af6 _ _ _ _ _ _
theorem Vo:∀l:List Int,wF (l.map PyData.int)=some (l.map NestedKey.num)
 |[]=>rfl
 |i::l=>by rw[aqj,wF,Vo l];rfl
theorem ajr(r:Row3):sU (gY r)=some (.tup [.num r.1,.num r.2.1,.tup (r.2.2.map .num)]):=by
 simp[gY,sU,wF,Vo]
theorem depth_ints:∀l:List Int,NestedKey.depthAll (l.map NestedKey.num)<=1
 |[]=>by simp[NestedKey.depthAll]
 |i::l=>by
  have:=depth_ints l
  simp[NestedKey.depthAll,NestedKey.depth]
  omega
theorem RP(kvs:List (Dat×Dat))(r:Row3):dhas true kvs (gY r)=.ok (kvs.any fun p=>PyData.eqv p.1 (gY r)):=by
 have hk:=ajr r
 have hd:NestedKey.depth (.tup [.num r.1,.num r.2.1,.tup (r.2.2.map .num)])<=8:=by
  have:=depth_ints r.2.2
  simp[NestedKey.depth,NestedKey.depthAll]
  omega
 show(match sU (gY r) with
  |some k=>match decide (k.depth<=8) with
   |true=>Out.ok (kvs.any fun p=>PyData.eqv p.1 (gY r))
   |false=>.bad
  |none=>.bad)=_
 rw[hk]
 show(match decide (NestedKey.depth (.tup [.num r.1,.num r.2.1,.tup (r.2.2.map .num)])<=8) with
   |true=>Out.ok (kvs.any fun p=>PyData.eqv p.1 (gY r))
   |false=>.bad)=_
 rw[decide_eq_true hd]
theorem Y7(held:List Row3)(r:Row3):((held.map fun r=>(gY r,PyData.bool true)).any fun p=>PyData.eqv p.1 (gY r))=decide (r∈held):=by
 induction held with
 |nil=>simp
 |cons s held ih=>
  rw[aqj,aq9,ih,ab5]
  by_cases h:s=r
  ·simp[h]
  ·have:¬r=s:=fun z=>h z.symm
   simp[h,this]
def bQ(c:aK)(o g:Int):List (List Int):=(c.held.filter fun r=>(r.1==o)&&(r.2.1==g)).map fun r=>r.2.2
section
variable{M:Mo}{L:Lay}{c:aK}(a:At M L c)(few:c.held.length<=50000)
include a few
theorem Hz(o g:Int):tY M [ob L.r,.int o,.int g]=.ok (.list ((bQ c o g).map aM)):=by
 have hr:=a.hr
 have key:=gA (tg:=bA [3,4,5]) (tt:=jY (bx (aA cC (ao 3) (ao 1))) (bx (aA cC (ao 4) (ao 2)))) (te:=aq 5) (M:=M) (ρ:=[some (.dat (ob L.r)),some (.dat (.int o)),some (.dat (.int g)),none,none,none]) gY (fun r=>(r.1==o)&&(r.2.1==g)) (fun r=>aM r.2.2) c.held fun r _=>⟨[some (.dat (ob L.r)),some (.dat (.int o)),some (.dat (.int g)),some (.dat (.int r.1)),some (.dat (.int r.2.1)),some (.dat (aM r.2.2))],by simp[gY],by
  by_cases h:r.1=o <;> simp[h],fun _=>by simp⟩
 have e:(c.held.map fun r=>(gY r,PyData.bool true)).map (·.1)=c.held.map gY:=by simp
 simp[tY,yC,hr,m9,bQ]
 simp[aqB,key,few]
theorem Xx(o g:Int):oM M [ob L.r,.int o,.int g]=.ok (.bool (decide (bQ c o g≠[]))):=by
 have hr:=a.hr
 have h:=Hz a few o g
 simp[oM,tD,hr,m9,cH,h,List.length_pos_iff]
theorem Wb(near:List Int):mZ M [ob L.r,lI near]=.ok (.list ((c.held.filter fun r=>decide (r.2.1∈near)).map fun r=>Ear.rD (r.1,r.2.2))):=by
 have hr:=a.hr
 have key:=gA (tg:=bA [2,3,4]) (tt:=bx (aA (inD false) (ao 3) (ao 1))) (te:=bJ (ak (aq 2) (ak (aq 4) au))) (M:=M) (ρ:=[some (.dat (ob L.r)),some (.dat (lI near)),none,none,none]) gY (fun r=>decide (r.2.1∈near)) (fun r=>Ear.rD (r.1,r.2.2)) c.held fun r _=>⟨[some (.dat (ob L.r)),some (.dat (lI near)),some (.dat (.int r.1)),some (.dat (.int r.2.1)),some (.dat (aM r.2.2))],by simp[gY],by simp[Ge],fun _=>by simp[Ear.rD,Ear.dT]⟩
 simp[mZ,rC,hr,m9]
 simp[aqB,key,few]
theorem ZC:oX M [ob L.r]=.ok (.list (c.held.map gY)):=by
 have hr:=a.hr
 simp[oX,uJ,hr,m9,aqB]
theorem KH(o g:Int)(m:List Int):if (o,g,m)∈c.held then jf M [ob L.r,.int o,.int g,aM m]=.exc ⟨"HasRight",[]⟩ M else
  ∃M',jf M [ob L.r,.int o,.int g,aM m]=.ok .none M'/\At M' L { c with held:=c.held++[(o,g,m)] }:=by
 have hr:=a.hr
 have h1:=RP (c.held.map fun r=>(gY r,PyData.bool true)) (o,g,m)
 rw[Y7]at h1
 simp only[gY]at h1
 have f2:c.held.length < 100000:=by omega
 by_cases h:(o,g,m)∈c.held
 ·rw[if_pos h]
  simp[h]at h1
  simp[jf,oF,hr,m9,gY,h1]
 ·rw[if_neg h]
  refine⟨_,?_,a.aeo⟩
  simp[h]at h1
  simp[jf,oF,hr,m9,gY,h1,f2]
end
theorem adR(held:List Row3)(r:Row3):((held.map fun r=>(gY r,PyData.bool true)).filter fun p=>!PyData.eqv p.1 (gY r))=(held.filter fun s=>decide (s≠r)).map fun r=>(gY r,PyData.bool true):=by
 induction held with
 |nil=>rfl
 |cons s held ih=>
  simp only[aqj,aqU,ab5,ih]
  by_cases h:s=r <;> simp[h]
def WT(o g:Int)(k:List (List Int))(s:List Row3):List Row3:=k.foldl (fun s mk=>s.filter fun r=>decide (r≠(o,g,mk))) s
section
variable{M:Mo}{L:Lay}{c:aK}(hr:M[L.r]?=some (m9 c))
include hr
theorem Vv(o g:Int)(all:List (List Int)):∀(k:List (List Int)) (s:List Row3) (x:Option Cell),k.Nodup->(∀mk∈k,(o,g,mk)∈s)->s.length<=50000->
  ∃x',fB (aG 4) wZ (k.map aM) (M.set L.r (m9 { c with held:=s })) [some (.dat (ob L.r)),some (.dat (.int o)),some (.dat (.int g)),some (.dat (.list (all.map aM))),x]=.next [some (.dat (ob L.r)),some (.dat (.int o)),some (.dat (.int g)),some (.dat (.list (all.map aM))),x'] (M.set L.r (m9 { c with held:=WT o g k s }))
 |[],s,x,_,_,_=>⟨x,rfl⟩
 |mk::k,s,x,nd,h,hf=>by
  have hl:∀i,(M.set L.r i)[L.r]?=some i:=fun i=>by rw[bG hr,if_pos rfl]
  rw[arl]at nd
  have h1:=RP (s.map fun r=>(gY r,PyData.bool true)) (o,g,mk)
  rw[Y7,decide_eq_true (h mk aql)]at h1
  have h2:=adR s (o,g,mk)
  have f2:s.length<=100000:=by omega
  obtain⟨x',ih⟩:=Vv o g all k (s.filter fun r=>decide (r≠(o,g,mk))) (some (.dat (aM mk))) nd.2 (fun z hz=>by
   rw[aqC]
   refine⟨h z (aqk _ hz),decide_eq_true fun e=>?_⟩
   have:z=mk:=by simpa using e
   exact nd.1 (this ▸ hz)) (aqH (aqw _ _) hf)
  refine⟨x',?_⟩
  rw[aqj,fK (ρ1:=[some (.dat (ob L.r)),some (.dat (.int o)),some (.dat (.int g)),some (.dat (.list (all.map aM))),some (.dat (aM mk))]) (M2:=M.set L.r (m9 { c with held:=s.filter fun r=>decide (r≠(o,g,mk)) })) (ρ2:=[some (.dat (ob L.r)),some (.dat (.int o)),some (.dat (.int g)),some (.dat (.list (all.map aM))),some (.dat (aM mk))]) (by simp) ?_,ih]
  ·rfl
  ·have h1':dhas true (s.map fun r=>(gY r,PyData.bool true)) (.tuple [.int o,.int g,aM mk])=.ok true:=h1
   have h2':((s.map fun r=>(gY r,PyData.bool true)).filter fun p=>!PyData.eqv p.1 (.tuple [.int o,.int g,aM mk]))=(s.filter fun s=>decide (s≠(o,g,mk))).map fun r=>(gY r,PyData.bool true):=h2
   simp[wZ,hl,m9,h1',f2]
   rw[h2']
   simp
end
theorem Xg(o g:Int):∀(k:List (List Int)) (s:List Row3),WT o g k s=s.filter fun r=>decide (∀mk∈k,r≠(o,g,mk))
 |[],s=>(List.filter_eq_self.mpr (by simp)).symm
 |mk::k,s=>by
  show WT o g k (s.filter _)=_
  rw[Xg o g k,arf]
  congr 1
  funext r
  by_cases h1:r=(o,g,mk) <;> simp[h1]
def dropped(c:aK)(o g:Int):List Row3:=c.held.filter fun r=>!((r.1==o)&&(r.2.1==g))
theorem abw(c:aK)(o g:Int):WT o g (bQ c o g) c.held=dropped c o g:=by
 rw[Xg]
 unfold dropped
 refine List.filter_congr fun r hr=>?_
 obtain⟨x,y,z⟩:=r
 by_cases h:x=o/\y=g
 ·obtain⟨rfl,rfl⟩:=h
  have:z∈bQ c x y:=by
   unfold bQ
   rw[aqt]
   exact⟨(x,y,z),by rw[aqC];exact⟨hr,by simp⟩,rfl⟩
  simp
  exact this
 ·have e:(!((x==o)&&(y==g)))=true:=by
   by_cases h1:x=o <;> by_cases h2:y=g <;> simp_all
  have e2:∀mk∈bQ c o g,(x,y,z)≠(o,g,mk):=fun mk _ z=>by
   simp at z
   exact h ⟨z.1,z.2.1⟩
  rw[e,decide_eq_true e2]
theorem Z5{c:aK}(h:c.held.Nodup)(o g:Int):(bQ c o g).Nodup:=by
 unfold bQ
 have h1:(c.held.filter fun r=>(r.1==o)&&(r.2.1==g)).Nodup:=h.filter _
 unfold List.Nodup at h1 ⊢
 rw[List.pairwise_map]
 refine List.Pairwise.imp_of_mem (fun {r s} hr hs ne e=>ne ?_) h1
 rw[aqC]at hr hs
 obtain⟨r1,r2,r3⟩:=r
 obtain⟨s1,s2,s3⟩:=s
 have:=hr.2
 have:=hs.2
 simp at *
 obtain⟨rfl,rfl⟩:=hr.2
 obtain⟨rfl,rfl⟩:=hs.2
 exact⟨rfl,rfl,e⟩
section
variable{M:Mo}{L:Lay}{c:aK}(a:At M L c)(few:c.held.length<=50000)(nd:c.held.Nodup)
include a few nd
theorem agd(o g:Int):if bQ c o g=[] then ni M [ob L.r,.int o,.int g]=.exc ⟨"NoRight",[]⟩ M else
  ∃M',ni M [ob L.r,.int o,.int g]=.ok (.list ((bQ c o g).map aM)) M'/\At M' L { c with held:=dropped c o g }:=by
 have hr:=a.hr
 have h1:=Hz a few o g
 by_cases h:bQ c o g=[]
 ·rw[if_pos h]
  rw[h]at h1
  simp[ni,vm,hr,m9,cH,h1]
 ·rw[if_neg h]
  obtain⟨x',key⟩:=Vv hr o g (bQ c o g) (bQ c o g) c.held none (Z5 nd o g) (fun mk hm=>by
   unfold bQ at hm
   rw[aqt]at hm
   obtain⟨⟨r1,r2,r3⟩,h3,rfl⟩:=hm
   rw[aqC]at h3
   have:=h3.2
   simp at this
   obtain⟨rfl,rfl⟩:=this
   exact h3.1) few
  have e:(m9 { c with held:=c.held })=m9 c:=rfl
  rw[e,Ye hr,abw]at key
  refine⟨_,?_,a.aeo⟩
  have he:(bQ c o g).isEmpty=false:=by
   cases hm:bQ c o g with
   |nil=>exact absurd hm h
   |cons _ _=>rfl
  simp[ni,vm,hr,m9,cH,h1,he]
  simp[key]
  rfl
end
def Eb(acc:List Row3)(r:Row3):List Row3:=if r∈acc then acc else acc++[r]
def za(e h:Int)(r:Row3):Row3:=(if r.1=e then h else r.1,r.2.1,r.2.2)
def handed(c:aK)(e h:Int):List Row3:=(c.held.map (za e h)).foldl Eb []
theorem aaS{tg:fL}{tk:QF}{M:Mo}{ρ:Rf.Env}(f:Row3->Row3):∀(xs acc:List Row3),(∀x∈xs,∃ρ1,tg (gY x) ρ=some ρ1/\tk M ρ1=.ok (gY (f x)))->Dm tg tk M ρ (xs.map gY) (acc.map fun r=>(gY r,PyData.bool true))=.ok (((xs.map f).foldl Eb acc).map fun r=>(gY r,PyData.bool true))
 |[],acc,_=>rfl
 |x::xs,acc,h=>by
  obtain⟨ρ1,h1,h2⟩:=h x aql
  rw[aqj,Dm,h1]
  show((xV (tk M ρ1)).bind fun kd=>(dhas true _ kd).bind fun r=>_)=_
  rw[h2,Yb,Out.yV,RP,Y7,Out.yV,aqj,aq8]
  have ih:=aaS f xs (Eb acc (f x)) fun y hy=>h y (aqk _ hy)
  unfold Eb at ih ⊢
  by_cases hm:f x∈acc
  ·rw[if_pos hm]at ih ⊢
   rw[decide_eq_true hm]
   exact ih
  ·rw[if_neg hm]at ih ⊢
   rw[decide_eq_false hm]
   rw[List.map_append]at ih
   exact ih
section
variable{M:Mo}{L:Lay}{c:aK}(a:At M L c)(few:c.held.length<=50000)
include a few
theorem Xv(e h:Int):∃M',nZ M [ob L.r,.int e,.int h]=.ok .none M'/\At M' L { c with held:=handed c e h }:=by
 have hr:=a.hr
 have hl:L.r < M.length:=(aqh.mp hr).1
 have hr2:(M++[(⟨"",[]⟩:Inst)])[L.r]?=some (m9 c):=by rw[aqq hl];exact hr
 have key:=aaS (tg:=bA [3,4,5]) (tk:=bJ (ak (Rp (bx (aA cC (ao 3) (ao 1))) (aq 2) (aq 3)) (ak (aq 4) (ak (aq 5) au)))) (M:=M) (ρ:=[some (.dat (ob L.r)),some (.dat (.int e)),some (.dat (.int h)),none,none,none]) (za e h) c.held [] fun r _=>⟨[some (.dat (ob L.r)),some (.dat (.int e)),some (.dat (.int h)),some (.dat (.int r.1)),some (.dat (.int r.2.1)),some (.dat (aM r.2.2))],by simp[gY],by
  by_cases z:r.1=e <;> simp[z,za,gY]⟩
 have ex:At (M++[⟨"",[]⟩]) L c:=by
  have lt:∀{k:Nat} {i:Inst},M[k]?=some i->(M++[(⟨"",[]⟩:Inst)])[k]?=some i:=fun z=>by rw[aqq (aqh.mp z).1];exact z
  obtain⟨n,m,hg⟩:=a.hg
  obtain⟨n1,hh⟩:=a.hh
  exact⟨lt a.hc,⟨n,m,lt hg⟩,lt a.hr,⟨n1,lt hh⟩,a.len,fun i h b h1 h2=>by
   obtain⟨n2,z⟩:=a.hb i h b h1 h2
   exact⟨n2,lt z⟩,a.nd,fun p hp=>⟨lt (a.fr p hp).1,(a.fr p hp).2⟩⟩
 refine⟨_,?_,ex.aeo⟩
 simp only[aq3]at key
 simp[nZ,sW,hr,hr2,m9,jU]
 simp[aqB,key,few,handed]
end
@[simp]theorem aoQ (n:Nat) (b:dU):(iB n b).cls="Beast":=rfl
theorem Z6{M:Mo}{h n:Nat}{b:dU}(hb:M[h]?=some (iB n b))(s:Sd):mW M [ob h,s.dat]=.ok .none (M.set h (iB n { b with sd:=s })):=by
 have hl:∀i,(M.set h i)[h]?=some i:=fun i=>by rw[bG hb,if_pos rfl]
 simp[mW,qI,Sd.dat,hb,iB,hl,jU]
theorem Yv{M:Mo}{h n:Nat}{b:dU}(hb:M[h]?=some (iB n b)):vq M [ob h]=.ok b.sd.dat:=by
 simp[vq,Ai,Sd.dat,hb,iB]
theorem rZ{M:Mo}{h n:Nat}{b:dU}(hb:M[h]?=some (iB n b))(e:En)(he:b.sd.ear.length<=1000)(hf:b.en.length<=50000):lY M [ob h,e.dat]=.ok .none (M.set h (iB n { b with en:=b.en++[e],sd:=go b.sd e })):=by
 have hl:∀i,(M.set h i)[h]?=some i:=fun i=>by rw[bG hb,if_pos rfl]
 have h1:(M.set h (iB n { b with en:=b.en++[e] }))[h]?=some (iB n { b with en:=b.en++[e] }):=hl _
 have h2:=Yv h1
 have h3:=gone_ok (M.set h (iB n { b with en:=b.en++[e] })) b.sd e he
 have h4:=Z6 h1 (go b.sd e)
 have h5:b.en.length+1 < 100000:=by omega
 have e1:M.set h ⟨"Beast",[("story",.lst n (b.fi.dat::(b.en.map En.dat++[e.dat]))),("mother",.dat (.int b.mo)),("owner",.dat (.int b.sd.o)),("ground",.dat (.int b.sd.g)),("due",.dat (qG b.sd.due)),("ear",.dat (aM b.sd.ear)),("alive",.dat (.bool b.sd.al))]⟩=M.set h (iB n { b with en:=b.en++[e] }):=by simp[iB]
 simp[lY,yw,hb,iB,h5]
 rw[e1]
 simp[h1,mj,jD,h2,h3,h4]
 simp[iB]
def ajk:Fi->Int
 |.born m _ _=>m
 |_=>0
def Cj(f:Fi):dU:=⟨f,[],ajk f,beg f⟩
theorem ahb(M:Mo)(f:Fi):sS (M++[⟨"Beast",[]⟩]) [ob M.length,f.dat]=.ok .none (M++[iB (M.length+1) (Cj f),⟨"",[]⟩]):=by
 have hbeg:=fun M=>aeV M f
 have hg:∀i (r:List Inst),(M++i::r)[M.length]?=some i:=fun i r=>by simp
 have hs:∀i j (r:List Inst),(M++i::r).set M.length j=M++j::r:=fun i j r=>by simp
 cases f <;> simp[sS,Cr,Fi.dat,hg,hs,jU,mW,qI,jD,Bx,Mu,jw,iB,Cj,ajk,beg,qG,Fi.dat]
def bY(L:Lay)(c:aK):List (Nat×Nat×dU):=(L.bs.zip c.bs).mapIdx fun i p=>(i,p.1,p.2)
def nb(x:Nat×Nat×dU):Dat:=.tuple [.int ((x.1:Int)+1),ob x.2.1]
theorem Dq{L:Lay}{c:aK}{x:Nat×Nat×dU}(h:x∈bY L c):L.bs[x.1]?=some x.2.1/\c.bs[x.1]?=some x.2.2:=by
 unfold bY at h
 obtain⟨i,hi,e⟩:=List.mem_mapIdx.mp h
 have hz:=aqi hi
 rw[aq2]at hz
 subst e
 exact hz
theorem At.hb'{M:Mo}{L:Lay}{c:aK}(a:At M L c){x:Nat×Nat×dU}(h:x∈bY L c):∃n,M[x.2.1]?=some (iB n x.2.2):=by
 obtain⟨h1,h2⟩:=Dq h
 exact a.hb _ _ _ h1 h2
theorem At.len'{M:Mo}{L:Lay}{c:aK}(a:At M L c):(bY L c).length=c.bs.length:=by
 unfold bY
 simp[a.len]
theorem At.enum{M:Mo}{L:Lay}{c:aK}(a:At M L c):kW 1 (L.bs.map ob)=(bY L c).map nb:=by
 unfold kW bY
 apply aqE
 intro i
 simp only[aqT,aqs]
 by_cases hi:i < L.bs.length
 ·have hi2:i < c.bs.length:=by rw[←a.len];exact hi
  have hz:(L.bs.zip c.bs)[i]?=some (L.bs[i],c.bs[i]):=by
   rw[aq2]
   exact⟨aqi hi,aqi hi2⟩
  rw[hz]
  simp[hi,nb,Int.add_comm]
 ·have hi2:¬i < c.bs.length:=by rw[←a.len];exact hi
  have:(L.bs.zip c.bs)[i]?=none:=by
   rw[List.getElem?_eq_none_iff,List.length_zip]
   omega
  simp[aqJ (by omega:L.bs.length<=i),this]
section
variable{M:Mo}{L:Lay}{c:aK}(a:At M L c)(few:c.bs.length<=50000)
include a few
theorem Af:oY M [ob L.h]=.ok (.list (((bY L c).filter fun x=>x.2.2.sd.al).map nb)):=by
 obtain⟨n,hh⟩:=a.hh
 have hl:=a.len'
 have he:=a.enum
 have key:=gA (tg:=bA [1,2]) (tt:=iD (bL "alive" (ao 2))) (te:=bJ (ak (aq 1) (ak (aq 2) au))) (M:=M) (ρ:=[some (.dat (ob L.h)),none,none]) nb (fun x=>x.2.2.sd.al) nb (bY L c) fun x hx=>⟨[some (.dat (ob L.h)),some (.dat (.int ((x.1:Int)+1))),some (.dat (ob x.2.1))],by simp[nb],by
  obtain⟨n,hb⟩:=a.hb' hx
  simp[hb,iB],fun _=>by simp[nb]⟩
 simp[oY,uM,hh,dH]
 rw[he]
 simp[key,hl,few]
theorem RJ(near:List Int):pq M [ob L.h,lI near]=.ok (.list (((bY L c).filter fun x=>decide (x.2.2.sd.g∈near)&&x.2.2.sd.al).map nb)):=by
 obtain⟨n,hh⟩:=a.hh
 have h1:=Af a few
 have hl:((bY L c).filter fun x=>x.2.2.sd.al).length<=50000:=aqH (aqw _ _) (by rw[a.len'];exact few)
 have key:=gA (tg:=bA [2,3]) (tt:=bx (aA (inD false) (bL "ground" (ao 3)) (ao 1))) (te:=bJ (ak (aq 2) (ak (aq 3) au))) (M:=M) (ρ:=[some (.dat (ob L.h)),some (.dat (lI near)),none,none]) nb (fun x=>decide (x.2.2.sd.g∈near)) nb ((bY L c).filter fun x=>x.2.2.sd.al) fun x hx=>⟨[some (.dat (ob L.h)),some (.dat (lI near)),some (.dat (.int ((x.1:Int)+1))),some (.dat (ob x.2.1))],by simp[nb],by
  obtain⟨n,hb⟩:=a.hb' (aqC.mp hx).1
  simp[hb,iB,Ge],fun _=>by simp[nb]⟩
 rw[arf]at key
 simp[pq,yx,hh,dH,dO,h1,key,hl]
theorem afj(o:Int):xU M [ob L.h,.int o]=.ok (.list (((bY L c).filter fun x=>(x.2.2.sd.o==o)&&x.2.2.sd.al).map nb)):=by
 obtain⟨n,hh⟩:=a.hh
 have h1:=Af a few
 have hl:((bY L c).filter fun x=>x.2.2.sd.al).length<=50000:=aqH (aqw _ _) (by rw[a.len'];exact few)
 have key:=gA (tg:=bA [2,3]) (tt:=bx (aA cC (bL "owner" (ao 3)) (ao 1))) (te:=bJ (ak (aq 2) (ak (aq 3) au))) (M:=M) (ρ:=[some (.dat (ob L.h)),some (.dat (.int o)),none,none]) nb (fun x=>x.2.2.sd.o==o) nb ((bY L c).filter fun x=>x.2.2.sd.al) fun x hx=>⟨[some (.dat (ob L.h)),some (.dat (.int o)),some (.dat (.int ((x.1:Int)+1))),some (.dat (ob x.2.1))],by simp[nb],by
  obtain⟨n,hb⟩:=a.hb' (aqC.mp hx).1
  simp[hb,iB],fun _=>by simp[nb]⟩
 rw[arf]at key
 simp[xU,Cv,hh,dH,dO,h1,key,hl]
theorem Zd(k:Int):j5 M [ob L.h,.int k]=if 1<=k/\k<=c.bs.length then .ok (ob ((L.bs[(k - 1).toNat]?).getD 0)) else .exc ⟨"NoBeast",[]⟩:=by
 obtain⟨n,hh⟩:=a.hh
 have hlen:(L.bs.length:Int)=c.bs.length:=by rw[a.len]
 by_cases h:1<=k/\k<=c.bs.length
 ·rw[if_pos h]
  obtain⟨j,rfl⟩:∃j:Nat,k=(j:Int)+1:=⟨(k - 1).toNat,by omega⟩
  have hj:j < L.bs.length:=by have:=a.len;omega
  have h1:(1:Int)<=j+1:=by omega
  have h2:(j:Int)+1<=L.bs.length:=by omega
  simp[j5,sE,hh,dH,h1,h2,hj]
 ·rw[if_neg h]
  by_cases h1:1<=k
  ·have h2:¬k<=L.bs.length:=by omega
   simp[j5,sE,hh,dH,h1,h2]
  ·simp[j5,sE,hh,dH,h1]
end
def bk(c:aK)(k:Int):Option dU:=if 1<=k/\k<=c.bs.length then c.bs[(k - 1).toNat]? else none
def hk(L:Lay)(k:Int):Nat:=(L.bs[(k - 1).toNat]?).getD 0
def pP(b:dU)(e:En):dU:={ b with en:=b.en++[e],sd:=go b.sd e }
def fY(c:aK)(i:Nat)(e:En):aK:={ c with bs:=c.bs.modify i fun b=>pP b e }
theorem qY{M:Mo}{L:Lay}{c:aK}(a:At M L c){k:Int}{b:dU}(h:bk c k=some b):1<=k/\k<=c.bs.length/\L.bs[(k - 1).toNat]?=some (hk L k)/\c.bs[(k - 1).toNat]?=some b/\∃n,M[hk L k]?=some (iB n b):=by
 unfold bk at h
 split at h
 ·next hh=>
  have hl:(k - 1).toNat < L.bs.length:=by have:=a.len;omega
  have e:L.bs[(k - 1).toNat]?=some (hk L k):=by
   unfold hk
   rw[aqi hl]
   rfl
  exact⟨hh.1,hh.2,e,h,a.hb _ _ _ e h⟩
 ·cases h
theorem agz{c:aK}{k:Int}(h:bk c k=none):¬(1<=k/\k<=c.bs.length):=fun z=>by
 unfold bk at h
 rw[if_pos z,List.getElem?_eq_none_iff]at h
 omega
section
variable{M:Mo}{L:Lay}{c:aK}(a:At M L c)(few:c.bs.length<=50000)
include a few
theorem IV{k:Int}{b:dU}(h:bk c k=some b):j5 M [ob L.h,.int k]=.ok (ob (hk L k)):=by
 obtain⟨h1,h2,_⟩:=qY a h
 rw[Zd a few,if_pos ⟨h1,h2⟩]
 rfl
theorem Ro{k:Int}(h:bk c k=none):j5 M [ob L.h,.int k]=.exc ⟨"NoBeast",[]⟩:=by
 rw[Zd a few,if_neg (agz h)]
theorem Dj(k:Int):qN M [ob L.h,.int k]=match bk c k with
  |none=>.exc ⟨"NoBeast",[]⟩
  |some b=>if b.sd.al then .ok (ob (hk L k)) else .exc ⟨"Dead",[]⟩:=by
 obtain⟨n,hh⟩:=a.hh
 cases h:bk c k with
 |none=>
  have h1:=Ro a few h
  simp[qN,vB,hh,dH,fj,h1]
 |some b=>
  have h1:=IV a few h
  obtain⟨_,_,_,_,n',hb⟩:=qY a h
  cases h2:b.sd.al <;> simp[qN,vB,hh,dH,fj,h1,hb,iB,h2]
theorem Lr(k:Int):nH M [ob L.h,.int k]=match bk c k with
  |none=>.exc ⟨"NoBeast",[]⟩
  |some b=>if b.sd.al then(if b.sd.due=none then .exc ⟨"Unmarked",[]⟩ else .ok (ob (hk L k))) else .exc ⟨"Dead",[]⟩:=by
 obtain⟨n,hh⟩:=a.hh
 have h0:=Dj a few k
 cases h:bk c k with
 |none=>
  rw[h]at h0
  simp[nH,qL,hh,dH,bF,h0]
 |some b=>
  rw[h]at h0
  obtain⟨_,_,_,_,n',hb⟩:=qY a h
  cases h2:b.sd.al with
  |false=>
   simp[h2]at h0
   simp[nH,qL,hh,dH,bF,h0,h2]
  |true=>
   simp[h2]at h0
   cases h3:b.sd.due <;> simp[nH,qL,hh,dH,bF,h0,hb,iB,h2,h3,qG,lM]
def tX(k:Int)(b:dU):Bool:=(b.mo==k)&&b.sd.due.isNone
theorem adb(k:Int):qO M [ob L.h,.int k]=match bk c k with
  |none=>.exc ⟨"NoBeast",[]⟩
  |some _=>.ok (.list (((bY L c).filter fun x=>tX k x.2.2&&x.2.2.sd.al).map nb)):=by
 obtain⟨n,hh⟩:=a.hh
 have h1:=Af a few
 have hl:((bY L c).filter fun x=>x.2.2.sd.al).length<=50000:=aqH (aqw _ _) (by rw[a.len'];exact few)
 have key:=gA (tg:=bA [2,3]) (tt:=jY (bx (aA cC (bL "mother" (ao 3)) (ao 1))) (bx (yd false .none (bL "due" (ao 3))))) (te:=bJ (ak (aq 2) (ak (aq 3) au))) (M:=M) (ρ:=[some (.dat (ob L.h)),some (.dat (.int k)),none,none]) nb (fun x=>tX k x.2.2) nb ((bY L c).filter fun x=>x.2.2.sd.al) fun x hx=>⟨[some (.dat (ob L.h)),some (.dat (.int k)),some (.dat (.int ((x.1:Int)+1))),some (.dat (ob x.2.1))],by simp[nb],by
  obtain⟨n,hb⟩:=a.hb' (aqC.mp hx).1
  by_cases h2:x.2.2.mo=k <;> cases h3:x.2.2.sd.due <;> simp[hb,iB,tX,h2,h3,qG,lM],fun _=>by simp[nb]⟩
 rw[arf]at key
 cases h:bk c k with
 |none=>
  have h2:=Ro a few h
  simp[qO,vf,hh,dH,fj,h2]
 |some b=>
  have h2:=IV a few h
  simp[qO,vf,hh,dH,fj,dO,h1,h2,key,hl]
theorem KJ(f:Fi)(hf:c.bs.length < 50000):∃M' h,qp M [ob L.h,f.dat]=.ok (.int (c.bs.length+1)) M'/\At M' { L with bs:=L.bs++[h] } { c with bs:=c.bs++[Cj f] }:=by
 obtain⟨n,hh⟩:=a.hh
 have hl:L.h < M.length:=(aqh.mp hh).1
 have hi:=ahb M f
 have hh2:(M++[iB (M.length+1) (Cj f),⟨"",[]⟩])[L.h]?=some (dH n L):=by rw[aqq hl];exact hh
 have hs:∀i,((M++[iB (M.length+1) (Cj f),(⟨"",[]⟩:Inst)]).set L.h i)[L.h]?=some i:=fun i=>by rw[bG hh2,if_pos rfl]
 have hz:c.bs.length < 100000:=by omega
 refine⟨_,M.length,?_,a.alX (M2:=M++[iB (M.length+1) (Cj f),⟨"",[]⟩]) (n:=M.length+1) (n2:=n) (aqF _) (fun k hk=>by rw[aqq hk]) (by simp)⟩
 simp[qp,vM,hh,dH,hi,hh2,hs,hz,a.len]
end
theorem yI{M:Mo}{L:Lay}{c:aK}(a:At M L c){i h n:Nat}{b:dU}{e:En}(h1:L.bs[i]?=some h)(h2:c.bs[i]?=some b):At (M.set h (iB n (pP b e))) L (fY c i e):=by
 have:=a.setB (n:=n) (b':=pP b e) h1
 have hm:c.bs.modify i (fun b=>pP b e)=c.bs.set i (pP b e):=by
  apply aqE
  intro j
  rw[List.getElem?_modify,aq4]
  by_cases hj:i=j
  ·subst hj
   have hl:=(aqh.mp h2).1
   simp[hl,h2]
   have:=(aqh.mp h2).2
   rw[this]
  ·simp[hj]
 unfold fY
 rw[hm]
 exact this
theorem vO(c:aK)(i j:Nat)(e:En):(fY c i e).bs[j]?=if i=j then(c.bs[j]?).map fun b=>pP b e else c.bs[j]?:=by
 unfold fY
 simp only[List.getElem?_modify]
 by_cases h:i=j <;> simp[h]
def uY(xs:List (Nat×Nat×dU))(e:En)(c:aK):aK:=xs.foldl (fun c x=>fY c x.1 e) c
theorem Oj{tg:fL}{body:SF}(Q:Rf.Env->Prop)(P:Nat->aK->Prop)(e:En)(L:Lay)(T:Nat):∀(xs:List (Nat×Nat×dU)) (M:Mo) (c:aK) (ρ:Rf.Env) (i:Nat),i+xs.length<=T->At M L c->P i c->Q ρ->
  (∀M c ρ x i,i < T->At M L c->P i c->Q ρ->x∈xs->∃ρ1 ρ2 M2,tg (nb x) ρ=some ρ1/\body M ρ1=.next ρ2 M2/\Q ρ2/\At M2 L (fY c x.1 e)/\P (i+1) (fY c x.1 e))->
  ∃ρ' M',fB tg body (xs.map nb) M ρ=.next ρ' M'/\Q ρ'/\At M' L (uY xs e c)
 |[],M,c,ρ,i,_,a,p,q,_=>⟨ρ,M,rfl,q,a⟩
 |x::xs,M,c,ρ,i,hT,a,p,q,h=>by
  rw[aqu]at hT
  obtain⟨ρ1,ρ2,M2,h1,h2,h3,h4,h5⟩:=h M c ρ x i (by omega) a p q aql
  obtain⟨ρ',M',g1,g2,g3⟩:=Oj Q P e L T xs M2 _ ρ2 (i+1) (by omega) h4 h5 h3 fun M c ρ y i hi a p q hy=>h M c ρ y i hi a p q (aqk _ hy)
  exact⟨ρ',M',by rw[aqj,fK h1 h2];exact g1,g2,g3⟩
structure JT(n:Nat)(c:aK):Prop where
 ear:∀b∈c.bs,b.sd.ear.length=6
 en:∀b∈c.bs,b.en.length<=n
theorem aiw(s:Sd)(e:En)(he:s.ear.length=6)(h2:match e with|.cut l=>l.length=6|.sold _ l=>l.length=6|_=>True):(go s e).ear.length=6:=by
 cases e <;> simp_all [go,wB]
theorem Ry(e:En):∀(xs:List (Nat×Nat×dU)) (c:aK) (j:Nat),(xs.map (·.1)).Nodup->(uY xs e c).bs[j]?=if j∈xs.map (·.1) then(c.bs[j]?).map fun b=>pP b e else c.bs[j]?
 |[],c,j,_=>by simp[uY]
 |x::xs,c,j,nd=>by
  rw[aqj,arl]at nd
  show(uY xs e (fY c x.1 e)).bs[j]?=_
  rw[Ry e xs _ j nd.2,vO]
  by_cases h1:x.1=j
  ·subst h1
   rw[if_neg nd.1,if_pos rfl,if_pos (by simp)]
  ·rw[if_neg h1]
   by_cases h2:j∈xs.map (·.1)
   ·rw[if_pos h2,if_pos (by rw[aqj];exact aqk _ h2)]
   ·rw[if_neg h2,if_neg (by
     rw[aqj,aqv]
     rintro(z|z)
     ·exact h1 z.symm
     ·exact h2 z)]
theorem Nk(e:En):∀(xs:List (Nat×Nat×dU)) (c:aK),(uY xs e c)={ c with bs:=(uY xs e c).bs }
 |[],_=>rfl
 |x::xs,c=>by
  show uY xs e (fY c x.1 e)={ c with bs:=(uY xs e (fY c x.1 e)).bs }
  rw[Nk e xs]
  rfl
theorem adH{L:Lay}{c:aK}(p:Nat×Nat×dU->Bool):(((bY L c).filter p).map (·.1)).Nodup:=by
 have h:((bY L c).map (·.1)).Nodup:=by
  have e:(bY L c).map (·.1)=List.range (L.bs.zip c.bs).length:=by
   unfold bY
   apply aqE
   intro i
   simp only[aqs,aqT]
   by_cases hi:i < (L.bs.zip c.bs).length
   ·rw[aqi hi,List.getElem?_range hi]
    rfl
   ·rw[aqJ (by omega:(L.bs.zip c.bs).length<=i),aqJ (by rw[List.length_range];omega:(List.range (L.bs.zip c.bs).length).length<=i)]
    rfl
  rw[e]
  exact List.nodup_range
 exact h.sublist (List.Sublist.map _ List.filter_sublist)
def nO(p:dU->Bool)(e:En)(c:aK):aK:={ c with bs:=c.bs.map fun b=>if p b then pP b e else b }
theorem Vm{M:Mo}{L:Lay}{c:aK}(a:At M L c)(p:dU->Bool)(e:En):uY ((bY L c).filter fun x=>p x.2.2) e c=nO p e c:=by
 rw[Nk]
 unfold nO
 congr 1
 apply aqE
 intro j
 rw[Ry _ _ _ _ (adH _),aqs]
 by_cases hj:j < c.bs.length
 ·have hb:=aqi hj
  rw[hb]
  have hl:j < L.bs.length:=by rw[a.len];exact hj
  have mem:(j,L.bs[j],c.bs[j])∈bY L c:=by
   unfold bY
   rw[List.mem_mapIdx]
   refine⟨j,by simp;omega,by simp⟩
  by_cases hp:p c.bs[j]=true
  ·have:j∈((bY L c).filter fun x=>p x.2.2).map (·.1):=aqt.mpr ⟨_,aqC.mpr ⟨mem,hp⟩,rfl⟩
   rw[if_pos this]
   simp[hp]
  ·have:j∉((bY L c).filter fun x=>p x.2.2).map (·.1):=fun z=>by
    obtain⟨x,h1,h2⟩:=aqt.mp z
    obtain⟨h3,h4⟩:=aqC.mp h1
    obtain⟨_,h5⟩:=Dq h3
    rw[h2,hb]at h5
    rw[←aqA h5]at h4
    exact hp h4
   rw[if_neg this]
   simp[hp]
 ·rw[aqJ (by omega:c.bs.length<=j)]
  simp
theorem JT.step{n:Nat}{c:aK}(bi:JT n c)(i:Nat)(e:En)(h2:match e with|.cut l=>l.length=6|.sold _ l=>l.length=6|_=>True):JT (n+1) (fY c i e):=by
 have key:∀b∈(fY c i e).bs,b∈c.bs∨∃b0∈c.bs,b=pP b0 e:=fun b hb=>by
  obtain⟨j,hj⟩:=List.mem_iff_getElem?.mp hb
  rw[vO]at hj
  split at hj
  ·obtain⟨b0,h3,h4⟩:=aqR.mp hj
   exact .inr ⟨b0,aqn h3,h4.symm⟩
  ·exact .inl (aqn hj)
 refine⟨fun b hb=>?_,fun b hb=>?_⟩
 ·rcases key b hb with h|⟨b0,h,rfl⟩
  ·exact bi.ear b h
  ·exact aiw _ _ (bi.ear b0 h) h2
 ·rcases key b hb with h|⟨b0,h,rfl⟩
  ·have:=bi.en b h
   omega
  ·have:=bi.en b0 h
   simp[pP]
   omega
section
variable{M:Mo}{L:Lay}{c:aK}(a:At M L c)(few:c.bs.length<=1000){n:Nat}(bi:JT n c)(hn:n<=40000)
include a few bi hn
theorem Gf(k:Int){b:dU}(hk':bk c k=some b):∃M',nQ M [ob L.h,.int k]=.ok .none M'/\At M' L (nO (fun x=>tX k x&&x.sd.al) (.followed b.sd.o b.sd.g) c):=by
 obtain⟨m,hh⟩:=a.hh
 have few2:c.bs.length<=50000:=by omega
 have h1:=IV a few2 hk'
 have h2:=adb a few2 k
 rw[hk']at h2
 obtain⟨k1,k2,k3,k4,k5⟩:=qY a hk'
 have hlen:((bY L c).filter fun x=>tX k x.2.2&&x.2.2.sd.al).length<=1000:=aqH (aqw _ _) (by rw[a.len'];exact few)
 obtain⟨ρ',M',g1,g2,g3⟩:=Oj (tg:=bA [3,4]) (body:=qj) (fun ρ=>∃x y,ρ=[some (.dat (ob L.h)),some (.dat (.int k)),some (.dat (ob (hk L k))),x,y])
  (fun i c1=>(∃b1,c1.bs[(k - 1).toNat]?=some b1/\b1.sd.o=b.sd.o/\b1.sd.g=b.sd.g)/\JT (n+i) c1/\c1.bs.length=c.bs.length) (.followed b.sd.o b.sd.g) L 1000 ((bY L c).filter fun x=>tX k x.2.2&&x.2.2.sd.al) M c [some (.dat (ob L.h)),some (.dat (.int k)),some (.dat (ob (hk L k))),none,none] 0 (by omega) a ⟨⟨b,k4,rfl,rfl⟩,bi,rfl⟩ ⟨none,none,rfl⟩ (fun M1 c1 ρ x i hi a1 p1 q1 hx=>by
   obtain⟨⟨bm,m1,m2,m3⟩,bi1,l1⟩:=p1
   obtain⟨x0,y0,rfl⟩:=q1
   obtain⟨nm,hm⟩:=a1.hb _ _ _ k3 m1
   obtain⟨e1,e2⟩:=Dq (aqC.mp hx).1
   have hl:x.1 < c1.bs.length:=by rw[l1];exact(aqh.mp e2).1
   have e3:=aqi hl
   obtain⟨nx,hx1⟩:=a1.hb _ _ _ e1 e3
   have mem:=aqQ hl
   have hb:=rZ hx1 (.followed b.sd.o b.sd.g) (by rw[bi1.ear _ mem];decide) (by have:=bi1.en _ mem;omega)
   refine⟨[some (.dat (ob L.h)),some (.dat (.int k)),some (.dat (ob (hk L k))),some (.dat (.int ((x.1:Int)+1))),some (.dat (ob x.2.1))],[some (.dat (ob L.h)),some (.dat (.int k)),some (.dat (ob (hk L k))),some (.dat (.int ((x.1:Int)+1))),some (.dat (ob x.2.1))],_,by simp[nb],?_,⟨_,_,rfl⟩,yI (n:=nx) a1 e1 e3,?_,bi1.step _ _ trivial,by simp[fY,l1]⟩
   ·have hb:lY M1 [ob x.2.1,.tuple [.str "followed",.int b.sd.o,.int b.sd.g]]=_:=hb
    simp[qj,hx1,hm,bM]
    simp[iB]at hb ⊢
    simp[m2,m3,hb,pP]
   ·rw[vO,m1]
    by_cases z:x.1=(k - 1).toNat
    ·exact⟨pP bm (.followed b.sd.o b.sd.g),by rw[if_pos z];rfl,rfl,rfl⟩
    ·exact⟨bm,by rw[if_neg z],m2,m3⟩)
 rw[Vm a (fun x=>tX k x&&x.sd.al)]at g3
 refine⟨M',?_,g3⟩
 simp[nQ,sJ,hh,dH,fj,yq,h1,h2,g1]
end
def pD(p:Int×Int):Dat:=.tuple [.int p.1,.int p.2]
theorem Cu:∀(x y:List Int),xq (x.map PyData.int) (y.map PyData.int)=(x.zip y).map pD
 |[],_=>by simp[xq]
 |_::_,[]=>by simp[xq]
 |a::x,b::y=>by
  have:=Cu x y
  unfold xq at this ⊢
  rw[aqj,aqj,List.zipWith_cons_cons,this,aq6,aqj]
  rfl
def uX(x y:List Int):Int:=(((x.zip y).filter fun p=>decide (p.1 < p.2)).map fun p=>p.2 - p.1).sum
def dG(x y:List Int):Int:=if uX y x > uX x y then uX y x else uX x y
def jP(x y:List Int):List Int:=(x.zip y).map fun p=>if p.2 > p.1 then p.2 else p.1
theorem ahy(x y:List Int)(h:x.length<=1000):(x.zip y).length<=50000:=by
 rw[List.length_zip]
 omega
theorem U4(l:List Int):Ue (.list (l.map PyData.int))=.ok (.int l.sum):=by
 show(match intsOf (l.map PyData.int) with
  |some ns=>Out.ok (PyData.int ns.sum)
  |none=>.bad)=_
 rw[Br]
theorem NQ(M:Mo)(x y:List Int)(h:x.length<=1000):uh M [aM x,aM y]=.ok (.int (uX x y)):=by
 have key:=gA (tg:=bA [2,3]) (tt:=bx (aA Xp (ao 3) (ao 2))) (te:=aA mK (ao 3) (ao 2)) (M:=M) (ρ:=[some (.dat (aM x)),some (.dat (aM y)),none,none]) pD (fun p=>decide (p.1 < p.2)) (fun p=>.int (p.2 - p.1)) (x.zip y) fun p _=>⟨[some (.dat (aM x)),some (.dat (aM y)),some (.dat (.int p.1)),some (.dat (.int p.2))],by simp[pD],by simp,fun _=>by simp⟩
 have hz:=ahy x y h
 have hs:=U4 (((x.zip y).filter fun p=>decide (p.1 < p.2)).map fun p=>p.2 - p.1)
 rw[aqK]at hs
 have hz2:min x.length y.length<=50000:=by omega
 simp[uh,Tf,Cu,key,hz2]
 simp[aqB]at hs
 simp[hs,uX]
theorem aeS(M:Mo)(x y:List Int)(h:x.length<=1000)(h2:y.length<=1000):Gm M [aM x,aM y]=.ok (.int (dG x y)):=by
 simp[Gm,RW,NQ M x y h,NQ M y x h2,dG]
theorem Pj(x y:List Int):dG x y=dG y x:=by
 unfold dG
 split <;> split <;> omega
theorem RQ(M:Mo)(x y:List Int)(r:Int)(h:x.length<=1000)(h2:y.length<=1000):qX M [aM x,aM y,.int r]=.ok (.bool (decide (dG x y<=r))):=by
 simp[qX,Yl,aeS M x y h h2]
theorem Iv(M:Mo)(x y:List Int)(h:x.length<=1000):pQ M [aM x,aM y]=.ok (aM (jP x y)):=by
 have key:=fJ (tg:=bA [2,3]) (te:=aA qD (ao 2) (ao 3)) (M:=M) (ρ:=[some (.dat (aM x)),some (.dat (aM y)),none,none]) pD (fun p=>.int (if p.2 > p.1 then p.2 else p.1)) (x.zip y) fun p _=>⟨[some (.dat (aM x)),some (.dat (aM y)),some (.dat (.int p.1)),some (.dat (.int p.2))],by simp[pD],by simp⟩
 have hz2:min x.length y.length<=50000:=by omega
 simp[pQ,Ud,Cu,key,hz2,jP]
abbrev Rw:=Ear.Rw
theorem JX:∀R:List Rw,Bq (R.map Ear.rD)=some R
 |[]=>rfl
 |r::R=>by
  rw[aqj,Bq,JX R]
  have:abn (Ear.rD r)=some r:=by
   unfold Ear.rD Ear.dT
   show(intsOf (r.2.map PyData.int)).map _=_
   rw[Br]
   rfl
  rw[this]
  rfl
theorem Kh(M:Mo)(R:List Rw)(h:R.eraseDups.length<=76):qK M [.list (R.map Ear.rD)]=.ok (.list ((bH R).map Ear.rD)):=by
 have:QM (.list (R.map Ear.rD))=.ok (.list ((bH R).map Ear.rD)):=by
  show(match Bq (R.map Ear.rD) with
   |some R=>match decide (R.eraseDups.length<=76) with
    |true=>Out.ok (PyData.list ((bH R).map Ear.rD))
    |false=>.bad
   |none=>.bad)=_
  rw[JX]
  show(match decide (R.eraseDups.length<=76) with
    |true=>Out.ok (PyData.list ((bH R).map Ear.rD))
    |false=>.bad)=_
  rw[decide_eq_true h]
 simp[qK,NT,this]
theorem tG(R:List Rw):(bH R).length=R.eraseDups.length:=by
 unfold bH oW
 rw[List.length_mergeSort]
def vW(o:Int)(e:List Int)(R:List Rw)(room:Int):List Rw:=(bH R).filter fun r=>!(r.1==o)&&decide (dG e r.2<=room)
def uw(R:List Rw):Prop:=∀r∈R,r.2.length=6
theorem abv(M:Mo)(o:Int)(e:List Int)(R:List Rw)(room:Int)(he:e.length=6)(hR:uw R)(h:R.eraseDups.length<=76):Ac M [.int o,aM e,.list (R.map Ear.rD),.int room]=.ok (.list ((vW o e R room).map Ear.rD)):=by
 have ht:=Kh M R h
 have hl:(bH R).length<=50000:=by rw[tG];omega
 have key:=gA (tg:=bA [4,5]) (tt:=jY (bx (aA u9 (ao 4) (ao 0))) (iD (aY qX (ak (aq 1) (ak (aq 5) (ak (aq 3) au)))))) (te:=bJ (ak (aq 4) (ak (aq 5) au))) (M:=M) (ρ:=[some (.dat (.int o)),some (.dat (aM e)),some (.dat (.list (R.map Ear.rD))),some (.dat (.int room)),none,none]) Ear.rD (fun r=>!(r.1==o)&&decide (dG e r.2<=room)) Ear.rD (bH R) fun r hr=>⟨[some (.dat (.int o)),some (.dat (aM e)),some (.dat (.list (R.map Ear.rD))),some (.dat (.int room)),some (.dat (.int r.1)),some (.dat (aM r.2))],by simp[Ear.rD,Ear.dT],by
  have:=RQ M e r.2 room (by omega) (by rw[hR r (dB.mp hr)];decide)
  by_cases hz:r.1=o <;> simp[this,hz],fun _=>by simp[Ear.rD,Ear.dT]⟩
 simp[Ac,J5,ht,key,hl,vW]
theorem M8(M:Mo)(o:Int)(e:List Int)(R:List Rw)(room:Int)(he:e.length=6)(hR:uw R)(h:R.eraseDups.length<=76):nR M [.int o,aM e,.list (R.map Ear.rD),.int room]=match vW o e R room with
  |[]=>.ok .none
  |r::_=>.exc ⟨"Clash",[("ear",aM (jP e r.2)),("others",Ear.rD r),("ones",Ear.rD (o,e))]⟩:=by
 have hb:=abv M o e R room he hR h
 cases hx:vW o e R room with
 |nil=>
  rw[hx]at hb
  simp[nR,Bl,hb]
 |cons r rs=>
  rw[hx]at hb
  have hj:=Iv M e r.2 (by omega)
  simp[nR,Bl,hb]
  simp[Ear.rD,Ear.dT,hj]
theorem HW{α β:Type}{tg tg1:fL}{tt tt1:QT}{it1:IF}{vs1:List Nat}{te:QF}{M:Mo}{ρ:Rf.Env}(ds:α->Dat)(ys:α->List β)(ds1:β->Dat)(p:α->β->Bool)(f:α->β->Dat):∀(xs:List α),(∀x∈xs,∃ρ1,tg (ds x) ρ=some ρ1/\tt M ρ1=.ok true/\zm ρ1=true/\it1 M ρ1=.ok ((ys x).map ds1)/\∀y∈ys x,∃ρ2,tg1 (ds1 y) (bZ ρ1 vs1)=some ρ2/\tt1 M ρ2=.ok (p x y)/\(p x y=true->te M ρ2=.ok (f x y)))->
  gQ tg tt it1 tg1 vs1 tt1 te M ρ (xs.map ds)=.ok (xs.flatMap fun x=>((ys x).filter (p x)).map (f x))
 |[],_=>rfl
 |x::xs,h=>by
  obtain⟨ρ1,h1,h2,h3,h4,h5⟩:=h x aql
  have ih:=HW ds ys ds1 p f xs fun y hy=>h y (aqk _ hy)
  have hc:=gA (tg:=tg1) (tt:=tt1) (te:=te) (M:=M) (ρ:=bZ ρ1 vs1) ds1 (p x) (f x) (ys x) h5
  rw[aqj,gQ,h1]
  show((xV (tt M ρ1)).bind fun b=>if b=true then Out.when (zm ρ1) ((xV (it1 M ρ1)).bind fun es=>(dD tg1 tt1 te M (bZ ρ1 vs1) es).bind fun r1=>(gQ tg tt it1 tg1 vs1 tt1 te M ρ (xs.map ds)).bind fun r=>Out.ok (r1++r)) else gQ tg tt it1 tg1 vs1 tt1 te M ρ (xs.map ds))=_
  rw[h2,Yb,Out.yV,if_pos rfl,h3,Out.VD,h4,Yb,Out.yV,hc,Out.yV,ih,Out.yV,List.flatMap_cons]
def cZ(x:List Int):Bool:=decide (x.length=6)&&x.all fun d=>decide (0<=d)&&decide (d<=9)
theorem Du(l:List Bool):uG (l.map PyData.bool)=some l:=by
 induction l with
 |nil=>rfl
 |cons b l ih=>rw[aqj,uG,ih];rfl
theorem Vy(M:Mo)(x:List Int)(h:x.length<=1000):sV M [aM x]=.ok (.bool (cZ x)):=by
 have key:=fJ (tg:=aG 1) (te:=VH (oA uZ uZ (qC (.int 0)) (ao 1) (qC cQ))) (M:=M) (ρ:=[some (.dat (aM x)),none]) PyData.int (fun d=>.bool (decide (0<=d)&&decide (d<=9))) x fun d _=>⟨[some (.dat (aM x)),some (.dat (.int d))],by simp,by
  by_cases h0:0<=d <;> simp[h0,cQ]⟩
 have ha:N8 (.list (x.map fun d=>PyData.bool (decide (0<=d)&&decide (d<=9))))=.ok (.bool (x.all fun d=>decide (0<=d)&&decide (d<=9))):=by
  have e:(x.map fun d=>PyData.bool (decide (0<=d)&&decide (d<=9)))=(x.map fun d=>decide (0<=d)&&decide (d<=9)).map PyData.bool:=by rw[aqK];rfl
  rw[e]
  show(match uG _ with
   |some bs=>Out.ok (PyData.bool (bs.all id))
   |none=>.bad)=_
  rw[Du]
  simp[List.all_map,aqB]
 have hl:x.length<=50000:=by omega
 by_cases h6:x.length=6
 ·have h6':((x.length:Int)==6)=true:=by simp[h6]
  simp[sV,Ie,iQ,key,hl,ha,cZ,h6]
 ·have h6':¬(x.length:Int)=6:=by omega
  simp[sV,Ie,iQ,cZ,h6,h6']
theorem Nf(M:Mo)(x:List Int)(h:x.length<=1000):qd M [aM x]=if cZ x then .ok .none else .exc ⟨"BadEar",[]⟩:=by
 have:=Vy M x h
 cases hb:cZ x <;> simp[qd,Hg,this,hb]
def pairD(p:Rw×Rw):Dat:=.tuple [Ear.rD p.1,Ear.rD p.2]
def gJ(T:List Rw)(room:Int):List (Rw×Rw):=(T.mapIdx fun i r=>(i,r)).flatMap fun x=>((T.drop (x.1+1)).filter fun s=>!(x.2.1==s.1)&&decide (dG x.2.2 s.2<=room)).map fun s=>(x.2,s)
theorem Z9(T:List Rw)(room:Int):(gJ T room).length<=T.length * T.length:=by
 unfold gJ
 rw[List.length_flatMap]
 have key:∀(l:List (Nat×Rw)),(l.map fun x=>(((T.drop (x.1+1)).filter fun s=>!(x.2.1==s.1)&&decide (dG x.2.2 s.2<=room)).map fun s=>(x.2,s)).length).sum<=l.length * T.length:=by
  intro l
  induction l with
  |nil=>simp
  |cons x l ih=>
   rw[aqj,List.sum_cons,aqu,Nat.add_mul,Nat.one_mul]
   have:(((T.drop (x.1+1)).filter fun s=>!(x.2.1==s.1)&&decide (dG x.2.2 s.2<=room)).map fun s=>(x.2,s)).length<=T.length:=by
    rw[aqr]
    refine aqH (aqw _ _) ?_
    rw[ari]
    omega
   omega
 have:=key (T.mapIdx fun i r=>(i,r))
 rw[List.length_mapIdx]at this
 exact this
theorem Z7(M:Mo)(R:List Rw)(room:Int)(hR:uw R)(h:R.eraseDups.length<=76):uF M [.list (R.map Ear.rD),.int room]=.ok (.list ((gJ (bH R) room).map pairD)):=by
 have ht:=Kh M R h
 have hl:(bH R).length<=76:=by rw[tG];exact h
 have hE:∀r∈bH R,r.2.length=6:=fun r hr=>hR r (dB.mp hr)
 generalize bH R=T at ht hl hE
 have he:kW 0 (T.map Ear.rD)=(T.mapIdx fun i r=>(i,r)).map fun(x:Nat×Rw)=>PyData.tuple [.int x.1,Ear.rD x.2]:=by
  unfold kW
  apply aqE
  intro i
  simp
  cases T[i]? <;> simp
 have key:=HW (tg:=bA [3,4]) (tg1:=aG 5) (tt:=iJ) (it1:=cW (M6 (ao 2) (qW (aA eV (ao 3) (qC (.int 1)))) Ab)) (vs1:=[5]) (tt1:=jY (bx (aA u9 (aA aV (ao 4) (qC (.int 0))) (aA aV (ao 5) (qC (.int 0))))) (iD (aY qX (ak (aA aV (ao 4) (qC (.int 1))) (ak (aA aV (ao 5) (qC (.int 1))) (ak (aq 1) au)))))) (te:=bJ (ak (aq 4) (ak (aq 5) au))) (M:=M) (ρ:=[some (.dat (.list (R.map Ear.rD))),some (.dat (.int room)),some (.dat (.list (T.map Ear.rD))),none,none,none])
  (fun(x:Nat×Rw)=>PyData.tuple [.int x.1,Ear.rD x.2]) (fun x=>T.drop (x.1+1)) Ear.rD (fun x s=>!(x.2.1==s.1)&&decide (dG x.2.2 s.2<=room)) (fun x s=>pairD (x.2,s)) (T.mapIdx fun i r=>(i,r)) fun x hx=>⟨[some (.dat (.list (R.map Ear.rD))),some (.dat (.int room)),some (.dat (.list (T.map Ear.rD))),some (.dat (.int x.1)),some (.dat (Ear.rD x.2)),none],by simp,rfl,rfl,by
   have:=O5 (T.map Ear.rD) (x.1+1)
   simp at this ⊢
   rw[this],fun s hs=>⟨[some (.dat (.list (R.map Ear.rD))),some (.dat (.int room)),some (.dat (.list (T.map Ear.rD))),some (.dat (.int x.1)),some (.dat (Ear.rD x.2)),some (.dat (Ear.rD s))],by simp,by
   obtain⟨i,hi,rfl⟩:=List.mem_mapIdx.mp hx
   have h1:=hE _ (aqQ hi)
   have h2:=hE s (List.mem_of_mem_drop hs)
   have:=RQ M (T[i]).2 s.2 room (by omega) (by omega)
   by_cases hz:(T[i]).1=s.1 <;> simp[Ear.rD,Ear.dT,this,hz],fun _=>by simp[pairD]⟩⟩
 have e2:((T.mapIdx fun i r=>(i,r)).flatMap fun x=>((T.drop (x.1+1)).filter fun s=>!(x.2.1==s.1)&&decide (dG x.2.2 s.2<=room)).map fun s=>pairD (x.2,s))=(gJ T room).map pairD:=by
  unfold gJ
  rw[List.map_flatMap]
  congr 1
  funext x
  rw[aqK]
  rfl
 rw[e2]at key
 have hc:(gJ T room).length<=50000:=by
  have:=Z9 T room
  have:T.length * T.length<=76 * 76:=Nat.mul_le_mul hl hl
  omega
 simp[uF,Ir,ht]
 rw[he]
 simp[key,hc]
def hdD(x:List Int×Int):Dat:=.tuple [aM x.1,.int x.2]
def Ky(d l:Int):Int:=(if 9 < d+l then 9 else d+l)+1
def Bm(d l:Int):List Int:=(List.range (Ky d l - d).toNat).map fun(i:Nat)=>d+(i:Int)
def stepT(d:Int)(H:List (List Int×Int)):List (List Int×Int):=H.flatMap fun x=>(Bm d x.2).map fun cut=>(x.1++[cut],x.2 - (cut - d))
structure Ou(k:Nat)(H:List (List Int×Int)):Prop where
 len:H.length<=4 ^ k
 left:∀x∈H,0<=x.2/\x.2<=3
 hd:∀x∈H,x.1.length=k/\∀y∈x.1,0<=y/\y<=9
theorem acD{d l:Int}(hl:0<=l/\l<=3):(Bm d l).length<=4:=by
 unfold Bm Ky
 simp
 split <;> omega
theorem Vk{d l y:Int}(h:y∈Bm d l):d<=y/\y<=d+l/\y<=9:=by
 unfold Bm Ky at h
 obtain⟨i,hi,rfl⟩:=aqt.mp h
 rw[List.mem_range]at hi
 split at hi <;> omega
theorem VJ{k:Nat}{H:List (List Int×Int)}{d:Int}(i:Ou k H)(hd:0<=d/\d<=9):Ou (k+1) (stepT d H):=by
 refine⟨?_,fun x hx=>?_,fun x hx=>?_⟩
 ·have key:∀l:List (List Int×Int),(∀x∈l,0<=x.2/\x.2<=3)->(stepT d l).length<=l.length * 4:=by
   intro l
   induction l with
   |nil=>intro _;simp[stepT]
   |cons x l ih=>
    intro h
    have h1:=ih fun y hy=>h y (aqk _ hy)
    have h2:=acD (d:=d) (h x aql)
    unfold stepT at h1 ⊢
    rw[List.flatMap_cons,aqS,aqr,aqu]
    omega
  have:=key H i.left
  have:=i.len
  rw[Nat.pow_succ]
  omega
 ·unfold stepT at hx
  obtain⟨y,hy,hx⟩:=List.mem_flatMap.mp hx
  obtain⟨c,hc,rfl⟩:=aqt.mp hx
  have:=Vk hc
  have:=i.left y hy
  show 0<=y.2 - (c - d)/\y.2 - (c - d)<=3
  omega
 ·unfold stepT at hx
  obtain⟨y,hy,hx⟩:=List.mem_flatMap.mp hx
  obtain⟨c,hc,rfl⟩:=aqt.mp hx
  have:=Vk hc
  obtain⟨h1,h2⟩:=i.hd y hy
  refine⟨by simp[h1],fun z hz=>?_⟩
  rcases aqp.mp hz with hz|hz
  ·exact h2 z hz
  ·rw[aqm.mp hz]
   omega
theorem acH(M:Mo)(e m:Option Cell)(he:zm [e,m]=true){k:Nat}{H:List (List Int×Int)}{d:Int}(i:Ou k H)(hk:k<=5)(hd:0<=d/\d<=9):CK M [e,m,some (.dat (.list (H.map hdD))),some (.dat (.int d)),none,none,none]=.next [e,m,some (.dat (.list ((stepT d H).map hdD))),some (.dat (.int d)),none,none,none] M:=by
 have key:=HW (tg:=bA [4,5]) (tg1:=aG 6) (tt:=iJ) (it1:=Bu (ao 3) (aA eV (aA HX (aA eV (ao 3) (ao 5)) (qC cQ)) (qC (.int 1)))) (vs1:=[6]) (tt1:=iJ) (te:=bJ (ak (aA eV (ao 4) (bJ (ak (aq 6) au))) (ak (aA mK (ao 5) (aA mK (ao 6) (ao 3))) au))) (M:=M) (ρ:=[e,m,some (.dat (.list (H.map hdD))),some (.dat (.int d)),none,none,none])
  hdD (fun x=>Bm d x.2) PyData.int (fun _ _=>true) (fun x c=>hdD (x.1++[c],x.2 - (c - d))) H fun x hx=>⟨[e,m,some (.dat (.list (H.map hdD))),some (.dat (.int d)),some (.dat (aM x.1)),some (.dat (.int x.2)),none],by simp[hdD],rfl,by
   simp[zm]at he ⊢
   exact he,by
   have hl:=i.left x hx
   have hz:Ky d x.2<=100000/\-100000<=Ky d x.2/\d<=100000/\-100000<=d:=by unfold Ky;split <;> omega
   have e1:jx d (Ky d x.2 - d).toNat=(Bm d x.2).map PyData.int:=by
    unfold jx Bm
    rw[aqK]
    rfl
   have e2:(if 9 < d+x.2 then(9:Int) else d+x.2)+1=Ky d x.2:=rfl
   simp[cQ,e2,e1,hz],fun c hc=>⟨[e,m,some (.dat (.list (H.map hdD))),some (.dat (.int d)),some (.dat (aM x.1)),some (.dat (.int x.2)),some (.dat (.int c))],by simp,rfl,fun _=>by
   have h1:=(i.hd x hx).1
   have h2:x.1.length+1<=100000:=by omega
   simp[hdD,h2]⟩⟩
 have e2:(H.flatMap fun x=>((Bm d x.2).filter fun _=>true).map fun c=>hdD (x.1++[c],x.2 - (c - d)))=(stepT d H).map hdD:=by
  unfold stepT
  rw[List.map_flatMap]
  congr 1
  funext x
  rw[List.filter_eq_self.mpr (fun _ _=>rfl),aqK]
  rfl
 rw[e2]at key
 have hl:(stepT d H).length<=50000:=by
  have:=(VJ i hd).len
  have:4 ^ (k+1)<=4 ^ 6:=Nat.pow_le_pow_right (by decide) (by omega)
  omega
 simp[CK,key,hl]
theorem Kz(M:Mo)(e m:Option Cell)(he:zm [e,m]=true):∀(ear:List Int) (k:Nat) (H:List (List Int×Int)) (o:Option Cell),Ou k H->k+ear.length<=6->(∀d∈ear,0<=d/\d<=9)->
  (∃o',fB (aG 3) CK (ear.map PyData.int) M [e,m,some (.dat (.list (H.map hdD))),o,none,none,none]=.next [e,m,some (.dat (.list ((ear.foldl (fun H d=>stepT d H) H).map hdD))),o',none,none,none] M)/\Ou (k+ear.length) (ear.foldl (fun H d=>stepT d H) H)
 |[],k,H,o,i,_,_=>⟨⟨o,rfl⟩,i⟩
 |d::ear,k,H,o,i,hk,hd=>by
  rw[aqu]at hk
  have h1:=hd d aql
  obtain⟨⟨o',ih⟩,i2⟩:=Kz M e m he ear (k+1) (stepT d H) (some (.dat (.int d))) (VJ i h1) (by omega) fun y hy=>hd y (aqk _ hy)
  refine⟨⟨o',?_⟩,?_⟩
  ·rw[aqj,fK (ρ1:=[e,m,some (.dat (.list (H.map hdD))),some (.dat (.int d)),none,none,none]) (by simp) (acH M e m he i (by omega) h1),ih]
   rfl
  ·rw[aqu,show k+(ear.length+1)=k+1+ear.length by omega]
   exact i2
def CZ(ear:List Int)(many:Int):List (List Int):=(ear.foldl (fun H d=>stepT d H) [([],many)]).map (·.1)
theorem adt{many:Int}(hm:0<=many/\many<=3):Ou 0 [([],many)]:=⟨by simp,fun x hx=>by rw[aqm.mp hx];exact hm,fun x hx=>by rw[aqm.mp hx];simp⟩
theorem Oc{ear:List Int}{many:Int}(he:cZ ear=true)(hm:0<=many/\many<=3):Ou 6 (ear.foldl (fun H d=>stepT d H) [([],many)]):=by
 unfold cZ at he
 rw[aqg,decide_eq_true_eq,aqD]at he
 have:=(Kz [] none none rfl ear 0 [([],many)] none (adt hm) (by omega) fun d hd=>by simpa using he.2 d hd).2
 rw[he.1]at this
 exact this
theorem agl(M:Mo)(ear:List Int)(many:Int)(he:cZ ear=true)(hm:0<=many/\many<=3):KY M [aM ear,.int many]=.ok (.list ((CZ ear many).map aM)):=by
 have he':=he
 unfold cZ at he'
 rw[aqg,decide_eq_true_eq,aqD]at he'
 obtain⟨⟨o',h1⟩,_⟩:=Kz M (some (.dat (aM ear))) (some (.dat (.int many))) rfl ear 0 [([],many)] none (adt hm) (by omega) fun d hd=>by simpa using he'.2 d hd
 have hi:=Oc he hm
 generalize hH:ear.foldl (fun H d=>stepT d H) [([],many)]=H at h1 hi
 have key:=fJ (tg:=bA [4,5]) (te:=aq 4) (M:=M) (ρ:=[some (.dat (aM ear)),some (.dat (.int many)),some (.dat (.list (H.map hdD))),o',none,none,none]) hdD (fun x=>aM x.1) H fun x _=>⟨[some (.dat (aM ear)),some (.dat (.int many)),some (.dat (.list (H.map hdD))),o',some (.dat (aM x.1)),some (.dat (.int x.2)),none],by simp[hdD],by simp⟩
 have hl:H.length<=50000:=by
  have:=hi.len
  have:(4:Nat) ^ 6=4096:=by decide
  omega
 have h1':fB (aG 3) CK (ear.map PyData.int) M [some (.dat (aM ear)),some (.dat (.int many)),some (.dat (.list [.tuple [.tuple [],.int many]])),none,none,none,none]=_:=h1
 have key2:∀o2:Option Cell,dD (bA [4,5]) iJ (aq 4) M [some (.dat (aM ear)),some (.dat (.int many)),some (.dat (.list (H.map hdD))),o2,none,none,none] (H.map hdD)=.ok (H.map fun x=>aM x.1):=fun o2=>fJ (tg:=bA [4,5]) (te:=aq 4) (M:=M) (ρ:=[some (.dat (aM ear)),some (.dat (.int many)),some (.dat (.list (H.map hdD))),o2,none,none,none]) hdD (fun x=>aM x.1) H fun x _=>⟨[some (.dat (aM ear)),some (.dat (.int many)),some (.dat (.list (H.map hdD))),o2,some (.dat (aM x.1)),some (.dat (.int x.2)),none],by simp[hdD],by simp⟩
 simp[KY,YG,h1',key2,hl,CZ,hH]
def Ot(mark:List Int)(extra:Int):List (List Int):=(CZ mark extra).filter fun e=>uX mark e==extra
theorem Vh{ear:List Int}{many:Int}(he:cZ ear=true)(hm:0<=many/\many<=3){x:List Int}(h:x∈CZ ear many):cZ x=true:=by
 obtain⟨y,hy,rfl⟩:=aqt.mp h
 obtain⟨h1,h2⟩:=(Oc he hm).hd y hy
 unfold cZ
 rw[aqg,decide_eq_true_eq,aqD]
 exact⟨h1,fun d hd=>by simpa using h2 d hd⟩
theorem acu{ear:List Int}{many:Int}(he:cZ ear=true)(hm:0<=many/\many<=3):(CZ ear many).length<=4096:=by
 unfold CZ
 rw[aqr]
 exact(Oc he hm).len
theorem XH(M:Mo)(mark:List Int)(extra:Int)(he:cZ mark=true)(hm:0<=extra/\extra<=3):uQ M [aM mark,.int extra]=.ok (.list ((Ot mark extra).map aM)):=by
 have h1:=agl M mark extra he hm
 have hl:=acu he hm
 have h6:mark.length<=1000:=by
  unfold cZ at he
  rw[aqg,decide_eq_true_eq]at he
  omega
 have key:=gA (tg:=aG 2) (tt:=bx (aA cC (aY uh (ak (aq 0) (ak (aq 2) au))) (ao 1))) (te:=aq 2) (M:=M) (ρ:=[some (.dat (aM mark)),some (.dat (.int extra)),none]) aM (fun e=>uX mark e==extra) aM (CZ mark extra) fun x _=>⟨[some (.dat (aM mark)),some (.dat (.int extra)),some (.dat (aM x))],by simp,by
  have:=NQ M mark x h6
  simp[this],fun _=>by simp⟩
 have hl2:(CZ mark extra).length<=50000:=by omega
 simp[uQ,Ec,h1,key,hl2,Ot]
def zu(R:List Rw)(room:Int)(e:List Int):Bool:=!(R.any fun r=>decide (dG e r.2<=room))
theorem XM(l:List Bool):N5 (.list (l.map PyData.bool))=.ok (.bool (l.any id)):=by
 show(match uG (l.map PyData.bool) with
  |some bs=>Out.ok (PyData.bool (bs.any id))
  |none=>.bad)=_
 rw[Du]
theorem abQ(M:Mo)(R:List Rw)(room:Int)(hR:uw R)(hl:R.length<=50000)(mk:List Int)(x:Int)(e:List Int)(he:e.length=6) :
  jR M [some (.dat (aM mk)),some (.dat (.int x)),some (.dat (.list (R.map Ear.rD))),some (.dat (.int room)),some (.dat (aM e)),none,none]=if zu R room e then .ret (aM e) M else .next [some (.dat (aM mk)),some (.dat (.int x)),some (.dat (.list (R.map Ear.rD))),some (.dat (.int room)),some (.dat (aM e)),none,none] M:=by
 have key:=fJ (tg:=bA [5,6]) (te:=aY qX (ak (aq 4) (ak (aq 6) (ak (aq 3) au)))) (M:=M) (ρ:=[some (.dat (aM mk)),some (.dat (.int x)),some (.dat (.list (R.map Ear.rD))),some (.dat (.int room)),some (.dat (aM e)),none,none]) Ear.rD (fun r=>.bool (decide (dG e r.2<=room))) R fun r hr=>⟨[some (.dat (aM mk)),some (.dat (.int x)),some (.dat (.list (R.map Ear.rD))),some (.dat (.int room)),some (.dat (aM e)),some (.dat (.int r.1)),some (.dat (aM r.2))],by simp[Ear.rD,Ear.dT],by
  have:=RQ M e r.2 room (by omega) (by rw[hR r hr];decide)
  simp[this]⟩
 have ha:=XM (R.map fun r=>decide (dG e r.2<=room))
 rw[aqK]at ha
 simp only[aqB,arh]at ha
 cases hf:zu R room e <;> simp[jR,key,hl,ha] <;> simp[zu]at hf <;> simpa using hf
theorem Qo(M:Mo)(R:List Rw)(room:Int)(hR:uw R)(hl:R.length<=50000)(mk:List Int)(x:Int):∀(es:List (List Int)) (o:Option Cell),(∀e∈es,e.length=6)->
  match es.find? (zu R room) with
   |some e=>fB (aG 4) jR (es.map aM) M [some (.dat (aM mk)),some (.dat (.int x)),some (.dat (.list (R.map Ear.rD))),some (.dat (.int room)),o,none,none]=.ret (aM e) M
   |none=>∃ρ',fB (aG 4) jR (es.map aM) M [some (.dat (aM mk)),some (.dat (.int x)),some (.dat (.list (R.map Ear.rD))),some (.dat (.int room)),o,none,none]=.next ρ' M
 |[],o,_=>⟨_,rfl⟩
 |e::es,o,he=>by
  have h1:=abQ M R room hR hl mk x e (he e aql)
  have ih:=Qo M R room hR hl mk x es (some (.dat (aM e))) fun y hy=>he y (aqk _ hy)
  rw[List.find?_cons]
  cases hf:zu R room e with
  |true=>
   rw[hf,if_pos rfl]at h1
   show fB _ _ _ _ _=_
   rw[aqj,fB]
   simp[h1]
  |false=>
   rw[hf,if_neg (by decide)]at h1
   have e1:fB (aG 4) jR ((e::es).map aM) M [some (.dat (aM mk)),some (.dat (.int x)),some (.dat (.list (R.map Ear.rD))),some (.dat (.int room)),o,none,none]=fB (aG 4) jR (es.map aM) M [some (.dat (aM mk)),some (.dat (.int x)),some (.dat (.list (R.map Ear.rD))),some (.dat (.int room)),some (.dat (aM e)),none,none]:=by
    rw[aqj,fK (by simp) h1]
   rw[e1]
   exact ih
theorem Wd(M:Mo)(mark:List Int)(extra:Int)(R:List Rw)(room:Int)(he:cZ mark=true)(hm:0<=extra/\extra<=3)(hR:uw R)(hl:R.length<=50000):pA M [aM mark,.int extra,.list (R.map Ear.rD),.int room]=match (Ot mark extra).find? (zu R room) with
  |some e=>.ok (aM e)
  |none=>.exc ⟨"NoneFree",[]⟩:=by
 have h1:=XH M mark extra he hm
 have h2:=Qo M R room hR hl mark extra (Ot mark extra) none fun e h=>by
  have:=Vh he hm (aqC.mp h).1
  unfold cZ at this
  rw[aqg,decide_eq_true_eq]at this
  exact this.1
 cases hf:(Ot mark extra).find? (zu R room) with
 |some e=>
  rw[hf]at h2
  simp[pA,wC,h1,h2]
 |none=>
  rw[hf]at h2
  obtain⟨ρ',h2⟩:=h2
  simp[pA,wC,h1,h2]
@[simp]theorem alZ (L:Lay) (c:aK):(aO L c).cls="Commons":=rfl
theorem any_keys(y:Int)(l:List Int):((l.map fun o=>(PyData.int o,PyData.bool true)).any fun p=>PyData.eqv p.1 (.int y))=decide (y∈l):=by
 have:=any_ints y l
 rw[arh]at this ⊢
 exact this
section
variable{M:Mo}{L:Lay}{c:aK}(a:At M L c)
include a
theorem lC(o:Int):jk M [ob L.c,.int o]=if o∈c.own then .ok .none else .exc ⟨"NoOwner",[]⟩:=by
 have hc:=a.hc
 have hk:=any_keys o c.own
 simp only[arh,aqB]at hk
 by_cases h:o∈c.own
 ·rw[decide_eq_true h]at hk
  rw[if_pos h]
  simp[jk,lU,hc,aO,aqB,hk]
  rw[if_neg (fun z=>z o h rfl)]
 ·rw[decide_eq_false h]at hk
  rw[if_neg h]
  simp[jk,lU,hc,aO,aqB,hk]
  have hz:∀x:Int,x∈c.own->¬x=o:=fun x hx e=>h (e ▸ hx)
  rw[if_pos hz]
theorem zL(i:cV c)(x:Int):pJ M [ob L.c,.int x]=if Vg c x then .ok (.int (roomOf c x)) else .exc ⟨"NoGround",[]⟩:=by
 have hc:=a.hc
 obtain⟨n,m,hg⟩:=a.hg
 have h1:=afW a i x
 by_cases h:Vg c x
 ·rw[if_pos h]at h1 ⊢
  simp[pJ,ug,hc,aO,hg,dh,rW,h1]
 ·rw[if_neg h]at h1 ⊢
  simp[pJ,ug,hc,aO,hg,dh,rW,h1]
theorem Aq(i:cV c)(x:Int):jZ M [ob L.c,.int x]=if Vg c x then .ok (lI (aH c x)) else .exc ⟨"NoGround",[]⟩:=by
 have hc:=a.hc
 obtain⟨n,m,hg⟩:=a.hg
 have h1:=uW a i x
 by_cases h:Vg c x
 ·rw[if_pos h]at h1 ⊢
  simp[jZ,oK,hc,aO,hg,dh,bB,h1]
 ·rw[if_neg h]at h1 ⊢
  simp[jZ,oK,hc,aO,hg,dh,bB,h1]
theorem ac0:qJ M [ob L.c]=.ok (lI c.own):=by
 have hc:=a.hc
 simp[qJ,vH,hc,aO,aqB]
theorem qU(few:c.held.length<=50000)(o g:Int):lJ M [ob L.c,.int o,.int g]=if bQ c o g=[] then .exc ⟨"NoRight",[]⟩ else .ok .none:=by
 have hc:=a.hc
 have hr:=a.hr
 have h1:=Xx a few o g
 by_cases h:bQ c o g=[] <;> simp[lJ,qm,hc,aO,hr,m9,rM,h1,h]
theorem Ag(few:c.held.length<=50000)(o g:Int){mk:List Int}{r:List (List Int)}(h:bQ c o g=mk::r):lO M [ob L.c,.int o,.int g]=.ok (aM mk):=by
 have hc:=a.hc
 have hr:=a.hr
 have h1:=Hz a few o g
 rw[h]at h1
 simp[lO,qu,hc,aO,hr,m9,cH,h1]
end
def inR(c:aK)(near:List Int):List Rw:=(c.held.filter fun r=>decide (r.2.1∈near)).map fun r=>(r.1,r.2.2)
def Zv(lo:Int)(x:Nat×Nat×dU):Bool:=x.2.2.sd.due.isSome&&!(((x.1:Int)+1)==lo)
def Ox(L:Lay)(c:aK)(lo:Int)(near:List Int):List Rw:=(((bY L c).filter fun x=>decide (x.2.2.sd.g∈near)&&x.2.2.sd.al).filter (Zv lo)).map fun x=>(x.2.2.sd.o,x.2.2.sd.due.getD [])
def fu(L:Lay)(c:aK)(lo x:Int):List Rw:=inR c (aH c x)++Ox L c lo (aH c x)
section
variable{M:Mo}{L:Lay}{c:aK}(a:At M L c)
include a
theorem DG(i:cV c)(few:c.held.length<=20000)(fewb:c.bs.length<=20000)(lo x:Int)(h76:(fu L c lo x).eraseDups.length<=76):iz M [ob L.c,.int lo,.int x]=if Vg c x then .ok (.list ((bH (fu L c lo x)).map Ear.rD)) else .exc ⟨"NoGround",[]⟩:=by
 have hc:=a.hc
 have hr:=a.hr
 obtain⟨n,hh⟩:=a.hh
 have h1:=Aq a i x
 by_cases h:Vg c x
 ·rw[if_pos h]at h1 ⊢
  have h2:=RJ a (by omega:c.bs.length<=50000) (aH c x)
  have h3:=Wb a (by omega:c.held.length<=50000) (aH c x)
  have h4:=Kh M (fu L c lo x) h76
  have hl:((bY L c).filter fun y=>decide (y.2.2.sd.g∈aH c x)&&y.2.2.sd.al).length<=20000:=aqH (aqw _ _) (by rw[a.len'];exact fewb)
  have hl2:((bY L c).filter fun y=>decide (y.2.2.sd.g∈aH c x)&&y.2.2.sd.al).length<=50000:=by omega
  have key:=gA (tg:=bA [5,6]) (tt:=jY (bx (yd true .none (bL "due" (ao 6)))) (bx (aA u9 (ao 5) (ao 1)))) (te:=bJ (ak (gM "owner" (ao 6)) (ak (gM "due" (ao 6)) au))) (M:=M) (ρ:=[some (.dat (ob L.c)),some (.dat (.int lo)),some (.dat (.int x)),some (.dat (lI (aH c x))),none,none,none]) nb (Zv lo) (fun y=>Ear.rD (y.2.2.sd.o,y.2.2.sd.due.getD [])) ((bY L c).filter fun y=>decide (y.2.2.sd.g∈aH c x)&&y.2.2.sd.al) fun y hy=>⟨[some (.dat (ob L.c)),some (.dat (.int lo)),some (.dat (.int x)),some (.dat (lI (aH c x))),none,some (.dat (.int ((y.1:Int)+1))),some (.dat (ob y.2.1))],by simp[nb],by
   obtain⟨n',hb⟩:=a.hb' (aqC.mp hy).1
   cases hd:y.2.2.sd.due <;> simp[hb,iB,hd,qG,Zv,lM],fun hp=>by
   obtain⟨n',hb⟩:=a.hb' (aqC.mp hy).1
   cases hd:y.2.2.sd.due with
   |none=>simp[Zv,hd]at hp
   |some e=>simp[hb,iB,hd,qG,Ear.rD,Ear.dT]⟩
  have e1:(c.held.filter fun r=>decide (r.2.1∈aH c x)).map (fun r=>Ear.rD (r.1,r.2.2))=(inR c (aH c x)).map Ear.rD:=by
   unfold inR
   rw[aqK]
   rfl
  have e2:(((bY L c).filter fun y=>decide (y.2.2.sd.g∈aH c x)&&y.2.2.sd.al).filter (Zv lo)).map (fun y=>Ear.rD (y.2.2.sd.o,y.2.2.sd.due.getD []))=(Ox L c lo (aH c x)).map Ear.rD:=by
   unfold Ox
   rw[aqK]
   rfl
  rw[e1]at h3
  rw[e2]at key
  have z1:(inR c (aH c x)).length<=20000:=by
   unfold inR
   rw[aqr]
   exact aqH (aqw _ _) few
  have z2:(Ox L c lo (aH c x)).length<=20000:=by
   unfold Ox
   rw[aqr]
   exact aqH (aqw _ _) hl
  have z3:(inR c (aH c x)).length+(Ox L c lo (aH c x)).length<=100000:=by omega
  unfold fu at h4 ⊢
  rw[List.map_append]at h4
  simp[iz,jX,hc,aO,bT,h1,hh,dH,ji,h2,hr,m9,qw,h3]
  simp[key,hl2,z3,h4,hc,aO,hr,m9,h3]
 ·rw[if_neg h]at h1 ⊢
  simp[iz,jX,hc,aO,bT,h1]
end
def jW(b:dU):Dat:=.tuple [.int b.sd.o,.int b.sd.g,qG b.sd.due,aM b.sd.ear,.bool b.sd.al,.int b.mo,.tuple (b.fi.dat::b.en.map En.dat)]
theorem agJ{M:Mo}{h n:Nat}{b:dU}(hb:M[h]?=some (iB n b)):xK M [ob h]=.ok (jW b):=by
 have h1:=Yv hb
 simp[xK,CG,hb,mj,h1]
 simp[iB,Sd.dat,jW]
def Bb(c:aK)(k:Nat):Dat:=.tuple [.int (jG c ((k:Int)+1)),aM (aH c ((k:Int)+1))]
def jH(c:aK):Dat:=.tuple [lI c.own,.list ((List.range c.al.length).map (Bb c)),.list (c.held.map gY),.list (c.bs.map jW)]
section
variable{M:Mo}{L:Lay}{c:aK}(a:At M L c)
include a
theorem ahz(i:cV c)(few:c.held.length<=20000)(fewb:c.bs.length<=20000):pC M [ob L.c]=.ok (jH c):=by
 have hc:=a.hc
 have hr:=a.hr
 obtain⟨n,m,hg⟩:=a.hg
 obtain⟨n1,hh⟩:=a.hh
 have h1:=aah a
 have h2:=ac0 a
 have h3:=ZC a (by omega:c.held.length<=50000)
 have hf:=i.few
 have k1:=fJ (tg:=aG 3) (te:=bJ (ak (aP dX (bL "grounds" (ao 0)) (ak (aq 3) au)) (ak (eX mJ (aP bT (ao 0) (ak (aq 3) au))) au))) (M:=M) (ρ:=[some (.dat (ob L.c)),none,none,none,none]) (fun(k:Nat)=>PyData.int (1+(k:Int))) (Bb c) (List.range c.al.length) fun k hk=>⟨[some (.dat (ob L.c)),none,none,some (.dat (.int ((k:Int)+1))),none],by simp[Int.add_comm],by
  rw[List.mem_range]at hk
  have hv:Vg c ((k:Int)+1):=by constructor <;> omega
  have g1:=JZ a ((k:Int)+1)
  have g2:=Aq a i ((k:Int)+1)
  rw[if_pos hv]at g1 g2
  simp[hc,aO,hg,dh,dX,bT,g1,g2,Bb]⟩
 have hl:=a.len'
 have k2:=fun(o1:Option Cell)=>fJ (tg:=aG 4) (te:=aP vC (ao 4) au) (M:=M) (ρ:=[some (.dat (ob L.c)),o1,none,none,none]) (fun(x:Nat×Nat×dU)=>ob x.2.1) (fun x=>jW x.2.2) (bY L c) fun x hx=>⟨[some (.dat (ob L.c)),o1,none,none,some (.dat (ob x.2.1))],by simp,by
  obtain⟨n',hb⟩:=a.hb' hx
  have:=agJ hb
  simp[hb,vC,this]⟩
 have e1:(bY L c).map (fun x=>ob x.2.1)=L.bs.map ob:=by
  unfold bY
  apply aqE
  intro j
  simp only[aqs,aqT]
  by_cases hj:j < L.bs.length
  ·have hz:(L.bs.zip c.bs)[j]?=some (L.bs[j],c.bs[j]'(by rw[←a.len];exact hj)):=by
    rw[aq2]
    exact⟨aqi hj,aqi _⟩
   rw[hz,aqi hj]
   rfl
  ·rw[aqJ (by omega:L.bs.length<=j),aqJ (by rw[List.length_zip];omega)]
   rfl
 have e2:(bY L c).map (fun x=>jW x.2.2)=c.bs.map jW:=by
  unfold bY
  apply aqE
  intro j
  simp only[aqs,aqT]
  by_cases hj:j < c.bs.length
  ·have hz:(L.bs.zip c.bs)[j]?=some (L.bs[j]'(by rw[a.len];exact hj),c.bs[j]):=by
    rw[aq2]
    exact⟨aqi _,aqi hj⟩
   rw[hz,aqi hj]
   rfl
  ·rw[aqJ (by omega:c.bs.length<=j),aqJ (by rw[List.length_zip];omega)]
   rfl
 simp only[e1,e2]at k2
 have r1:jx 1 c.al.length=(List.range c.al.length).map fun(k:Nat)=>PyData.int (1+(k:Int)):=rfl
 have z1:(c.al.length:Int)+1<=100000:=by omega
 have z2 : -100000<=(c.al.length:Int)+1:=by omega
 have z3:c.al.length<=50000:=by omega
 have z4:L.bs.length<=50000:=by rw[a.len];omega
 simp[pC,yO,hc,aO,hg,dh,eO,h1,z1,z2,r1,k1,z3]
 simp[hc,aO,hh,dH,hr,m9,k2,z4,uN,tL,h2,h3,jH]
end
section
variable{M:Mo}{L:Lay}{c:aK}(a:At M L c)
include a
theorem uU(i:cV c)(few:c.held.length<=20000)(fewb:c.bs.length<=20000)(x:Int)(h76:(fu L c 0 x).eraseDups.length<=76):kh M [ob L.c,.int x]=if Vg c x then .ok (.list ((bH (fu L c 0 x)).map Ear.rD)) else .exc ⟨"NoGround",[]⟩:=by
 have hc:=a.hc
 have h1:=DG a i few fewb 0 x h76
 by_cases h:Vg c x
 ·rw[if_pos h]at h1 ⊢
  simp[kh,oE,hc,cX,h1]
 ·rw[if_neg h]at h1 ⊢
  simp[kh,oE,hc,cX,h1]
def akq(o:Int)(e:List Int)(R:List Rw)(room:Int):Out Dat:=match vW o e R room with
 |[]=>.ok .none
 |r::_=>.exc ⟨"Clash",[("ear",aM (jP e r.2)),("others",Ear.rD r),("ones",Ear.rD (o,e))]⟩
omit a in
theorem aeB{T:List Rw}(h:Ear.Fd T):T.Nodup:=by
 unfold Ear.Fd at h
 unfold List.Nodup
 exact h.imp fun {x y} z e=>by
  subst e
  exact List.lt_irrefl _ z
theorem Lg(ho:∀o∈c.own,o<=c.count)(few:c.own.length<=20000):∃M',iy M [ob L.c]=.ok (.int (c.count+1)) M'/\At M' L { c with count:=c.count+1,own:=c.own++[c.count+1] }:=by
 have hc:=a.hc
 have hl:∀i,(M.set L.c i)[L.c]?=some i:=fun i=>by rw[bG hc,if_pos rfl]
 have hk:=any_keys (c.count+1) c.own
 have hn:¬(c.count+1)∈c.own:=fun z=>by have:=ho _ z;omega
 rw[decide_eq_false hn]at hk
 have hz:∀x∈c.own,¬x=c.count+1:=fun x hx e=>hn (e ▸ hx)
 have f2:c.own.length < 100000:=by omega
 refine⟨_,?_,a.setC⟩
 simp only[arh,aqB]at hk
 have hd:(c.own.any fun x=>x==c.count+1)=false:=by
  rw[List.any_eq_false]
  intro x hx
  simpa using hz x hx
 simp[iy,rJ,hc,aO,hl,jU,f2,aqB,hd]
end
theorem Za{α:Type}[BEq α][LawfulBEq α](l:List α):l.eraseDups.length<=l.length:=by
 induction hn:l.length using Nat.strongRecOn generalizing l with
 |_ n ih=>
  cases l with
  |nil=>simp
  |cons a r=>
   rw[List.eraseDups_cons]
   simp only[aqu]at hn ⊢
   have hl:(r.filter fun b=>!b==a).length<=r.length:=aqw _ _
   have:=ih _ (by omega) (r.filter fun b=>!b==a) rfl
   omega
theorem Y4{S:List Rw}(h:S.eraseDups.length<=76):(bH S).eraseDups.length<=76:=aqH (Za _) (by rw[tG];exact h)
theorem v7{S:List Rw}(h:uw S):uw (bH S):=fun r hr=>h r (dB.mp hr)
section
variable{M:Mo}{L:Lay}{c:aK}(a:At M L c)
include a
theorem Wv(i:cV c)(few:c.held.length<=20000)(fewb:c.bs.length<=20000)(o x:Int)(e:List Int)(he:e.length=6)(hv:Vg c x)(h76:(fu L c 0 x).eraseDups.length<=76)(hE:uw (fu L c 0 x)):gG M [ob L.c,.int o,aM e,.int x]=akq o e (bH (fu L c 0 x)) (roomOf c x):=by
 have hc:=a.hc
 have h1:=uU a i few fewb x h76
 have h2:=zL a i x
 rw[if_pos hv]at h1 h2
 have h3:=M8 M o e (bH (fu L c 0 x)) (roomOf c x) he (v7 hE) (Y4 h76)
 unfold akq
 cases hb:vW o e (bH (fu L c 0 x)) (roomOf c x) with
 |nil=>
  rw[hb]at h3
  simp[gG,lV,hc,bO,cA,h1,h2,h3]
 |cons r rs=>
  rw[hb]at h3
  simp[gG,lV,hc,bO,cA,h1,h2,h3]
end
section
variable{M:Mo}{L:Lay}{c:aK}(a:At M L c)
include a
def Ht(L:Lay)(c:aK)(x y:Int):List Rw:=bH (fu L c 0 x)++bH (fu L c 0 y)
def lu(c:aK)(x y:Int):Int:=if roomOf c y > roomOf c x then roomOf c y else roomOf c x
theorem Z4(i:cV c)(few:c.held.length<=20000)(fewb:c.bs.length<=20000)(x y:Int)(hx:Vg c x)(hy:Vg c y)(h1:(fu L c 0 x).eraseDups.length<=76)(h2:(fu L c 0 y).eraseDups.length<=76)(h3:(Ht L c x y).eraseDups.length<=76)(e1:uw (fu L c 0 x))(e2:uw (fu L c 0 y)):kE M [ob L.c,.int x,.int y]=.ok (.list ((gJ (bH (Ht L c x y)) (lu c x y)).map pairD)):=by
 have hc:=a.hc
 have s1:=uU a i few fewb x h1
 have s2:=uU a i few fewb y h2
 have r1:=zL a i x
 have r2:=zL a i y
 rw[if_pos hx]at s1 r1
 rw[if_pos hy]at s2 r2
 have hE:uw (Ht L c x y):=fun r hr=>by
  rcases aqp.mp hr with hr|hr
  ·exact v7 e1 r hr
  ·exact v7 e2 r hr
 have k:=Z7 M (Ht L c x y) (lu c x y) hE h3
 have l1:(bH (fu L c 0 x)).length<=76:=by rw[tG];exact h1
 have l2:(bH (fu L c 0 y)).length<=76:=by rw[tG];exact h2
 have l3:(bH (fu L c 0 x)).length+(bH (fu L c 0 y)).length<=100000:=by omega
 have k':uF M [.list ((bH (fu L c 0 x)).map Ear.rD++(bH (fu L c 0 y)).map Ear.rD),.int (if roomOf c y > roomOf c x then roomOf c y else roomOf c x)]=.ok (.list ((gJ (bH (Ht L c x y)) (lu c x y)).map pairD)):=by
  rw[←List.map_append]
  exact k
 simp[kE,tK,hc,bO,cA,s1,s2,r1,r2,l3]
 simp at k'
 exact k' ▸ (by simp[k'])
end
def BR(c:aK)(lo:Int)(near:List Int):List Rw:=((c.bs.mapIdx fun i b=>(i,b)).filter fun x=>(x.2.sd.due.isSome&&!(((x.1:Int)+1)==lo))&&(decide (x.2.sd.g∈near)&&x.2.sd.al)).map fun x=>(x.2.sd.o,x.2.sd.due.getD [])
def cJ(c:aK)(lo x:Int):List Rw:=inR c (aH c x)++BR c lo (aH c x)
theorem La{M:Mo}{L:Lay}{c:aK}(a:At M L c):(bY L c).map (fun x=>(x.1,x.2.2))=c.bs.mapIdx fun i b=>(i,b):=by
 unfold bY
 apply aqE
 intro j
 simp only[aqs,aqT]
 by_cases hj:j < c.bs.length
 ·have hz:(L.bs.zip c.bs)[j]?=some (L.bs[j]'(by rw[a.len];exact hj),c.bs[j]):=by
   rw[aq2]
   exact⟨aqi _,aqi hj⟩
  rw[hz,aqi hj]
  rfl
 ·rw[aqJ (by omega:c.bs.length<=j),aqJ (by rw[List.length_zip];omega)]
  rfl
theorem iU{M:Mo}{L:Lay}{c:aK}(a:At M L c)(lo x:Int):fu L c lo x=cJ c lo x:=by
 unfold fu cJ Ox BR
 rw[←La a,List.filter_map,aqK,arf]
 rfl
inductive bK where
 |owner|ground (x:Int)|enrol (o g:Int) (m:List Int)|leave (o g:Int)|bring (o g:Int) (e:List Int)|bear (k:Int)|cut (k:Int)|tear (k p:Int)|sell (k o:Int)|move (k g:Int)|die (k:Int)|wA (x y:Int)|part (x:Int)|pass (e h:Int)|heir (e g x:Int)
def bK.dat:bK->Dat
 |.owner=>.tuple [.str "owner"]
 |.ground x=>.tuple [.str "ground",.int x]
 |.enrol o g m=>.tuple [.str "enrol",.int o,.int g,aM m]
 |.leave o g=>.tuple [.str "leave",.int o,.int g]
 |.bring o g m=>.tuple [.str "bring",.int o,.int g,aM m]
 |.bear k=>.tuple [.str "bear",.int k]
 |.cut k=>.tuple [.str "cut",.int k]
 |.tear k p=>.tuple [.str "tear",.int k,.int p]
 |.sell k o=>.tuple [.str "sell",.int k,.int o]
 |.move k g=>.tuple [.str "move",.int k,.int g]
 |.die k=>.tuple [.str "die",.int k]
 |.wA x y=>.tuple [.str "unite",.int x,.int y]
 |.part x=>.tuple [.str "part",.int x]
 |.pass e h=>.tuple [.str "pass",.int e,.int h]
 |.heir e g x=>.tuple [.str "heir",.int e,.int g,.int x]
inductive Res where
 |ok (d:Dat) (c:aK)|no (x:dN)
def GP(o:Int)(e:List Int)(r:Rw):dN:=⟨"Clash",[("ear",aM (jP e r.2)),("others",Ear.rD r),("ones",Ear.rD (o,e))]⟩
def firstM(c:aK)(o g:Int):List Int:=(bQ c o g).headD []
def xH(o:Int)(e:List Int)(R:List Rw)(room:Int)(r:Res):Res:=match vW o e (bH R) room with
 |[]=>r
 |x::_=>.no (GP o e x)
def wI(c:aK)(x y:Int):List Rw:=bH (cJ c 0 x)++bH (cJ c 0 y)
def lN(c:aK)(x:Int):List Int:=(aH c x).filter fun y=>!(y==x)
def Rj(c:aK)(e:Int):List Int:=((c.bs.mapIdx fun i b=>(i,b)).filter fun x=>(x.2.sd.o==e)&&x.2.sd.al).map fun x=>(x.1:Int)+1
def WD(o g:Int)(b:dU):Bool:=(decide (b.sd.g∈[g])&&b.sd.al)&&(b.sd.o==o)
def wD(c:aK)(k:Int)(f:dU->Res):Res:=match bk c k with
 |none=>.no ⟨"NoBeast",[]⟩
 |some b=>if b.sd.al=true then f b else .no ⟨"Dead",[]⟩
def markB(c:aK)(k:Int)(f:dU->List Int->Res):Res:=wD c k fun b=>match b.sd.due with
 |none=>.no ⟨"Unmarked",[]⟩
 |some e=>f b e
def vZ(c:aK)(k o g:Int):aK:=nO (fun x=>tX k x&&x.sd.al) (.followed o g) c
def sG(c:aK)(o:Int)(r:Res):Res:=if o∈c.own then r else .no ⟨"NoOwner",[]⟩
def wW(c:aK)(g:Int)(r:Res):Res:=if Vg c g then r else .no ⟨"NoGround",[]⟩
def KQ(e:List Int)(r:Res):Res:=if cZ e=true then r else .no ⟨"BadEar",[]⟩
def nY(c:aK)(o g:Int)(r:Res):Res:=if bQ c o g=[] then .no ⟨"NoRight",[]⟩ else r
def cY(c:aK):bK->Res
 |.owner=>.ok (.int (c.count+1)) { c with count:=c.count+1,own:=c.own++[c.count+1] }
 |.ground x=>if 0<=x/\x<=9 then .ok (.int (c.al.length+1)) { c with al:=c.al++[x],ci:=c.ci++[[(c.al.length:Int)+1]] } else .no ⟨"BadAllowance",[]⟩
 |.enrol o g m=>sG c o <|wW c g <|KQ m <|if m=[0,0,0,0,0,0] then .no ⟨"Bare",[]⟩ else if m∈bQ c o g then .no ⟨"HasRight",[]⟩ else xH o m (cJ c 0 g) (roomOf c g) (.ok .none { c with held:=c.held++[(o,g,m)] })
 |.leave o g=>sG c o <|wW c g <|nY c o g <|if c.bs.any (WD o g)=true then .no ⟨"StillThere",[]⟩ else .ok (.list ((bQ c o g).map aM)) { c with held:=dropped c o g }
 |.bring o g e=>sG c o <|wW c g <|KQ e <|nY c o g <|.ok (.int (c.bs.length+1)) { c with bs:=c.bs++[Cj (.brought o g e)] }
 |.bear k=>markB c k fun b _=>.ok (.int (c.bs.length+1)) { c with bs:=c.bs++[Cj (.born k b.sd.o b.sd.g)] }
 | .cut k=>wD c k fun b=>xH b.sd.o (jP b.sd.ear (firstM c b.sd.o b.sd.g)) (cJ c 0 b.sd.g) (roomOf c b.sd.g) (.ok (aM (jP b.sd.ear (firstM c b.sd.o b.sd.g))) (fY c (k - 1).toNat (.cut (jP b.sd.ear (firstM c b.sd.o b.sd.g)))))
 |.tear k p=>wD c k fun b=>if 0<=p/\p < 6 then(if 9<=b.sd.ear.getD p.toNat 0 then .no ⟨"Deepest",[]⟩ else .ok (aM (wB b.sd.ear p.toNat)) (fY c (k - 1).toNat (.torn p.toNat))) else .no ⟨"NoPlace",[]⟩
 |.sell k o=>markB c k fun b _=>sG c o <|if b.sd.o=o then .no ⟨"SameOwner",[]⟩ else nY c o b.sd.g <| xH o (jP b.sd.ear (firstM c o b.sd.g)) (cJ c k b.sd.g) (roomOf c b.sd.g) (.ok (aM (jP b.sd.ear (firstM c o b.sd.g))) (vZ (fY c (k - 1).toNat (.sold o (jP b.sd.ear (firstM c o b.sd.g)))) k o b.sd.g))
 |.move k g=>markB c k fun b e=>wW c g <|if b.sd.g=g then .no ⟨"SameGround",[]⟩ else nY c b.sd.o g <|xH b.sd.o e (cJ c 0 g) (roomOf c g) (.ok (.int b.sd.g) (vZ (fY c (k - 1).toNat (.moved g)) k b.sd.o g))
 |.die k=>wD c k fun _=>.ok .none (fY c (k - 1).toNat .died)
 |.wA x y=>wW c y <|wW c x <|if y∈aH c x then .no ⟨"Together",[]⟩ else match gJ (bH (wI c x y)) (lu c x y) with
  |p::_=>.no (GP p.1.1 p.1.2 p.2)
  |[]=>.ok (lI (sortI (aH c x++aH c y))) { c with ci:=encl c.ci (sortI (aH c x++aH c y)) }
 |.part x=>wW c x <|if lN c x=[] then .no ⟨"Alone",[]⟩ else .ok (lI (lN c x)) { c with ci:=encl (encl c.ci [x]) (lN c x) }
 |.pass e h=>sG c e <|sG c h <|if e=h then .no ⟨"SameOwner",[]⟩ else .ok (lI (Rj c e)) { nO (fun b=>(b.sd.o==e)&&b.sd.al) (.passed h) c with own:=c.own.filter (fun o=>!(o==e)),held:=handed c e h }
 | .heir e g x=>sG c e <| wW c g <| if 1<=x/\x<=3 then nY c e g (match (Ot (firstM c e g) x).find? (zu (bH (cJ c 0 g)) (roomOf c g)) with
  |some mk=>.ok (.tuple [.int (c.count+1),aM mk]) { c with count:=c.count+1,own:=c.own++[c.count+1],held:=c.held++[(c.count+1,g,mk)] }
  |none=>.no ⟨"NoneFree",[]⟩) else .no ⟨"BadExtra",[]⟩
structure Inv(n s:Nat)(c:aK):Prop where
 gr:cV c
 al:c.al.length<=n
 cnt:0<=c.count/\c.count<=n
 own:∀o∈c.own,1<=o/\o<=c.count
 Om:c.own.Nodup
 ownL:c.own.length<=n
 held:c.held.Nodup
 hL:c.held.length+c.bs.length<=s
 hE:∀r∈c.held,r.1∈c.own/\Vg c r.2.1/\cZ r.2.2=true
 ear:∀b∈c.bs,cZ b.sd.ear=true
 due:∀b∈c.bs,∀e,b.sd.due=some e->cZ e=true
 en:∀b∈c.bs,b.en.length<=2 * n
 rt:∀b∈c.bs,b.sd.al=true->∃m,(b.sd.o,b.sd.g,m)∈c.held
theorem gR{x:List Int}(h:cZ x=true):x.length=6:=by
 unfold cZ at h
 simp at h
 exact h.1
theorem Cq{α:Type}[BEq α][LawfulBEq α]:∀{l S:List α},l.Nodup->(∀x∈l,x∈S)->l.length<=S.length
 |[],_,_,_=>by simp
 |x::l,S,nd,h=>by
  rw[arl]at nd
  have hx:=h x aql
  have:=Cq (l:=l) (S:=S.erase x) nd.2 fun y hy=>by
   have:y≠x:=fun z=>nd.1 (z ▸ hy)
   exact(List.mem_erase_of_ne this).mpr (h y (aqk _ hy))
  rw[List.length_erase_of_mem hx]at this
  have:=List.length_pos_of_mem hx
  rw[aqu]
  omega
def Mh(c:aK):List Rw:=c.held.map (fun r=>(r.1,r.2.2))++c.bs.map fun b=>(b.sd.o,b.sd.due.getD [])
theorem Tw{c:aK}{near:List Int}{r:Rw}(h:r∈inR c near):∃g,(r.1,g,r.2)∈c.held/\g∈near:=by
 unfold inR at h
 obtain⟨x,h1,rfl⟩:=aqt.mp h
 obtain⟨h2,h3⟩:=aqC.mp h1
 exact⟨x.2.1,h2,by simpa using h3⟩
theorem Pg{c:aK}{lo:Int}{near:List Int}{r:Rw}(h:r∈BR c lo near):∃(i:Nat) (b:dU),c.bs[i]?=some b/\b.sd.o=r.1/\b.sd.due=some r.2/\b.sd.al=true/\b.sd.g∈near/\(i:Int)+1≠lo:=by
 unfold BR at h
 obtain⟨x,h1,rfl⟩:=aqt.mp h
 obtain⟨h2,h3⟩:=aqC.mp h1
 obtain⟨i,hi,rfl⟩:=List.mem_mapIdx.mp h2
 simp only[aqg,decide_eq_true_eq,aqz,beq_eq_false_iff_ne]at h3
 obtain⟨⟨h4,h5⟩,h6,h7⟩:=h3
 refine⟨i,c.bs[i],aqi hi,rfl,?_,h7,h6,h5⟩
 cases hd:c.bs[i].sd.due with
 |none=>simp[hd]at h4
 |some e=>rfl
theorem oO{c:aK}{lo x:Int}{r:Rw}(h:r∈cJ c lo x):r∈Mh c:=by
 unfold Mh
 rcases aqp.mp h with h|h
 ·obtain⟨g,h1,_⟩:=Tw h
  exact aqL _ (aqt.mpr ⟨_,h1,rfl⟩)
 ·obtain⟨i,b,h1,h2,h3,_⟩:=Pg h
  refine aqY _ (aqt.mpr ⟨b,aqn h1,?_⟩)
  rw[h2,h3]
  rfl
section
variable{n s:Nat}{c:aK}(I:Inv n s c)
include I
theorem Inv.few{R:List Rw}(h:∀r∈R,r∈Mh c):R.eraseDups.length<=s:=by
 have h1:=Cq (l:=bH R) (S:=Mh c) (aeB (Oh R)) fun r hr=>h r (dB.mp hr)
 rw[tG]at h1
 have:(Mh c).length=c.held.length+c.bs.length:=by simp[Mh]
 have:=I.hL
 omega
theorem Inv.Le{lo x:Int}:uw (cJ c lo x):=fun r hr=>by
 rcases aqp.mp hr with h|h
 ·obtain⟨g,h1,_⟩:=Tw h
  exact gR (I.hE _ h1).2.2
 ·obtain⟨i,b,h1,h2,h3,_⟩:=Pg h
  exact gR (I.due b (aqn h1) _ h3)
theorem Inv.bi:JT (2 * n) c:=⟨fun b hb=>gR (I.ear b hb),I.en⟩
theorem Inv.mk1{o g:Int}(h:bQ c o g≠[]):∃r,bQ c o g=firstM c o g::r/\cZ (firstM c o g)=true:=by
 cases hm:bQ c o g with
 |nil=>exact absurd hm h
 |cons m r=>
  refine⟨r,by simp[firstM,hm],?_⟩
  have:m∈bQ c o g:=by rw[hm];exact aql
  unfold bQ at this
  obtain⟨x,h1,rfl⟩:=aqt.mp this
  have e:firstM c o g=x.2.2:=by simp[firstM,hm]
  rw[e]
  exact(I.hE x (aqC.mp h1).1).2.2
end
theorem Ds{c:aK}{o g:Int}{m:List Int}:m∈bQ c o g↔(o,g,m)∈c.held:=by
 unfold bQ
 rw[aqt]
 constructor
 ·rintro⟨⟨x,y,z⟩,h,rfl⟩
  obtain⟨h1,h2⟩:=aqC.mp h
  simp at h2
  obtain⟨rfl,rfl⟩:=h2
  exact h1
 ·intro h
  exact⟨_,aqC.mpr ⟨h,by simp⟩,rfl⟩
theorem yS{c:aK}{o g:Int}:bQ c o g≠[]↔∃m,(o,g,m)∈c.held:=by
 constructor
 ·intro h
  obtain⟨m,hm⟩:=List.exists_mem_of_ne_nil _ h
  exact⟨m,Ds.mp hm⟩
 ·rintro⟨m,hm⟩ z
  have:=Ds.mpr hm
  rw[z]at this
  cases this
theorem CW{x y:List Int}(hx:cZ x=true)(hy:cZ y=true):cZ (jP x y)=true:=by
 have lx:=gR hx
 have ly:=gR hy
 unfold cZ at *
 simp only[aqg,decide_eq_true_eq,aqD]at *
 refine⟨by simp[jP];omega,fun d hd=>?_⟩
 unfold jP at hd
 obtain⟨p,hp,rfl⟩:=aqt.mp hd
 have h1:=hx.2 p.1 (List.of_mem_zip hp).1
 have h2:=hy.2 p.2 (List.of_mem_zip hp).2
 split <;> omega
theorem Gu(n:Nat)(x:List Int):okd (n+1) (aM x)=true:=by
 show okd (n+1) (.tuple (x.map PyData.int))=true
 rw[okd]
 exact Ve n x
theorem ahv(x y:List Int):cC (aM x) (aM y)=.ok (.bool (decide (x=y))):=by
 show(Out.when (okd 12 (aM x)&&okd 12 (aM y)) (.ok (PyData.eqv (aM x) (aM y)))).bind _=_
 rw[Gu 11,Gu 11,X5,yZ]
 rfl
theorem ahp(neg:Bool)(m:List Int)(ms:List (List Int)):inD neg (aM m) (.list (ms.map aM))=.ok (.bool (neg ^^ decide (m∈ms))):=by
 have h1:mU 12 (ms.map aM)=true:=G4.mpr fun d hd=>by
  obtain⟨x,_,rfl⟩:=aqt.mp hd
  exact Gu 11 x
 have h2:((ms.map aM).any fun z=>PyData.eqv z (aM m))=decide (m∈ms):=by
  induction ms with
  |nil=>simp
  |cons x ms ih=>
   have h1':mU 12 (ms.map aM)=true:=G4.mpr fun d hd=>by
    obtain⟨x,_,rfl⟩:=aqt.mp hd
    exact Gu 11 x
   rw[aqj,aq9,ih h1',X5,yZ]
   by_cases h:x=m
   ·simp[h]
   ·have:¬m=x:=fun z=>h z.symm
    simp[h,this]
 show(Out.when (okd 12 (aM m)&&mU 12 (ms.map aM)) (.ok ((ms.map aM).any fun z=>PyData.eqv z (aM m)))).bind _=_
 rw[h1,h2,Gu 11]
 rfl
def Sp(M:Mo)(L:Lay)(o:aZ Dat):Res->Prop
 |.ok d c'=>∃M' bs,o=.ok d M'/\At M' { L with bs:=bs } c'
 |.no x=>o=.exc x M
section
variable{M:Mo}{L:Lay}{c:aK}(a:At M L c){n s:Nat}(I:Inv n s c)(hs:s<=76)(hn:n<=199)
include a I hn
theorem ahi:Sp M L (iy M [ob L.c]) (cY c .owner):=by
 obtain⟨M',h1,h2⟩:=Lg a (fun o ho=>(I.own o ho).2) (by have:=I.ownL;omega)
 exact⟨M',L.bs,h1,h2⟩
theorem aev(x:Int):Sp M L (gH M [ob L.c,.int x]) (cY c (.ground x)):=by
 have hc:=a.hc
 obtain⟨n,m,hg⟩:=a.hg
 have hl:=I.al
 have h1:=V8 a I.gr (by omega) x
 simp only[cY]
 by_cases h:0<=x/\x<=9
 ·rw[if_pos h]at h1 ⊢
  obtain⟨M',h1,h2⟩:=h1
  exact⟨M',L.bs,by simp[gH,lK,hc,aO,hg,dh,lg,h1],h2⟩
 ·rw[if_neg h]at h1 ⊢
  show _=_
  simp[gH,lK,hc,aO,hg,dh,lg,h1]
include hs
omit hn
theorem YL(o x:Int)(e:List Int)(he:e.length=6)(hv:Vg c x):gG M [ob L.c,.int o,aM e,.int x]=match vW o e (bH (cJ c 0 x)) (roomOf c x) with
  |[]=>.ok .none
  |r::_=>.exc (GP o e r):=by
 have h1:=I.hL
 have h76:=I.few (R:=cJ c 0 x) fun r hr=>oO hr
 have:=Wv a I.gr (by omega) (by omega) o x e he hv (by rw[iU a];omega) (by rw[iU a];exact I.Le)
 rw[iU a]at this
 exact this
theorem agX(o g:Int)(m:List Int)(hm:m.length<=1000):Sp M L (dR M [ob L.c,.int o,.int g,aM m]) (cY c (.enrol o g m)):=by
 have hc:=a.hc
 have hr:=a.hr
 obtain⟨n1,m1,hg⟩:=a.hg
 have hL:=I.hL
 have h1:=lC a o
 have h2:=v9 a g
 have h3:=Nf M m hm
 have h4:=Hz a (by omega) o g
 simp only[cY,sG,wW,KQ,xH]
 by_cases e1:o∈c.own
 rotate_left
 ·rw[if_neg e1]at h1 ⊢
  show _=_
  simp[dR,fW,hc,aO,aC,h1]
 rw[if_pos e1]at h1 ⊢
 by_cases e2:Vg c g
 rotate_left
 ·rw[if_neg e2]at h2 ⊢
  show _=_
  simp[dR,fW,hc,aO,aC,h1,hg,dh,aF,h2]
 rw[if_pos e2]at h2 ⊢
 by_cases e3:cZ m=true
 rotate_left
 ·rw[if_neg e3]at h3 ⊢
  show _=_
  simp[dR,fW,hc,aO,aC,h1,hg,dh,aF,h2,h3]
 rw[if_pos e3]at h3 ⊢
 have h5:cC (.tuple (m.map PyData.int)) (.tuple [.int 0,.int 0,.int 0,.int 0,.int 0,.int 0])=_:=ahv m [0,0,0,0,0,0]
 by_cases e4:m=[0,0,0,0,0,0]
 ·rw[if_pos e4]
  rw[decide_eq_true e4]at h5
  show _=_
  simp[dR,fW,hc,aO,aC,h1,hg,dh,aF,h2,h3,jw]
  simp[h5]
 rw[if_neg e4]
 rw[decide_eq_false e4]at h5
 have h6:=ahp false m (bQ c o g)
 by_cases e5:m∈bQ c o g
 ·rw[if_pos e5]
  rw[decide_eq_true e5]at h6
  simp at h6
  show _=_
  simp[dR,fW,hc,aO,aC,h1,hg,dh,aF,h2,h3,jw,h5,hr,m9,cH,h4,h6]
 rw[if_neg e5]
 rw[decide_eq_false e5]at h6
 simp at h6
 have h7:=YL a I hs o g m (gR e3) e2
 cases e6:vW o m (bH (cJ c 0 g)) (roomOf c g) with
 |cons r rs=>
  rw[e6]at h7
  show _=_
  simp[dR,fW,hc,aO,aC,h1,hg,dh,aF,h2,h3,jw,h5,hr,m9,cH,h4,h6,bV,h7]
 |nil=>
  rw[e6]at h7
  have h8:=KH a (by omega) o g m
  rw[if_neg fun z=>e5 (Ds.mpr z)]at h8
  obtain⟨M',h8,h9⟩:=h8
  refine⟨M',L.bs,?_,h9⟩
  simp[dR,fW,hc,aO,aC,h1,hg,dh,aF,h2,h3,jw,h5,hr,m9,cH,h4,h6,bV,h7,ig,h8]
end
@[simp]theorem aqa (n:Nat) (b:dU):List.lookup ("owner" : Str) (iB n b).fs=some (.dat (.int b.sd.o)):=by simp[iB]
@[simp]theorem aqb (n:Nat) (b:dU):List.lookup ("ground" : Str) (iB n b).fs=some (.dat (.int b.sd.g)):=by simp[iB]
@[simp]theorem aqd (n:Nat) (b:dU):List.lookup ("due" : Str) (iB n b).fs=some (.dat (qG b.sd.due)):=by simp[iB]
@[simp]theorem aqc (n:Nat) (b:dU):List.lookup ("ear" : Str) (iB n b).fs=some (.dat (aM b.sd.ear)):=by simp[iB]
@[simp]theorem ap4 (n:Nat) (b:dU):List.lookup ("alive" : Str) (iB n b).fs=some (.dat (.bool b.sd.al)):=by simp[iB]
section
variable{M:Mo}{L:Lay}{c:aK}(a:At M L c){n s:Nat}(I:Inv n s c)(hs:s<=76)
include a I hs
theorem ahB(o g:Int):Sp M L (fQ M [ob L.c,.int o,.int g]) (cY c (.leave o g)):=by
 have hc:=a.hc
 have hr:=a.hr
 obtain⟨n1,m1,hg⟩:=a.hg
 obtain⟨n2,hh⟩:=a.hh
 have hL:=I.hL
 have h1:=lC a o
 have h2:=v9 a g
 have h3:=qU a (by omega) o g
 simp only[cY,sG,wW,nY]
 by_cases e1:o∈c.own
 rotate_left
 ·rw[if_neg e1]at h1 ⊢
  show _=_
  simp[fQ,jm,hc,aO,aC,h1]
 rw[if_pos e1]at h1 ⊢
 by_cases e2:Vg c g
 rotate_left
 ·rw[if_neg e2]at h2 ⊢
  show _=_
  simp[fQ,jm,hc,aO,aC,h1,hg,dh,aF,h2]
 rw[if_pos e2]at h2 ⊢
 by_cases e3:bQ c o g=[]
 ·rw[if_pos e3]at h3 ⊢
  show _=_
  simp[fQ,jm,hc,aO,aC,h1,hg,dh,aF,h2,aN,h3]
 rw[if_neg e3]at h3 ⊢
 have h4:pq M [ob L.h,.list [.int g]]=_:=RJ a (by omega) [g]
 have key:=fJ (tg:=bA [3,4]) (te:=aA cC (bL "owner" (ao 4)) (ao 1)) (M:=M) (ρ:=[some (.dat (ob L.c)),some (.dat (.int o)),some (.dat (.int g)),none,none]) nb (fun x=>.bool (x.2.2.sd.o==o)) ((bY L c).filter fun x=>decide (x.2.2.sd.g∈[g])&&x.2.2.sd.al) fun x hx=>⟨[some (.dat (ob L.c)),some (.dat (.int o)),some (.dat (.int g)),some (.dat (.int ((x.1:Int)+1))),some (.dat (ob x.2.1))],by simp[nb],by
  obtain⟨n,hb⟩:=a.hb' (aqC.mp hx).1
  simp[hb,iB]⟩
 have hl:((bY L c).filter fun x=>decide (x.2.2.sd.g∈[g])&&x.2.2.sd.al).length<=50000:=aqH (aqw _ _) (by rw[a.len'];omega)
 have h5:N5 (.list (((bY L c).filter fun x=>decide (x.2.2.sd.g∈[g])&&x.2.2.sd.al).map fun x=>PyData.bool (x.2.2.sd.o==o)))=.ok (.bool (c.bs.any (WD o g))):=by
  have e:(((bY L c).filter fun x=>decide (x.2.2.sd.g∈[g])&&x.2.2.sd.al).map fun x=>PyData.bool (x.2.2.sd.o==o))=(((bY L c).filter fun x=>decide (x.2.2.sd.g∈[g])&&x.2.2.sd.al).map fun x=>(x.2.2.sd.o==o)).map PyData.bool:=by rw[aqK];rfl
  rw[e,XM,arh,List.any_filter]
  have e2:=La a
  have e3:(bY L c).map (fun x=>x.2.2)=c.bs:=by
   have:(bY L c).map (fun x=>x.2.2)=((bY L c).map (fun x=>(x.1,x.2.2))).map (·.2):=by rw[aqK];rfl
   rw[this,e2]
   apply aqE
   intro i
   simp
   cases c.bs[i]? <;> rfl
  conv=>rhs;rw[←e3]
  rw[arh]
  rfl
 cases e4:c.bs.any (WD o g) with
 |true=>
  rw[e4]at h5
  show _=_
  simp[fQ,jm,hc,aO,aC,h1,hg,dh,aF,h2,aN,h3,hh,dH,ji]
  simp at h4 key h5 hl
  simp[h4,key,hl,h5]
 |false=>
  rw[e4]at h5
  have h6:=agd a (by omega) I.held o g
  rw[if_neg e3]at h6
  obtain⟨M',h6,h7⟩:=h6
  refine⟨M',L.bs,?_,h7⟩
  simp[fQ,jm,hc,aO,aC,h1,hg,dh,aF,h2,aN,h3,hh,dH,ji]
  simp at h4 key h5 hl
  simp[h4,key,hl,h5,hc,aO,hr,m9,yR,h6]
theorem agf(o g:Int)(m:List Int)(hm:m.length<=1000):Sp M L (fU M [ob L.c,.int o,.int g,aM m]) (cY c (.bring o g m)):=by
 have hc:=a.hc
 have hr:=a.hr
 obtain⟨n1,m1,hg⟩:=a.hg
 obtain⟨n2,hh⟩:=a.hh
 have hL:=I.hL
 have h1:=lC a o
 have h2:=v9 a g
 have h3:=Nf M m hm
 have h4:=qU a (by omega) o g
 simp only[cY,sG,wW,KQ,nY]
 by_cases e1:o∈c.own
 rotate_left
 ·rw[if_neg e1]at h1 ⊢
  show _=_
  simp[fU,jy,hc,aO,aC,h1]
 rw[if_pos e1]at h1 ⊢
 by_cases e2:Vg c g
 rotate_left
 ·rw[if_neg e2]at h2 ⊢
  show _=_
  simp[fU,jy,hc,aO,aC,h1,hg,dh,aF,h2]
 rw[if_pos e2]at h2 ⊢
 by_cases e3:cZ m=true
 rotate_left
 ·rw[if_neg e3]at h3 ⊢
  show _=_
  simp[fU,jy,hc,aO,aC,h1,hg,dh,aF,h2,h3]
 rw[if_pos e3]at h3 ⊢
 by_cases e4:bQ c o g=[]
 ·rw[if_pos e4]at h4 ⊢
  show _=_
  simp[fU,jy,hc,aO,aC,h1,hg,dh,aF,h2,h3,aN,h4]
 rw[if_neg e4]at h4 ⊢
 obtain⟨M',h,h5,h6⟩:=KJ a (by omega) (.brought o g m) (by omega)
 refine⟨M',L.bs++[h],?_,h6⟩
 simp[Fi.dat]at h5
 simp[fU,jy,hc,aO,aC,h1,hg,dh,aF,h2,h3,aN,h4,hh,dH,jE,h5]
theorem ahX(k:Int):Sp M L (iY M [ob L.c,.int k]) (cY c (.bear k)):=by
 have hc:=a.hc
 obtain⟨n2,hh⟩:=a.hh
 have hL:=I.hL
 have h1:=Lr a (by omega) k
 simp only[cY,markB,wD]
 cases hk:bk c k with
 |none=>
  rw[hk]at h1
  show _=_
  simp[iY,lZ,hc,aO,hh,dH,bh,h1]
 |some b=>
  rw[hk]at h1
  obtain⟨_,_,_,_,n3,hb⟩:=qY a hk
  show Sp M L _ (if b.sd.al=true then _ else _)
  cases e1:b.sd.al with
  |false=>
   simp[e1]at h1
   show _=_
   simp[iY,lZ,hc,aO,hh,dH,bh,h1]
  |true=>
   simp[e1]at h1
   cases e2:b.sd.due with
   |none=>
    simp[e2]at h1
    show _=_
    simp[iY,lZ,hc,aO,hh,dH,bh,h1]
   |some e=>
    simp[e2]at h1
    simp only[if_true]
    obtain⟨M',h,h5,h6⟩:=KJ a (by omega) (.born k b.sd.o b.sd.g) (by omega)
    refine⟨M',L.bs++[h],?_,h6⟩
    simp[Fi.dat]at h5
    simp[iY,lZ,hc,aO,hh,dH,bh,h1,hb,iB,jE,h5]
theorem als(k:Int)(hn:n<=1000):Sp M L (lB M [ob L.c,.int k]) (cY c (.die k)):=by
 have hc:=a.hc
 obtain⟨n2,hh⟩:=a.hh
 have hL:=I.hL
 have h1:=Dj a (by omega) k
 simp only[cY,wD]
 cases hk:bk c k with
 |none=>
  rw[hk]at h1
  show _=_
  simp[lB,qR,hc,aO,hh,dH,bF,h1]
 |some b=>
  rw[hk]at h1
  obtain⟨_,_,h3,h4,n3,hb⟩:=qY a hk
  show Sp M L _ (if b.sd.al=true then _ else _)
  cases e1:b.sd.al with
  |false=>
   simp[e1]at h1
   show _=_
   simp[lB,qR,hc,aO,hh,dH,bF,h1]
  |true=>
   simp[e1]at h1
   have mem:=aqn h4
   simp only[if_true]
   have h5:=rZ hb .died (by rw[gR (I.ear b mem)];decide) (by have:=I.en b mem;omega)
   refine⟨_,L.bs,?_,yI (n:=n3) (e:=.died) a h3 h4⟩
   simp[En.dat]at h5
   simp[lB,qR,hc,aO,hh,dH,bF,h1,hb,bM,h5,pP]
theorem aiD(k p:Int)(hn:n<=1000):Sp M L (fD M [ob L.c,.int k,.int p]) (cY c (.tear k p)):=by
 have hc:=a.hc
 obtain⟨n2,hh⟩:=a.hh
 have hL:=I.hL
 have h1:=Dj a (by omega) k
 simp only[cY,wD]
 cases hk:bk c k with
 |none=>
  rw[hk]at h1
  show _=_
  simp[fD,jc,hc,aO,hh,dH,bF,h1]
 |some b=>
  rw[hk]at h1
  obtain⟨_,_,h3,h4,n3,hb⟩:=qY a hk
  show Sp M L _ (if b.sd.al=true then _ else _)
  cases e1:b.sd.al with
  |false=>
   simp[e1]at h1
   show _=_
   simp[fD,jc,hc,aO,hh,dH,bF,h1]
  |true=>
   simp[e1]at h1
   have mem:=aqn h4
   have h6:=gR (I.ear b mem)
   simp only[if_true]
   by_cases e2:0<=p/\p < 6
   ·rw[if_pos e2]
    obtain⟨q,rfl⟩:∃q:Nat,p=q:=⟨p.toNat,by omega⟩
    have hq:q < 6:=by omega
    have hq2:q < b.sd.ear.length:=by omega
    have hq3:(q:Int) < 6:=by omega
    have h7:b.sd.ear[q]?.getD 0=b.sd.ear[q]:=by simp[hq2]
    simp only[Int.toNat_natCast,List.getD_eq_getElem?_getD,h7]
    have h5:=rZ hb (.torn q) (by omega) (by have:=I.en b mem;omega)
    by_cases e3:9<=b.sd.ear[q]
    ·rw[if_pos e3]
     show _=_
     simp[fD,jc,hc,aO,hh,dH,bF,h1,hb,iB,iQ,hq3,cQ,hq2,e3]
    ·rw[if_neg e3]
     refine⟨_,L.bs,?_,yI (n:=n3) (e:=.torn q) a h3 h4⟩
     simp[En.dat]at h5
     have hl:∀i,(M.set (Pr.hk L k) i)[Pr.hk L k]?=some i:=fun i=>by rw[bG hb,if_pos rfl]
     simp[fD,jc,hc,aO,hh,dH,bF,h1,hb,iQ,hq3,cQ,bM,h5,hl,hq2,e3,pP,go]
   ·rw[if_neg e2]
    show _=_
    by_cases e3:0<=p
    ·have e4:¬p < 6:=fun z=>e2 ⟨e3,z⟩
     simp[fD,jc,hc,aO,hh,dH,bF,h1,iQ,e3,e4]
    ·simp[fD,jc,hc,aO,hh,dH,bF,h1,iQ,e3]
end
theorem Inv.alive{n s:Nat}{c:aK}(I:Inv n s c){b:dU}(h:b∈c.bs)(h2:b.sd.al=true):bQ c b.sd.o b.sd.g≠[]/\Vg c b.sd.g/\b.sd.o∈c.own:=by
 obtain⟨m,hm⟩:=I.rt b h h2
 exact⟨yS.mpr ⟨m,hm⟩,(I.hE _ hm).2.1,(I.hE _ hm).1⟩
section
variable{M:Mo}{L:Lay}{c:aK}(a:At M L c){n s:Nat}(I:Inv n s c)(hs:s<=76)(hn:n<=1000)
include a I hs hn
theorem alh(k:Int):Sp M L (jF M [ob L.c,.int k]) (cY c (.cut k)):=by
 have hc:=a.hc
 obtain⟨n2,hh⟩:=a.hh
 have hL:=I.hL
 have h1:=Dj a (by omega) k
 simp only[cY,wD,xH]
 cases hk:bk c k with
 |none=>
  rw[hk]at h1
  show _=_
  simp[jF,nM,hc,aO,hh,dH,bF,h1]
 |some b=>
  rw[hk]at h1
  obtain⟨_,_,h3,h4,n3,hb⟩:=qY a hk
  show Sp M L _ (if b.sd.al=true then _ else _)
  cases e1:b.sd.al with
  |false=>
   simp[e1]at h1
   show _=_
   simp[jF,nM,hc,aO,hh,dH,bF,h1]
  |true=>
   simp[e1]at h1
   simp only[if_true]
   have mem:=aqn h4
   obtain⟨q1,q2,q3⟩:=I.alive mem e1
   obtain⟨r,q4,q5⟩:=I.mk1 q1
   have h6:=gR (I.ear b mem)
   have h7:=Ag a (by omega) _ _ q4
   have h8:=Iv M b.sd.ear (firstM c b.sd.o b.sd.g) (by omega)
   have q6:=gR (CW (I.ear b mem) q5)
   generalize jP b.sd.ear (firstM c b.sd.o b.sd.g)=e at h8 q6 ⊢
   have h9:=YL a I hs b.sd.o b.sd.g e q6 q2
   cases e2:vW b.sd.o e (bH (cJ c 0 b.sd.g)) (roomOf c b.sd.g) with
   |cons r rs=>
    rw[e2]at h9
    show _=_
    simp[jF,nM,hc,aO,hh,dH,bF,h1,hb,iB,bU,h7,h8,bV,h9]
   |nil=>
    rw[e2]at h9
    have h5:=rZ hb (.cut e) (by omega) (by have:=I.en b mem;omega)
    refine⟨_,L.bs,?_,yI (n:=n3) (e:=.cut e) a h3 h4⟩
    simp[En.dat]at h5
    simp[jF,nM,hc,aO,hh,dH,bF,h1,hb,bU,bM,h5,bV,h7,h8,h9,pP]
theorem ahP(x:Int):Sp M L (jQ M [ob L.c,.int x]) (cY c (.part x)):=by
 have hc:=a.hc
 obtain⟨n1,m1,hg⟩:=a.hg
 have h1:=acF a I.gr x
 have e0:(aH c x).filter (fun y=>!(y==x))=lN c x:=rfl
 rw[e0]at h1
 simp only[cY,wW]
 by_cases e1:Vg c x
 ·rw[if_pos e1]at h1 ⊢
  by_cases e2:lN c x=[]
  ·rw[if_pos e2]at h1 ⊢
   show _=_
   simp[jQ,pF,hc,aO,hg,dh,oJ,h1]
  ·rw[if_neg e2]at h1 ⊢
   obtain⟨M',h1,h2⟩:=h1
   refine⟨M',L.bs,?_,h2⟩
   simp[jQ,pF,hc,aO,hg,dh,oJ,h1]
 ·rw[if_neg e1]at h1 ⊢
  show _=_
  simp[jQ,pF,hc,aO,hg,dh,oJ,h1]
theorem aai(x y:Int)(hx:Vg c x)(hy:Vg c y):kE M [ob L.c,.int x,.int y]=.ok (.list ((gJ (bH (wI c x y)) (lu c x y)).map pairD)):=by
 have h1:=I.hL
 have f1:=I.few (R:=cJ c 0 x) fun r hr=>oO hr
 have f2:=I.few (R:=cJ c 0 y) fun r hr=>oO hr
 have f3:=I.few (R:=wI c x y) fun r hr=>by
  rcases aqp.mp hr with h|h
  ·exact oO (dB.mp h)
  ·exact oO (dB.mp h)
 have e:Ht L c x y=wI c x y:=by unfold Ht wI;rw[iU a,iU a]
 have:=Z4 a I.gr (by omega) (by omega) x y hx hy (by rw[iU a];omega) (by rw[iU a];omega) (by rw[e];omega) (by rw[iU a];exact I.Le) (by rw[iU a];exact I.Le)
 rw[e]at this
 exact this
theorem afY(x y:Int):Sp M L (fX M [ob L.c,.int x,.int y]) (cY c (.wA x y)):=by
 have hc:=a.hc
 obtain⟨n1,m1,hg⟩:=a.hg
 have h1:=v9 a y
 have h2:=Aq a I.gr x
 simp only[cY,wW]
 by_cases e1:Vg c y
 rotate_left
 ·rw[if_neg e1]at h1 ⊢
  show _=_
  simp[fX,jA,hc,aO,hg,dh,aF,h1]
 rw[if_pos e1]at h1 ⊢
 by_cases e2:Vg c x
 rotate_left
 ·rw[if_neg e2]at h2 ⊢
  show _=_
  simp[fX,jA,hc,aO,hg,dh,aF,h1,bT,h2]
 rw[if_pos e2]at h2 ⊢
 have h3:=Ge false y (aH c x)
 have h4:=abr a I.gr x y e2 e1
 by_cases e3:y∈aH c x
 ·rw[if_pos e3]
  rw[decide_eq_true e3]at h3
  show _=_
  simp[fX,jA,hc,aO,hg,dh,aF,h1,bT,h2,h3]
 rw[if_neg e3]at h4 ⊢
 rw[decide_eq_false e3]at h3
 have h5:=aai a I hs hn x y e2 e1
 have h6:∀p∈gJ (bH (wI c x y)) (lu c x y),p.1.2.length=6:=fun p hp=>by
  unfold gJ at hp
  obtain⟨q,hq,hp⟩:=List.mem_flatMap.mp hp
  obtain⟨r,_,rfl⟩:=aqt.mp hp
  obtain⟨i,hi,rfl⟩:=List.mem_mapIdx.mp hq
  have hm:=dB.mp (aqQ hi)
  rcases aqp.mp hm with h|h
  ·exact I.Le _ (dB.mp h)
  ·exact I.Le _ (dB.mp h)
 cases e4:gJ (bH (wI c x y)) (lu c x y) with
 |cons p ps=>
  rw[e4]at h5 h6
  have h7:=Iv M p.1.2 p.2.2 (by have:=h6 p aql;omega)
  show _=_
  simp[fX,jA,hc,aO,hg,dh,aF,h1,bT,h2,h3,fP,h5]
  simp[pairD,Ear.rD,Ear.dT,h7,GP]
 |nil=>
  rw[e4]at h5
  obtain⟨M',h4,h7⟩:=h4
  refine⟨M',L.bs,?_,h7⟩
  simp[fX,jA,hc,aO,hg,dh,aF,h1,bT,h2,h3,fP,h5,vD,h4]
theorem aiL(e g x:Int):Sp M L (cR M [ob L.c,.int e,.int g,.int x]) (cY c (.heir e g x)):=by
 have hc:=a.hc
 have hr:=a.hr
 obtain⟨n1,m1,hg⟩:=a.hg
 have hL:=I.hL
 have h1:=lC a e
 have h2:=v9 a g
 have h3:=qU a (by omega) e g
 simp only[cY,sG,wW,nY]
 by_cases e1:e∈c.own
 rotate_left
 ·rw[if_neg e1]at h1 ⊢
  show _=_
  simp[cR,dW,hc,aO,aC,h1]
 rw[if_pos e1]at h1 ⊢
 by_cases e2:Vg c g
 rotate_left
 ·rw[if_neg e2]at h2 ⊢
  show _=_
  simp[cR,dW,hc,aO,aC,h1,hg,dh,aF,h2]
 rw[if_pos e2]at h2 ⊢
 by_cases e3:1<=x/\x<=3
 rotate_left
 ·rw[if_neg e3]
  show _=_
  by_cases e4:1<=x
  ·have e5:¬x<=3:=fun z=>e3 ⟨e4,z⟩
   simp[cR,dW,hc,aO,aC,h1,hg,dh,aF,h2,iV,j8,e4,e5]
  ·simp[cR,dW,hc,aO,aC,h1,hg,dh,aF,h2,iV,j8,e4]
 rw[if_pos e3]
 obtain⟨e4,e5⟩:=e3
 by_cases e6:bQ c e g=[]
 ·rw[if_pos e6]at h3 ⊢
  show _=_
  simp[cR,dW,hc,aO,aC,h1,hg,dh,aF,h2,iV,j8,e4,e5,aN,h3]
 rw[if_neg e6]at h3 ⊢
 obtain⟨r,q4,q5⟩:=I.mk1 e6
 have h7:=Ag a (by omega) _ _ q4
 have f1:=I.few (R:=cJ c 0 g) fun r hr=>oO hr
 have h8:=uU a I.gr (by omega) (by omega) g (by rw[iU a];omega)
 rw[if_pos e2,iU a]at h8
 have h9:=zL a I.gr g
 rw[if_pos e2]at h9
 have h10:=Wd M (firstM c e g) x (bH (cJ c 0 g)) (roomOf c g) q5 ⟨by omega,e5⟩ (v7 I.Le) (by rw[tG];omega)
 cases e7:(Ot (firstM c e g) x).find? (zu (bH (cJ c 0 g)) (roomOf c g)) with
 |none=>
  rw[e7]at h10
  show _=_
  simp[cR,dW,hc,aO,aC,h1,hg,dh,aF,h2,iV,j8,e4,e5,aN,h3,bU,h7,bO,h8,cA,h9,h10]
 |some mk=>
  rw[e7]at h10
  obtain⟨M1,k1,a1⟩:=Lg a (fun o ho=>(I.own o ho).2) (by have:=I.ownL;omega)
  have k2:=KH a1 (by show c.held.length<=50000;omega) (c.count+1) g mk
  rw[if_neg (fun z=>by
   have:=(I.own _ (I.hE _ z).1).2
   simp at this
   omega)]at k2
  obtain⟨M2,k2,a2⟩:=k2
  have hc1:=a1.hc
  have hr1:=a1.hr
  refine⟨M2,L.bs,?_,a2⟩
  simp[cR,dW,hc,aO,aC,h1,hg,dh,aF,h2,iV,j8,e4,e5,aN,h3,bU,h7,bO,h8,cA,h9,h10,gD,k1]
  simp[hc1,aO,hr1,m9,ig,k2]
end
section
variable{M:Mo}{L:Lay}{c:aK}(a:At M L c){n s:Nat}(I:Inv n s c)(hs:s<=76)(hn:n<=1000)
include a I hs hn
theorem ake(k o:Int):Sp M L (dI M [ob L.c,.int k,.int o]) (cY c (.sell k o)):=by
 have hc:=a.hc
 obtain⟨n2,hh⟩:=a.hh
 have hL:=I.hL
 have h1:=Lr a (by omega) k
 have h2:=lC a o
 simp only[cY,markB,wD,xH,sG,nY]
 cases hk:bk c k with
 |none=>
  rw[hk]at h1
  show _=_
  simp[dI,fG,hc,aO,hh,dH,bh,h1]
 |some b=>
  rw[hk]at h1
  obtain⟨k1,k2,h3,h4,n3,hb⟩:=qY a hk
  show Sp M L _ (if b.sd.al=true then _ else _)
  cases e1:b.sd.al with
  |false=>
   simp[e1]at h1
   show _=_
   simp[dI,fG,hc,aO,hh,dH,bh,h1]
  |true=>
   simp[e1]at h1
   simp only[if_true]
   cases e2:b.sd.due with
   |none=>
    simp[e2]at h1
    show _=_
    simp[dI,fG,hc,aO,hh,dH,bh,h1]
   |some e0=>
    simp[e2]at h1
    show Sp M L _ (if o∈c.own then _ else _)
    by_cases e3:o∈c.own
    rotate_left
    ·rw[if_neg e3]at h2 ⊢
     show _=_
     simp[dI,fG,hc,aO,hh,dH,bh,h1,aC,h2]
    rw[if_pos e3]at h2 ⊢
    by_cases e4:b.sd.o=o
    ·rw[if_pos e4]
     show _=_
     simp[dI,fG,hc,aO,hh,dH,bh,h1,aC,h2,hb,e4]
    rw[if_neg e4]
    have h5:=qU a (by omega) o b.sd.g
    by_cases e5:bQ c o b.sd.g=[]
    ·rw[if_pos e5]at h5 ⊢
     show _=_
     simp[dI,fG,hc,aO,hh,dH,bh,h1,aC,h2,hb,e4,aN,h5]
    rw[if_neg e5]at h5 ⊢
    have mem:=aqn h4
    obtain⟨q1,q2,q3⟩:=I.alive mem e1
    obtain⟨r,q4,q5⟩:=I.mk1 e5
    have h6:=gR (I.ear b mem)
    have h7:=Ag a (by omega) _ _ q4
    have h8:=Iv M b.sd.ear (firstM c o b.sd.g) (by omega)
    have q6:=gR (CW (I.ear b mem) q5)
    generalize jP b.sd.ear (firstM c o b.sd.g)=e at h8 q6 ⊢
    have f1:=I.few (R:=cJ c k b.sd.g) fun r hr=>oO hr
    have h9:=DG a I.gr (by omega) (by omega) k b.sd.g (by rw[iU a];omega)
    rw[if_pos q2,iU a]at h9
    have h10:=zL a I.gr b.sd.g
    rw[if_pos q2]at h10
    have h11:=M8 M o e (bH (cJ c k b.sd.g)) (roomOf c b.sd.g) q6 (v7 I.Le) (Y4 (by omega))
    cases e6:vW o e (bH (cJ c k b.sd.g)) (roomOf c b.sd.g) with
    |cons r rs=>
     rw[e6]at h11
     show _=_
     simp[dI,fG,hc,aO,hh,dH,bh,h1,aC,h2,hb,e4,aN,h5,bU,h7,h8,cX,h9,cA,h10,h11,GP]
    |nil=>
     rw[e6]at h11
     have h12:=rZ hb (.sold o e) (by omega) (by have:=I.en b mem;omega)
     have a1:=yI (n:=n3) (e:=.sold o e) a h3 h4
     have hk2:bk (fY c (k - 1).toNat (.sold o e)) k=some (pP b (.sold o e)):=by
      unfold bk
      rw[if_pos ⟨k1,by simpa [fY] using k2⟩,vO,if_pos rfl,h4]
      rfl
     obtain⟨M',h13,a2⟩:=Gf a1 (by simp[fY];omega) (I.bi.step _ _ q6) (by omega) k hk2
     have hc1:=a1.hc
     obtain⟨n4,hh1⟩:=a1.hh
     refine⟨M',L.bs,?_,a2⟩
     simp[En.dat]at h12
     simp only[pP]at h13 hc1 hh1
     simp[dI,fG,hc,aO,hh,dH,bh,h1,aC,h2,hb,e4,aN,h5,bU,h7,h8,cX,h9,cA,h10,h11,bM,h12]
     simp[hc1,aO,hh1,dH,iw,h13]
theorem ajo(k g:Int):Sp M L (dJ M [ob L.c,.int k,.int g]) (cY c (.move k g)):=by
 have hc:=a.hc
 obtain⟨n2,hh⟩:=a.hh
 obtain⟨n5,m5,hg⟩:=a.hg
 have hL:=I.hL
 have h1:=Lr a (by omega) k
 have h2:=v9 a g
 simp only[cY,markB,wD,xH,wW,nY]
 cases hk:bk c k with
 |none=>
  rw[hk]at h1
  show _=_
  simp[dJ,fH,hc,aO,hh,dH,bh,h1]
 |some b=>
  rw[hk]at h1
  obtain⟨k1,k2,h3,h4,n3,hb⟩:=qY a hk
  show Sp M L _ (if b.sd.al=true then _ else _)
  cases e1:b.sd.al with
  |false=>
   simp[e1]at h1
   show _=_
   simp[dJ,fH,hc,aO,hh,dH,bh,h1]
  |true=>
   simp[e1]at h1
   simp only[if_true]
   cases e2:b.sd.due with
   |none=>
    simp[e2]at h1
    show _=_
    simp[dJ,fH,hc,aO,hh,dH,bh,h1]
   |some e=>
    simp[e2]at h1
    show Sp M L _ (if Vg c g then _ else _)
    by_cases e3:Vg c g
    rotate_left
    ·rw[if_neg e3]at h2 ⊢
     show _=_
     simp[dJ,fH,hc,aO,hh,dH,bh,h1,hg,dh,aF,h2]
    rw[if_pos e3]at h2 ⊢
    by_cases e4:b.sd.g=g
    ·rw[if_pos e4]
     show _=_
     simp[dJ,fH,hc,aO,hh,dH,bh,h1,hg,dh,aF,h2,hb,e4]
    rw[if_neg e4]
    have h5:=qU a (by omega) b.sd.o g
    by_cases e5:bQ c b.sd.o g=[]
    ·rw[if_pos e5]at h5 ⊢
     show _=_
     simp[dJ,fH,hc,aO,hh,dH,bh,h1,hg,dh,aF,h2,hb,e4,aN,h5]
    rw[if_neg e5]at h5 ⊢
    have mem:=aqn h4
    have h6:=gR (I.ear b mem)
    have q6:=gR (I.due b mem e e2)
    have h11:=YL a I hs b.sd.o g e q6 e3
    cases e6:vW b.sd.o e (bH (cJ c 0 g)) (roomOf c g) with
    |cons r rs=>
     rw[e6]at h11
     show _=_
     simp[dJ,fH,hc,aO,hh,dH,bh,h1,hg,dh,aF,h2,hb,e4,aN,h5,e2,qG,bV,h11]
    |nil=>
     rw[e6]at h11
     have h12:=rZ hb (.moved g) (by omega) (by have:=I.en b mem;omega)
     have a1:=yI (n:=n3) (e:=.moved g) a h3 h4
     have hk2:bk (fY c (k - 1).toNat (.moved g)) k=some (pP b (.moved g)):=by
      unfold bk
      rw[if_pos ⟨k1,by simpa [fY] using k2⟩,vO,if_pos rfl,h4]
      rfl
     obtain⟨M',h13,a2⟩:=Gf a1 (by simp[fY];omega) (I.bi.step _ _ trivial) (by omega) k hk2
     have hc1:=a1.hc
     obtain⟨n4,hh1⟩:=a1.hh
     refine⟨M',L.bs,?_,a2⟩
     simp[En.dat]at h12
     simp only[pP]at h13 hc1 hh1
     simp[dJ,fH,hc,aO,hh,dH,bh,h1,hg,dh,aF,h2,hb,e4,aN,h5,e2,qG,bV,h11,bM,h12]
     simp[hc1,aO,hh1,dH,iw,h13]
theorem ajM(e h:Int):Sp M L (fM M [ob L.c,.int e,.int h]) (cY c (.pass e h)):=by
 have hc:=a.hc
 have hr:=a.hr
 have hL:=I.hL
 have h1:=lC a e
 have h2:=lC a h
 simp only[cY,sG]
 by_cases e1:e∈c.own
 rotate_left
 ·rw[if_neg e1]at h1 ⊢
  show _=_
  simp[fM,jC,hc,aO,aC,h1]
 rw[if_pos e1]at h1 ⊢
 by_cases e2:h∈c.own
 rotate_left
 ·rw[if_neg e2]at h2 ⊢
  show _=_
  simp[fM,jC,hc,aO,aC,h1,h2]
 rw[if_pos e2]at h2 ⊢
 by_cases e3:e=h
 ·rw[if_pos e3]
  show _=_
  simp[fM,jC,hc,aO,aC,h1,h2,e3]
 rw[if_neg e3]
 obtain⟨M1,h3,a1⟩:=Xv a (by omega) e h
 have hc1:=a1.hc
 obtain⟨n1,hh1⟩:=a1.hh
 have h4:=afj a1 (by show c.bs.length<=50000;omega) e
 have ehd:bY L { c with held:=handed c e h }=bY L c:=rfl
 rw[ehd]at h4
 generalize hX:((bY L c).filter fun x=>(x.2.2.sd.o==e)&&x.2.2.sd.al)=X at h4
 have hXl:X.length<=1000:=by
  rw[←hX]
  exact aqH (aqw _ _) (by rw[a.len'];omega)
 have bi1:JT (2 * n) { c with held:=handed c e h }:=⟨I.bi.ear,I.bi.en⟩
 obtain⟨ρ',M2,g1,g2,g3⟩:=Oj (tg:=bA [4,5]) (body:=rK) (fun ρ=>∃x y,ρ=[some (.dat (ob L.c)),some (.dat (.int e)),some (.dat (.int h)),some (.dat (.list (X.map nb))),x,y])
  (fun i c1=>JT (2 * n+i) c1/\c1.bs.length=c.bs.length) (.passed h) L 1000 X M1 { c with held:=handed c e h } [some (.dat (ob L.c)),some (.dat (.int e)),some (.dat (.int h)),some (.dat (.list (X.map nb))),none,none] 0 (by omega) a1 ⟨bi1,rfl⟩ ⟨none,none,rfl⟩ (fun M1 c1 ρ x i hi a1 p1 q1 hx=>by
   obtain⟨bi1,l1⟩:=p1
   obtain⟨x0,y0,rfl⟩:=q1
   rw[←hX]at hx
   obtain⟨z1,z2⟩:=Dq (aqC.mp hx).1
   have hl:x.1 < c1.bs.length:=by rw[l1];exact(aqh.mp z2).1
   have z3:=aqi hl
   obtain⟨nx,hx1⟩:=a1.hb _ _ _ z1 z3
   have mem:=aqQ hl
   have hb:=rZ hx1 (.passed h) (by rw[bi1.ear _ mem];decide) (by have:=bi1.en _ mem;omega)
   refine⟨[some (.dat (ob L.c)),some (.dat (.int e)),some (.dat (.int h)),some (.dat (.list (X.map nb))),some (.dat (.int ((x.1:Int)+1))),some (.dat (ob x.2.1))],[some (.dat (ob L.c)),some (.dat (.int e)),some (.dat (.int h)),some (.dat (.list (X.map nb))),some (.dat (.int ((x.1:Int)+1))),some (.dat (ob x.2.1))],_,by simp[nb],?_,⟨_,_,rfl⟩,yI (n:=nx) a1 z1 z3,bi1.step _ _ trivial,by simp[fY,l1]⟩
   have hb:lY M1 [ob x.2.1,.tuple [.str "passed",.int h]]=_:=hb
   simp[rK,hx1,bM,hb,pP])
 obtain⟨x0,y0,rfl⟩:=g2
 have g4:uY X (.passed h) { c with held:=handed c e h }=nO (fun x=>(x.sd.o==e)&&x.sd.al) (.passed h) { c with held:=handed c e h }:=by
  rw[←hX]
  exact Vm a1 (fun x=>(x.sd.o==e)&&x.sd.al) (.passed h)
 rw[g4]at g3
 have hc2:=g3.hc
 have hl:∀i,(M2.set L.c i)[L.c]?=some i:=fun i=>by rw[bG hc2,if_pos rfl]
 have hk:=any_keys e c.own
 rw[decide_eq_true e1]at hk
 have hf:((c.own.map fun o=>(PyData.int o,PyData.bool true)).filter fun p=>!PyData.eqv p.1 (.int e))=(c.own.filter fun o=>!(o==e)).map fun o=>(PyData.int o,PyData.bool true):=by
  rw[List.filter_map]
  congr 1
 have a3:=g3.setC (n:=c.count) (own:=c.own.filter fun o=>!(o==e))
 refine⟨_,L.bs,?_,a3⟩
 have key:=fJ (tg:=bA [4,5]) (te:=aq 4) (M:=M2.set L.c (aO L { nO (fun x=>(x.sd.o==e)&&x.sd.al) (.passed h) { c with held:=handed c e h } with count:=c.count,own:=c.own.filter fun o=>!(o==e) })) (ρ:=[some (.dat (ob L.c)),some (.dat (.int e)),some (.dat (.int h)),some (.dat (.list (X.map nb))),none,none]) nb (fun x=>.int ((x.1:Int)+1)) X fun x _=>⟨[some (.dat (ob L.c)),some (.dat (.int e)),some (.dat (.int h)),some (.dat (.list (X.map nb))),some (.dat (.int ((x.1:Int)+1))),some (.dat (ob x.2.1))],by simp[nb],by simp⟩
 have eo:(Rj c e).map PyData.int=X.map fun x=>.int ((x.1:Int)+1):=by
  unfold Rj
  rw[←La a,List.filter_map,aqK,aqK,←hX]
  rfl
 have eo:lI (Rj c e)=.list (X.map fun x=>.int ((x.1:Int)+1)):=congrArg PyData.list eo
 have hX2:X.length<=50000:=by omega
 have f2:c.own.length<=100000:=by have:=I.ownL;omega
 rw[eo]
 simp[fM,jC,hc,aO,aC,h1,h2,e3,hr,m9,rH,h3]
 simp[hc1,aO,hh1,dH,Ao,h4,g1]
 simp only[nO]at hc2 key ⊢
 have hk':(c.own.any ((fun p=>PyData.eqv p.1 (.int e)) ∘ fun o=>(PyData.int o,PyData.bool true)))=true:=by
  rw[←arh]
  exact hk
 simp[hc2,aO,f2]
 rw[hk',hf]
 simp only[aO]at key
 simp[key,hX2]
end
theorem cV.same{c c':aK}(i:cV c)(h1:c'.al=c.al)(h2:c'.ci=c.ci):cV c':=by
 cases c
 cases c'
 simp at h1 h2
 subst h1 h2
 exact⟨i.len,i.few,i.al,i.mem,i.own,i.up,i.one⟩
theorem cV.lt{c:aK}(i:cV c){k:Nat}{l:List Int}(h:c.ci[k]?=some l):k < c.al.length:=by
 rw[←i.len]
 exact(aqh.mp h).1
theorem cV.add{c:aK}(i:cV c)(hf:c.al.length < 200){x:Int}(hx:0<=x/\x<=9):cV { c with al:=c.al++[x],ci:=c.ci++[[(c.al.length:Int)+1]] }:=by
 have key:∀(k:Nat) (l:List Int),(c.ci++[[(c.al.length:Int)+1]])[k]?=some l->(c.ci[k]?=some l/\k < c.al.length)∨(k=c.al.length/\l=[(c.al.length:Int)+1]):=fun k l h=>by
  by_cases hk:k < c.ci.length
  ·rw[aqq hk]at h
   exact .inl ⟨h,i.lt h⟩
  ·rw[aqy (by omega)]at h
   have hk2:k - c.ci.length=0:=by
    have:=(aqh.mp h).1
    simp at this
    omega
   rw[hk2]at h
   simp at h
   exact .inr ⟨by have:=i.len;omega,h.symm⟩
 refine⟨by simp[i.len],by simp;omega,fun y hy=>?_,fun k l h y hy=>?_,fun k l h=>?_,fun k l h=>?_,fun k j l h hj=>?_⟩
 ·rcases aqp.mp hy with hy|hy
  ·exact i.al y hy
  ·rw[aqm.mp hy]
   exact hx
 ·show 1<=y/\y<=((c.al++[x]).length:Int)
  rw[aqS,List.length_singleton]
  rcases key k l h with⟨h,_⟩|⟨_,rfl⟩
  ·have:=i.mem k l h y hy
   omega
  ·rw[aqm.mp hy]
   omega
 ·rcases key k l h with⟨h,_⟩|⟨rfl,rfl⟩
  ·exact i.own k l h
  ·simp
 ·rcases key k l h with⟨h,_⟩|⟨rfl,rfl⟩
  ·exact i.up k l h
  ·simp
 ·show(c.ci++[[(c.al.length:Int)+1]])[j]?=some l
  rcases key k l h with⟨h,_⟩|⟨rfl,rfl⟩
  ·have h2:=i.one k j l h hj
   rw[aqq (aqh.mp h2).1]
   exact h2
  ·have:j=c.al.length:=by
    rw[aqm]at hj
    omega
   rw[this,←i.len]
   simp
theorem Y8(l:List Int):∀(s:List Int) (ci:List (List Int)) (k:Nat),(∀y∈s,1<=y)->(s.foldl (fun s y=>s.set (y - 1).toNat l) ci)[k]?=if ((k:Int)+1∈s)/\k < ci.length then some l else ci[k]?
 |[],ci,k,_=>by simp
 |y::s,ci,k,h=>by
  rw[aq8,Y8 l s _ k fun z hz=>h z (aqk _ hz),aqG]
  have hy:=h y aql
  by_cases h1:(k:Int)+1∈s/\k < ci.length
  ·rw[if_pos h1,if_pos ⟨aqk _ h1.1,h1.2⟩]
  ·rw[if_neg h1,aq4]
   by_cases h2:(y - 1).toNat=k
   ·rw[if_pos h2]
    have e:(k:Int)+1=y:=by omega
    by_cases h3:k < ci.length
    ·rw[if_pos (by omega),if_pos ⟨by rw[e];exact aql,h3⟩]
    ·rw[if_neg (by omega),if_neg (fun z=>h3 z.2),aqJ (by omega)]
   ·rw[if_neg h2,if_neg]
    rintro⟨z,h3⟩
    rcases aqv.mp z with z|z
    ·omega
    ·exact h1 ⟨z,h3⟩
theorem yF(ci:List (List Int))(l:List Int)(k:Nat)(h:∀y∈l,1<=y):(encl ci l)[k]?=if ((k:Int)+1∈l)/\k < ci.length then some l else ci[k]?:=Y8 l l ci k h
theorem cV.again{c:aK}(i:cV c){ci:List (List Int)}(hl:ci.length=c.ci.length)(P:List Int->Prop)
  (h1:∀(k:Nat) (l:List Int),ci[k]?=some l->(P l/\(k:Int)+1∈l)∨c.ci[k]?=some l)
  (h2:∀l,P l->l.Pairwise (· < ·)/\∀y∈l,Vg c y/\ci[(y - 1).toNat]?=some l)
  (h3:∀(k j:Nat) (l:List Int),ci[k]?=some l->c.ci[k]?=some l->c.ci[j]?=some l->(k:Int)+1∈l->¬P l->ci[j]?=some l):cV { c with ci:=ci }:=by
 refine⟨by show ci.length=_;rw[hl,i.len],i.few,i.al,fun k l h y hy=>?_,fun k l h=>?_,fun k l h=>?_,fun k j l h hj=>?_⟩
 ·rcases h1 k l h with⟨p,_⟩|h
  ·exact((h2 l p).2 y hy).1
  ·exact i.mem k l h y hy
 ·rcases h1 k l h with⟨_,p⟩|h
  ·exact p
  ·exact i.own k l h
 ·rcases h1 k l h with⟨p,_⟩|h
  ·exact(h2 l p).1
  ·exact i.up k l h
 ·show ci[j]?=some l
  have pj:P l->ci[j]?=some l:=fun p=>by
   have:=((h2 l p).2 _ hj).2
   rwa [show((j:Int)+1 - 1).toNat=j by omega]at this
  rcases h1 k l h with⟨p,_⟩|h'
  ·exact pj p
  ·by_cases p:P l
   ·exact pj p
   ·exact h3 k j l h h' (i.one k j l h' hj) (i.own k l h') p
theorem cV.at{c:aK}(i:cV c){x:Int}(h:Vg c x):c.ci[(x - 1).toNat]?=some (aH c x):=by
 obtain⟨k,hk,rfl⟩:=qP h
 have hk':k < c.ci.length:=by rw[i.len];exact hk
 simp[aH,hk']
theorem cV.self{c:aK}(i:cV c){x:Int}(h:Vg c x):x∈aH c x:=by
 have:=i.own _ _ (i.at h)
 rwa [show(((x - 1).toNat:Nat):Int)+1=x by omega]at this
theorem cV.eq{c:aK}(i:cV c){x y:Int}(h:Vg c x)(hy:y∈aH c x):aH c y=aH c x:=by
 have v:=i.mem _ _ (i.at h) y hy
 have:=i.one _ (y - 1).toNat _ (i.at h) (by rw[show(((y - 1).toNat:Nat):Int)+1=y by omega];exact hy)
 rw[i.at v]at this
 exact aqA this
theorem Dc{l:List Int}{i:Int}:i∈sortI l↔i∈l:=by
 unfold sortI
 rw[List.mem_mergeSort]
theorem aem{l:List Int}(h:l.Nodup):(sortI l).Pairwise (· < ·):=by
 unfold sortI
 have srt:=ard (le:=fun a b:Int=>decide (a<=b)) (fun a b c k1 k2=>by rw[decide_eq_true_eq]at *;omega) (fun a b=>by rw[arn,decide_eq_true_eq,decide_eq_true_eq];omega) l
 have nd:(l.mergeSort fun a b=>decide (a<=b)).Nodup:=(List.mergeSort_perm _ _).nodup_iff.mpr h
 refine List.Pairwise.imp₂ (fun a b h1 h2=>?_) srt nd
 rw[decide_eq_true_eq]at h1
 have:a≠b:=h2
 omega
theorem cV.wA{c:aK}(i:cV c){x y:Int}(hx:Vg c x)(hy:Vg c y)(hn:y∉aH c x):cV { c with ci:=encl c.ci (sortI (aH c x++aH c y)) }:=by
 generalize hS:sortI (aH c x++aH c y)=S
 have mem:∀z,z∈S↔z∈aH c x∨z∈aH c y:=fun z=>by rw[←hS,Dc,aqp]
 have vg:∀z∈S,Vg c z:=fun z hz=>by
  rcases(mem z).mp hz with h|h
  ·exact i.mem _ _ (i.at hx) z h
  ·exact i.mem _ _ (i.at hy) z h
 have up:S.Pairwise (· < ·):=by
  rw[←hS]
  refine aem ?_
  rw[aqZ]
  have nd:∀{l:List Int},l.Pairwise (· < ·)->l.Nodup:=fun h=>h.imp fun {a b} z e=>by omega
  refine⟨nd (i.up _ _ (i.at hx)),nd (i.up _ _ (i.at hy)),fun a ha b hb e=>?_⟩
  subst e
  have e1:=i.eq hx ha
  have e2:=i.eq hy hb
  rw[e1]at e2
  exact hn (e2 ▸ i.self hy)
 have get:=fun k=>yF c.ci S k fun z hz=>(vg z hz).1
 refine i.again (P:=fun l=>l=S) (by unfold encl;rw[vR]) (fun k l h=>?_) (fun l hl=>?_) (fun k j l h h' hj hk np=>?_)
 ·rw[get]at h
  split at h
  ·next z=>
   cases h
   exact .inl ⟨rfl,z.1⟩
  ·exact .inr h
 ·subst hl
  refine⟨up,fun z hz=>⟨vg z hz,?_⟩⟩
  have v:=vg z hz
  have e:(((z - 1).toNat:Nat):Int)+1=z:=by omega
  rw[get,e,if_pos ⟨hz,by rw[i.len];omega⟩]
 ·rw[get]
  by_cases z:(j:Int)+1∈S/\j < c.ci.length
  ·exfalso
   have v:=vg _ z.1
   have ej:aH c ((j:Int)+1)=l:=by
    have:=i.at v
    rw[show((j:Int)+1 - 1).toNat=j by omega,hj]at this
    exact(aqA this).symm
   have hk2:(k:Int)+1∈S:=by
    rw[mem]
    rcases(mem _).mp z.1 with q|q
    ·exact .inl (by rw[←i.eq hx q,ej];exact hk)
    ·exact .inr (by rw[←i.eq hy q,ej];exact hk)
   rw[get,if_pos ⟨hk2,(aqh.mp h').1⟩]at h
   exact np (aqA h).symm
  ·rw[if_neg z]
   exact hj
theorem cV.part{c:aK}(i:cV c){x:Int}(hx:Vg c x):cV { c with ci:=encl (encl c.ci [x]) (lN c x) }:=by
 have mem:∀z,z∈lN c x↔z∈aH c x/\z≠x:=fun z=>by
  unfold lN
  rw[aqC]
  simp
 have vg:∀z∈lN c x,Vg c z:=fun z hz=>i.mem _ _ (i.at hx) z ((mem z).mp hz).1
 have l1:(encl c.ci [x]).length=c.ci.length:=by unfold encl;rw[vR]
 have get:∀k:Nat,(encl (encl c.ci [x]) (lN c x))[k]?=if ((k:Int)+1∈lN c x)/\k < c.ci.length then some (lN c x) else if ((k:Int)+1=x)/\k < c.ci.length then some [x] else c.ci[k]?:=fun k=>by
  rw[yF _ _ _ fun z hz=>(vg z hz).1,l1,yF _ _ _ fun z hz=>by rw[aqm.mp hz];exact hx.1]
  simp only[aqm]
 refine i.again (P:=fun l=>l=lN c x/\l≠[]∨l=[x]) (by unfold encl;rw[vR,vR]) (fun k l h=>?_) (fun l hl=>?_) (fun k j l h h' hj hk np=>?_)
 ·rw[get]at h
  split at h
  ·next z=>
   cases h
   exact .inl ⟨.inl ⟨rfl,List.ne_nil_of_mem z.1⟩,z.1⟩
  ·split at h
   ·next z=>
    cases h
    exact .inl ⟨.inr rfl,by rw[z.1];simp⟩
   ·exact .inr h
 ·rcases hl with⟨rfl,_⟩|rfl
  ·refine⟨(i.up _ _ (i.at hx)).filter _,fun z hz=>⟨vg z hz,?_⟩⟩
   have v:=vg z hz
   have e:(((z - 1).toNat:Nat):Int)+1=z:=by omega
   rw[get,e,if_pos ⟨hz,by rw[i.len];omega⟩]
  ·refine⟨by simp,fun z hz=>?_⟩
   rw[aqm.mp hz]
   refine⟨hx,?_⟩
   have e:(((x - 1).toNat:Nat):Int)+1=x:=by omega
   rw[get,e,if_neg (fun z=>((mem x).mp z.1).2 rfl),if_pos ⟨rfl,by rw[i.len];omega⟩]
 ·have key:∀m:Nat,c.ci[m]?=some l->(m:Int)+1∈aH c x->l=aH c x:=fun m hm q=>by
   have v:=i.mem _ _ (i.at hx) _ q
   have:=i.at v
   rw[show((m:Int)+1 - 1).toNat=m by omega,hm,i.eq hx q]at this
   exact aqA this
  have out:(k:Int)+1∉aH c x:=fun q=>by
   rw[get]at h
   by_cases e:(k:Int)+1=x
   ·rw[if_neg (fun z=>((mem _).mp z.1).2 e),if_pos ⟨e,(aqh.mp h').1⟩]at h
    exact np (.inr (aqA h).symm)
   ·rw[if_pos ⟨(mem _).mpr ⟨q,e⟩,(aqh.mp h').1⟩]at h
    have e2:=(aqA h).symm
    exact np (.inl ⟨e2,fun z=>by rw[z]at hk;cases hk⟩)
  have outj:(j:Int)+1∉aH c x:=fun q=>out (key j hj q ▸ hk)
  have o1:¬((j:Int)+1∈lN c x/\j < c.ci.length):=fun z=>outj ((mem _).mp z.1).1
  have o2:¬((j:Int)+1=x/\j < c.ci.length):=fun z=>outj (by rw[z.1];exact i.self hx)
  rw[get,if_neg o1,if_neg o2]
  exact hj
def Good(held:List Row3)(s:Sd):Prop:=cZ s.ear=true/\(∀e,s.due=some e->cZ e=true)/\(s.al=true->∃m,(s.o,s.g,m)∈held)
structure Rg(m:Nat)(c:aK):Prop where
 g:∀b∈c.bs,Good c.held b.sd
 en:∀b∈c.bs,b.en.length<=m
theorem Inv.Vx{n s:Nat}{c:aK}(I:Inv n s c):Rg (2 * n) c:=⟨fun b hb=>⟨I.ear b hb,I.due b hb,I.rt b hb⟩,I.en⟩
theorem XF{c:aK}{i:Nat}{e:En}{b:dU}(h:b∈(fY c i e).bs):b∈c.bs∨∃b0,c.bs[i]?=some b0/\b=pP b0 e:=by
 obtain⟨j,hj⟩:=List.mem_iff_getElem?.mp h
 rw[vO]at hj
 split at hj
 ·next z=>
  subst z
  obtain⟨b0,h3,h4⟩:=aqR.mp hj
  exact .inr ⟨b0,h3,h4.symm⟩
 ·exact .inl (aqn hj)
theorem Rg.one{m:Nat}{c:aK}(B:Rg m c){i:Nat}{e:En}(h:∀b,c.bs[i]?=some b->Good c.held (go b.sd e)):Rg (m+1) (fY c i e):=by
 refine⟨fun b hb=>?_,fun b hb=>?_⟩
 ·rcases XF hb with h1|⟨b0,h1,rfl⟩
  ·exact B.g b h1
  ·exact h b0 h1
 ·rcases XF hb with h1|⟨b0,h1,rfl⟩
  ·have:=B.en b h1
   omega
  ·have:=B.en b0 (aqn h1)
   simp[pP]
   omega
theorem Rg.many{m:Nat}{c:aK}(B:Rg m c){p:dU->Bool}{e:En}(h:∀b∈c.bs,p b=true->Good c.held (go b.sd e)):Rg (m+1) (nO p e c):=by
 refine⟨fun b hb=>?_,fun b hb=>?_⟩
 ·obtain⟨b0,h1,rfl⟩:=aqt.mp hb
  cases hp:p b0 with
  |true=>
   rw[if_pos rfl]
   exact h b0 h1 hp
  |false=>
   rw[if_neg (by simp)]
   exact B.g b0 h1
 ·obtain⟨b0,h1,rfl⟩:=aqt.mp hb
  have:=B.en b0 h1
  cases hp:p b0 <;> simp[pP] <;> omega
theorem Good.mono{held held':List Row3}{s:Sd}(g:Good held s)(h:∀r∈held,r∈held'):Good held' s:=⟨g.1,g.2.1,fun z=>by
 obtain⟨m,hm⟩:=g.2.2 z
 exact⟨m,h _ hm⟩⟩
theorem Inv.of{n s n' s':Nat}{c c':aK}(I:Inv n s c)(hn:n<=n')(gr:cV c')(hal:c'.al.length<=n')(ec:c'.count=c.count)(eo:c'.own=c.own)(hd:c'.held.Nodup)(hL:c'.held.length+c'.bs.length<=s')(hE:∀r∈c'.held,r.1∈c'.own/\Vg c' r.2.1/\cZ r.2.2=true)(B:Rg (2 * n') c'):Inv n' s' c':=
 ⟨gr,hal,by have:=I.cnt;rw[ec];omega,by rw[ec,eo];exact I.own,by rw[eo];exact I.Om,by have:=I.ownL;rw[eo];omega,hd,hL,hE,fun b hb=>(B.g b hb).1,fun b hb=>(B.g b hb).2.1,B.en,fun b hb=>(B.g b hb).2.2⟩
theorem aby{x:List Int}{p:Nat}(h:cZ x=true)(h9:¬9<=x.getD p 0):cZ (wB x p)=true:=by
 unfold cZ at *
 simp only[aqg,decide_eq_true_eq,aqD]at *
 refine⟨by rw[abz];exact h.1,fun d hd=>?_⟩
 unfold wB at hd
 obtain⟨i,hi,rfl⟩:=List.mem_mapIdx.mp hd
 have:=h.2 _ (aqQ hi)
 split
 ·next e=>
  subst e
  have:x.getD i 0=x[i]:=by simp[hi]
  omega
 ·exact this
theorem Hf{r:Row3}:∀(l acc:List Row3),r∈l.foldl Eb acc↔r∈acc∨r∈l
 |[],acc=>by simp
 |x::l,acc=>by
  rw[aq8,Hf l]
  unfold Eb
  split
  ·next h=>
   constructor
   ·rintro(z|z)
    ·exact .inl z
    ·exact .inr (aqk _ z)
   ·rintro(z|z)
    ·exact .inl z
    ·rcases aqv.mp z with rfl|z
     ·exact .inl h
     ·exact .inr z
  ·simp[or_assoc]
theorem QS:∀(l acc:List Row3),acc.Nodup->(l.foldl Eb acc).Nodup
 |[],acc,h=>h
 |x::l,acc,h=>by
  rw[aq8]
  refine QS l _ ?_
  unfold Eb
  split
  ·exact h
  ·next z=>
   rw[aqZ]
   exact⟨h,by simp,fun a ha b hb e=>z (by rw[aqm.mp hb]at e;exact e ▸ ha)⟩
theorem Yc:∀(l acc:List Row3),(l.foldl Eb acc).length<=acc.length+l.length
 |[],acc=>by simp
 |x::l,acc=>by
  rw[aq8]
  refine aqH (Yc l _) ?_
  unfold Eb
  split <;> simp <;> omega
def cost:bK->Nat
 |.enrol ..=>1
 |.bring ..=>1
 |.bear ..=>1
 |.heir ..=>1
 |_=>0
theorem v8{o room:Int}{e:List Int}{R:List Rw}{x:Res}{d:Dat}{c':aK}(h:xH o e R room x=.ok d c'):x=.ok d c':=by
 unfold xH at h
 split at h
 ·exact h
 ·cases h
theorem kJ{c:aK}{o:Int}{x:Res}{d:Dat}{c':aK}(h:sG c o x=.ok d c'):o∈c.own/\x=.ok d c':=by
 unfold sG at h
 split at h
 ·next z=>exact⟨z,h⟩
 ·cases h
theorem lH{c:aK}{g:Int}{x:Res}{d:Dat}{c':aK}(h:wW c g x=.ok d c'):Vg c g/\x=.ok d c':=by
 unfold wW at h
 split at h
 ·next z=>exact⟨z,h⟩
 ·cases h
theorem Mv{e:List Int}{x:Res}{d:Dat}{c':aK}(h:KQ e x=.ok d c'):cZ e=true/\x=.ok d c':=by
 unfold KQ at h
 split at h
 ·next z=>exact⟨z,h⟩
 ·cases h
theorem lX{c:aK}{o g:Int}{x:Res}{d:Dat}{c':aK}(h:nY c o g x=.ok d c'):bQ c o g≠[]/\x=.ok d c':=by
 unfold nY at h
 split at h
 ·cases h
 ·next z=>exact⟨z,h⟩
theorem yL{c:aK}{k:Int}{f:dU->Res}{d:Dat}{c':aK}(h:wD c k f=.ok d c'):∃b,bk c k=some b/\b.sd.al=true/\f b=.ok d c':=by
 unfold wD at h
 split at h
 ·cases h
 ·next b hb=>
  split at h
  ·next z=>exact⟨b,hb,z,h⟩
  ·cases h
theorem yU{c:aK}{k:Int}{f:dU->List Int->Res}{d:Dat}{c':aK}(h:markB c k f=.ok d c'):∃b e,bk c k=some b/\b.sd.al=true/\b.sd.due=some e/\f b e=.ok d c':=by
 obtain⟨b,h1,h2,h3⟩:=yL h
 split at h3
 ·cases h3
 ·next e he=>exact⟨b,e,h1,h2,he,h3⟩
theorem jM{p:Prop}[Decidable p]{x:dN}{y:Res}{d:Dat}{c':aK}(h:(if p then .no x else y)=Res.ok d c'):¬p/\y=.ok d c':=by
 split at h
 ·cases h
 ·next z=>exact⟨z,h⟩
theorem BP{p:Prop}[Decidable p]{x:dN}{y:Res}{d:Dat}{c':aK}(h:(if p then y else .no x)=Res.ok d c'):p/\y=.ok d c':=by
 split at h
 ·next z=>exact⟨z,h⟩
 ·cases h
theorem lF{c:aK}{k:Int}{b:dU}(h:bk c k=some b):c.bs[(k - 1).toNat]?=some b/\1<=k/\k<=c.bs.length:=by
 unfold bk at h
 split at h
 ·next z=>exact⟨h,z⟩
 ·cases h
theorem Pn(c:aK)(k o g:Int):(vZ c k o g).bs.length=c.bs.length:=by simp[vZ,nO]
theorem Cm(c:aK)(i:Nat)(e:En):(fY c i e).bs.length=c.bs.length:=by simp[fY]
theorem aeX{n s:Nat}{c c':aK}{d:bK}{r:Dat}(I:Inv n s c)(hn:n<=199)(h:cY c d=.ok r c'):Inv (n+1) (s+cost d) c':=by
 have L0:=I.hL
 have A0:=I.al
 have C0:=I.cnt
 have O0:=I.ownL
 have up:Rg (2 * (n+1)) c:=⟨I.Vx.g,fun b hb=>by have:=I.en b hb;omega⟩
 cases d with
 |owner=>
  cases h
  refine⟨I.gr.same rfl rfl,by show c.al.length<=_;omega,⟨by show 0<=c.count+1;omega,by show c.count+1<=((n+1:Nat):Int);omega⟩,fun o ho=>?_,?_,by simp;omega,I.held,by simp[cost];omega,fun r hr=>?_,I.ear,I.due,up.en,I.rt⟩
  ·show 1<=o/\o<=c.count+1
   rcases aqp.mp ho with ho|ho
   ·have:=I.own o ho
    omega
   ·rw[aqm.mp ho]
    omega
  ·rw[aqZ]
   refine⟨I.Om,by simp,fun a ha b hb e=>?_⟩
   rw[aqm.mp hb]at e
   have:=I.own a ha
   omega
  ·obtain⟨h1,h2,h3⟩:=I.hE r hr
   exact⟨aqL _ h1,h2,h3⟩
 |ground x=>
  obtain⟨hx,h⟩:=BP h
  cases h
  refine I.of (by omega) (I.gr.add (by omega) hx) (by simp;omega) rfl rfl I.held (by simp[cost];omega) (fun r hr=>?_) ⟨up.g,up.en⟩
  obtain⟨h1,h2,h3⟩:=I.hE r hr
  refine⟨h1,?_,h3⟩
  show 1<=_/\_<=((c.al++[x]).length:Int)
  rw[aqS]
  have:=h2.2
  exact⟨h2.1,by omega⟩
 |enrol o g m=>
  obtain⟨h1,h⟩:=kJ h
  obtain⟨h2,h⟩:=lH h
  obtain⟨h3,h⟩:=Mv h
  obtain⟨h4,h⟩:=jM h
  obtain⟨h5,h⟩:=jM h
  have h:=v8 h
  cases h
  refine I.of (by omega) (I.gr.same rfl rfl) (by show c.al.length<=_;omega) rfl rfl ?_ (by simp[cost];omega) (fun r hr=>?_) ⟨fun b hb=>(up.g b hb).mono fun r hr=>aqL _ hr,up.en⟩
  ·rw[aqZ]
   refine⟨I.held,by simp,fun a ha b hb e=>?_⟩
   rw[aqm.mp hb]at e
   exact h5 (Ds.mpr (e ▸ ha))
  ·rcases aqp.mp hr with hr|hr
   ·exact I.hE r hr
   ·rw[aqm.mp hr]
    exact⟨h1,h2,h3⟩
 |leave o g=>
  obtain⟨h1,h⟩:=kJ h
  obtain⟨h2,h⟩:=lH h
  obtain⟨h3,h⟩:=lX h
  obtain⟨h4,h⟩:=jM h
  cases h
  have sub:∀r∈dropped c o g,r∈c.held:=fun r hr=>(aqC.mp hr).1
  have ln:(dropped c o g).length<=c.held.length:=aqw _ _
  refine I.of (by omega) (I.gr.same rfl rfl) (by show c.al.length<=_;omega) rfl rfl (I.held.filter _) (by simp[cost];omega) (fun r hr=>I.hE r (sub r hr)) ⟨fun b hb=>⟨(up.g b hb).1,(up.g b hb).2.1,fun hal=>?_⟩,up.en⟩
  obtain⟨m,hm⟩:=(up.g b hb).2.2 hal
  refine⟨m,aqC.mpr ⟨hm,?_⟩⟩
  simp only[aqz,Bool.and_eq_false_iff,beq_eq_false_iff_ne]
  by_cases e:b.sd.o=o/\b.sd.g=g
  ·exfalso
   refine h4 (List.any_eq_true.mpr ⟨b,hb,?_⟩)
   simp[WD,hal,e.1,e.2]
  ·by_cases e1:b.sd.o=o
   ·exact .inr fun z=>e ⟨e1,z⟩
   ·exact .inl e1
 |bring o g e=>
  obtain⟨h1,h⟩:=kJ h
  obtain⟨h2,h⟩:=lH h
  obtain⟨h3,h⟩:=Mv h
  obtain⟨h4,h⟩:=lX h
  cases h
  refine I.of (by omega) (I.gr.same rfl rfl) (by show c.al.length<=_;omega) rfl rfl I.held (by simp[cost];omega) I.hE ⟨fun b hb=>?_,fun b hb=>?_⟩
  ·rcases aqp.mp hb with hb|hb
   ·exact up.g b hb
   ·rw[aqm.mp hb]
    exact⟨h3,fun e z=>(by cases z),fun _=>yS.mp h4⟩
  ·rcases aqp.mp hb with hb|hb
   ·exact up.en b hb
   ·rw[aqm.mp hb]
    simp[Cj]
 |bear k=>
  obtain⟨b0,e0,h1,h2,h3,h⟩:=yU h
  cases h
  refine I.of (by omega) (I.gr.same rfl rfl) (by show c.al.length<=_;omega) rfl rfl I.held (by simp[cost];omega) I.hE ⟨fun b hb=>?_,fun b hb=>?_⟩
  ·rcases aqp.mp hb with hb|hb
   ·exact up.g b hb
   ·rw[aqm.mp hb]
    exact⟨(by decide:cZ [0,0,0,0,0,0]=true),fun e z=>(by cases z),fun _=>(up.g b0 (aqn (lF h1).1)).2.2 h2⟩
  ·rcases aqp.mp hb with hb|hb
   ·exact up.en b hb
   ·rw[aqm.mp hb]
    simp[Cj]
 |cut k=>
  obtain⟨b0,h1,h2,h⟩:=yL h
  have h:=v8 h
  cases h
  have hm:=aqn (lF h1).1
  obtain⟨r,q4,q5⟩:=I.mk1 (I.alive hm h2).1
  have je:=CW (I.ear b0 hm) q5
  generalize jP b0.sd.ear (firstM c b0.sd.o b0.sd.g)=e at je ⊢
  have B:=I.Vx.one (i:=(k - 1).toNat) (e:=.cut e) fun b hb=>by
   rw[(lF h1).1]at hb
   cases hb
   exact⟨je,fun e z=>(by cases z;exact je),fun _=>I.rt b0 hm h2⟩
  exact I.of (by omega) (I.gr.same rfl rfl) (by show c.al.length<=_;omega) rfl rfl I.held (by rw[Cm];simp[cost,fY];omega) I.hE ⟨B.g,fun b hb=>by have:=B.en b hb;omega⟩
 |tear k p=>
  obtain⟨b0,h1,h2,h⟩:=yL h
  obtain⟨h3,h⟩:=BP h
  obtain⟨h4,h⟩:=jM h
  cases h
  have hm:=aqn (lF h1).1
  have B:=I.Vx.one (i:=(k - 1).toNat) (e:=.torn p.toNat) fun b hb=>by
   rw[(lF h1).1]at hb
   cases hb
   exact⟨aby (I.ear b0 hm) h4,I.due b0 hm,I.rt b0 hm⟩
  exact I.of (by omega) (I.gr.same rfl rfl) (by show c.al.length<=_;omega) rfl rfl I.held (by rw[Cm];simp[cost,fY];omega) I.hE ⟨B.g,fun b hb=>by have:=B.en b hb;omega⟩
 |die k=>
  obtain⟨b0,h1,h2,h⟩:=yL h
  cases h
  have hm:=aqn (lF h1).1
  have B:=I.Vx.one (i:=(k - 1).toNat) (e:=.died) fun b hb=>by
   rw[(lF h1).1]at hb
   cases hb
   exact⟨I.ear b0 hm,I.due b0 hm,fun z=>by cases z⟩
  exact I.of (by omega) (I.gr.same rfl rfl) (by show c.al.length<=_;omega) rfl rfl I.held (by rw[Cm];simp[cost,fY];omega) I.hE ⟨B.g,fun b hb=>by have:=B.en b hb;omega⟩
 |sell k o=>
  obtain⟨b0,e0,h1,h2,h3,h⟩:=yU h
  obtain⟨h4,h⟩:=kJ h
  obtain⟨h5,h⟩:=jM h
  obtain⟨h6,h⟩:=lX h
  have h:=v8 h
  cases h
  have hm:=aqn (lF h1).1
  obtain⟨r,q4,q5⟩:=I.mk1 h6
  have je:=CW (I.ear b0 hm) q5
  generalize jP b0.sd.ear (firstM c o b0.sd.g)=e at je ⊢
  have B:=I.Vx.one (i:=(k - 1).toNat) (e:=.sold o e) fun b hb=>by
   rw[(lF h1).1]at hb
   cases hb
   exact⟨je,fun e z=>(by cases z;exact je),fun _=>yS.mp h6⟩
  have B2:=B.many (p:=fun x=>tX k x&&x.sd.al) (e:=.followed o b0.sd.g) fun b hb _=>⟨(B.g b hb).1,(B.g b hb).2.1,fun _=>yS.mp h6⟩
  exact I.of (by omega) (I.gr.same rfl rfl) (by show c.al.length<=_;omega) rfl rfl I.held (by rw[Pn,Cm];simp[cost,fY,vZ,nO];omega) I.hE ⟨B2.g,fun b hb=>by have:=B2.en b hb;omega⟩
 |move k g=>
  obtain⟨b0,e0,h1,h2,h3,h⟩:=yU h
  obtain⟨h4,h⟩:=lH h
  obtain⟨h5,h⟩:=jM h
  obtain⟨h6,h⟩:=lX h
  have h:=v8 h
  cases h
  have hm:=aqn (lF h1).1
  have B:=I.Vx.one (i:=(k - 1).toNat) (e:=.moved g) fun b hb=>by
   rw[(lF h1).1]at hb
   cases hb
   exact⟨I.ear b0 hm,I.due b0 hm,fun _=>yS.mp h6⟩
  have B2:=B.many (p:=fun x=>tX k x&&x.sd.al) (e:=.followed b0.sd.o g) fun b hb _=>⟨(B.g b hb).1,(B.g b hb).2.1,fun _=>yS.mp h6⟩
  exact I.of (by omega) (I.gr.same rfl rfl) (by show c.al.length<=_;omega) rfl rfl I.held (by rw[Pn,Cm];simp[cost,fY,vZ,nO];omega) I.hE ⟨B2.g,fun b hb=>by have:=B2.en b hb;omega⟩
 |wA x y=>
  obtain⟨h1,h⟩:=lH h
  obtain⟨h2,h⟩:=lH h
  obtain⟨h3,h⟩:=jM h
  split at h
  ·cases h
  ·cases h
   exact I.of (by omega) (I.gr.wA h2 h1 h3) (by show c.al.length<=_;omega) rfl rfl I.held (by show c.held.length+c.bs.length<=_;omega) I.hE ⟨up.g,up.en⟩
 |part x=>
  obtain⟨h1,h⟩:=lH h
  obtain⟨h3,h⟩:=jM h
  cases h
  exact I.of (by omega) (I.gr.part h1) (by show c.al.length<=_;omega) rfl rfl I.held (by show c.held.length+c.bs.length<=_;omega) I.hE ⟨up.g,up.en⟩
 |pass e h'=>
  obtain⟨h1,h⟩:=kJ h
  obtain⟨h2,h⟩:=kJ h
  obtain⟨h3,h⟩:=jM h
  cases h
  have hin:∀r∈c.held,za e h' r∈handed c e h':=fun r hr=>(Hf _ _).mpr (.inr (aqt.mpr ⟨r,hr,rfl⟩))
  have hout:∀r∈handed c e h',∃r0∈c.held,za e h' r0=r:=fun r hr=>by
   rcases(Hf _ _).mp hr with z|z
   ·cases z
   ·obtain⟨r0,z1,z2⟩:=aqt.mp z
    exact⟨r0,z1,z2⟩
  have hl:(handed c e h').length<=c.held.length:=by
   have:=Yc (c.held.map (za e h')) []
   simpa [handed] using this
  have ow:∀o,o∈c.own.filter (fun o=>!(o==e))↔o∈c.own/\o≠e:=fun o=>by
   rw[aqC]
   simp
  have g:∀b∈(nO (fun b=>(b.sd.o==e)&&b.sd.al) (.passed h') c).bs,Good (handed c e h') b.sd:=fun b hb=>by
   obtain⟨b0,hb0,rfl⟩:=aqt.mp hb
   have G:=up.g b0 hb0
   cases hp:((b0.sd.o==e)&&b0.sd.al) with
   |true=>
    simp only[hp,if_true]
    refine⟨G.1,G.2.1,fun hal=>?_⟩
    obtain⟨m,hm⟩:=G.2.2 hal
    have:=hin _ hm
    simp at hp
    rw[hp.1]at this
    exact⟨m,by simpa [za,pP,go] using this⟩
   |false=>
    simp only[hp]
    refine⟨G.1,G.2.1,fun hal=>?_⟩
    obtain⟨m,hm⟩:=G.2.2 hal
    have:=hin _ hm
    have hal:b0.sd.al=true:=hal
    rw[hal]at hp
    simp at hp
    exact⟨m,by simpa [za,hp] using this⟩
  have en:∀b∈(nO (fun b=>(b.sd.o==e)&&b.sd.al) (.passed h') c).bs,b.en.length<=2 * (n+1):=fun b hb=>by
   obtain⟨b0,hb0,rfl⟩:=aqt.mp hb
   have:=I.en b0 hb0
   dsimp only
   split
   ·simp[pP]
    omega
   ·omega
  refine⟨I.gr.same rfl rfl,by show c.al.length<=_;omega,⟨C0.1,by show c.count<=_;omega⟩,fun o ho=>I.own o ((ow o).mp ho).1,I.Om.filter _,?_,QS _ _ (by simp),?_,fun r hr=>?_,fun b hb=>(g b hb).1,fun b hb=>(g b hb).2.1,en,fun b hb=>(g b hb).2.2⟩
  ·show(c.own.filter _).length<=_
   have:=aqw (fun o=>!(o==e)) c.own
   omega
  ·show(handed c e h').length+(nO _ _ c).bs.length<=_
   simp[nO]
   omega
  ·obtain⟨r0,z1,rfl⟩:=hout r hr
   obtain⟨q1,q2,q3⟩:=I.hE r0 z1
   refine⟨(ow _).mpr ?_,q2,q3⟩
   unfold za
   by_cases z:r0.1=e
   ·simp only[z,if_true]
    exact⟨h2,fun q=>h3 q.symm⟩
   ·simp only[z,if_false]
    exact⟨q1,z⟩
 |heir e g x=>
  obtain⟨h1,h⟩:=kJ h
  obtain⟨h2,h⟩:=lH h
  obtain⟨h3,h⟩:=BP h
  obtain⟨h4,h⟩:=lX h
  split at h
  ·next mk hmk=>
   cases h
   obtain⟨r,q4,q5⟩:=I.mk1 h4
   have hme:cZ mk=true:=Vh q5 ⟨by omega,h3.2⟩ (aqC.mp (List.mem_of_find?_eq_some hmk)).1
   refine⟨I.gr.same rfl rfl,by show c.al.length<=_;omega,⟨by show 0<=c.count+1;omega,by show c.count+1<=((n+1:Nat):Int);omega⟩,fun o ho=>?_,?_,by simp;omega,?_,by simp[cost];omega,fun r hr=>?_,I.ear,I.due,up.en,fun b hb hal=>?_⟩
   ·show 1<=o/\o<=c.count+1
    rcases aqp.mp ho with ho|ho
    ·have:=I.own o ho
     omega
    ·rw[aqm.mp ho]
     omega
   ·rw[aqZ]
    refine⟨I.Om,by simp,fun a ha b hb e=>?_⟩
    rw[aqm.mp hb]at e
    have:=I.own a ha
    omega
   ·rw[aqZ]
    refine⟨I.held,by simp,fun a ha b hb e=>?_⟩
    rw[aqm.mp hb]at e
    have:=I.own _ (I.hE a ha).1
    rw[e]at this
    simp at this
    omega
   ·rcases aqp.mp hr with hr|hr
    ·obtain⟨z1,z2,z3⟩:=I.hE r hr
     exact⟨aqL _ z1,z2,z3⟩
    ·rw[aqm.mp hr]
     exact⟨aqY _ (by simp),h2,hme⟩
   ·obtain⟨m,hm⟩:=I.rt b hb hal
    exact⟨m,aqL _ hm⟩
  ·cases h
def nB(x:Int):Bool:=decide (0<=x)&&decide (x<=999999999)
def plB(x:Int):Bool:=decide (0<=x)&&decide (x<=5)
theorem mH(M:Mo)(x:Int):iG M [.str "number",.int x]=.ok (.bool (nB x)):=by
 by_cases h:0<=x <;> simp[iG,u6,oG,iQ,yM,Ax,h,nB]
theorem iK(M:Mo)(x:Int):iG M [.str "place",.int x]=.ok (.bool (plB x)):=by
 by_cases h:0<=x <;> simp[iG,u6,oG,iQ,yM,Ax,h,plB]
theorem acX(M:Mo)(x:List Int)(h:x.length<=1000):iG M [.str "ear",aM x]=.ok (.bool (cZ x)):=by
 have:=Vy M x h
 simp[iG,u6,yM,Ax,this]
def fO:bK->Bool
 |.owner=>true
 |.ground x=>nB x
 |.enrol o g m=>nB o&&nB g&&cZ m
 |.leave o g=>nB o&&nB g
 |.bring o g m=>nB o&&nB g&&cZ m
 |.bear k=>nB k
 |.cut k=>nB k
 |.tear k p=>nB k&&plB p
 |.sell k o=>nB k&&nB o
 |.move k g=>nB k&&nB g
 |.die k=>nB k
 |.wA x y=>nB x&&nB y
 |.part x=>nB x
 |.pass e h=>nB e&&nB h
 |.heir e g x=>nB e&&nB g&&nB x
def Ml:bK->Prop
 |.enrol _ _ m=>m.length<=1000
 |.bring _ _ m=>m.length<=1000
 |_=>True
theorem iT(M:Mo)(w:Str)(T:List (Str×Dat×Bool))(hk:(zj yP).lookup w=some (.tuple (T.map fun t=>.str t.1)))(hl:T.length<=10)(hp:∀t∈T,iG M [.str t.1,t.2.1]=.ok (.bool t.2.2)):Fy M [.tuple (.str w::T.map fun t=>t.2.1)]=.ok (.bool (T.all fun t=>t.2.2)):=by
 have hs:Rf.cutD (PyData.str w::T.map fun t=>t.2.1) (some 1) none=T.map fun t=>t.2.1:=O5 _ 1
 have hz:xq (T.map fun t=>PyData.str t.1) (T.map fun t=>t.2.1)=T.map fun t=>.tuple [.str t.1,t.2.1]:=by
  unfold xq
  rw[List.zipWith_map_left,List.zipWith_map_right,List.zipWith_self]
 have key:=fJ (tg:=bA [3,4]) (te:=aY iG (ak (aq 3) (ak (aq 4) au))) (M:=M) (ρ:=[some (.dat (.tuple (.str w::T.map fun t=>t.2.1))),some (.dat (.tuple (T.map fun t=>.str t.1))),some (.dat (.tuple (T.map fun t=>t.2.1))),none,none]) (fun(t:Str×Dat×Bool)=>PyData.tuple [.str t.1,t.2.1]) (fun t=>.bool t.2.2) T fun t ht=>⟨[some (.dat (.tuple (.str w::T.map fun t=>t.2.1))),some (.dat (.tuple (T.map fun t=>.str t.1))),some (.dat (.tuple (T.map fun t=>t.2.1))),some (.dat (.str t.1)),some (.dat t.2.1)],by simp,by simp[hp t ht]⟩
 have ha:N8 (.list (T.map fun t=>PyData.bool t.2.2))=.ok (.bool (T.all fun t=>t.2.2)):=by
  have e:(T.map fun t=>PyData.bool t.2.2)=(T.map fun t=>t.2.2).map PyData.bool:=by rw[aqK];rfl
  rw[e]
  show(match uG _ with
   |some bs=>Out.ok (PyData.bool (bs.all id))
   |none=>.bad)=_
  rw[Du]
  simp[List.all_map,aqB]
 have hl2:T.length<=50000:=by omega
 have hne:¬(T.length:Int)+1=0:=by omega
 simp[Fy,Xc,hk,hs,hz,key,hl2,ha,hne]
theorem agG(M:Mo)(d:bK)(hd:Ml d):Fy M [d.dat]=.ok (.bool (fO d)):=by
 cases d with
 |owner=>simpa [fO,bK.dat,Bool.and_assoc] using iT M "owner" [] (by rfl) (by simp) (by simp[mH,iK])
 |ground x=>simpa [fO,bK.dat,Bool.and_assoc] using iT M "ground" [("number",.int x,nB x)] (by rfl) (by simp) (by simp[mH,iK])
 |enrol o g m=>simpa [fO,bK.dat,Bool.and_assoc] using iT M "enrol" [("number",.int o,nB o),("number",.int g,nB g),("ear",aM m,cZ m)] (by rfl) (by simp) (by simp[mH,iK,acX M m hd])
 |leave o g=>simpa [fO,bK.dat,Bool.and_assoc] using iT M "leave" [("number",.int o,nB o),("number",.int g,nB g)] (by rfl) (by simp) (by simp[mH,iK])
 |bring o g m=>simpa [fO,bK.dat,Bool.and_assoc] using iT M "bring" [("number",.int o,nB o),("number",.int g,nB g),("ear",aM m,cZ m)] (by rfl) (by simp) (by simp[mH,iK,acX M m hd])
 |bear k=>simpa [fO,bK.dat,Bool.and_assoc] using iT M "bear" [("number",.int k,nB k)] (by rfl) (by simp) (by simp[mH,iK])
 |cut k=>simpa [fO,bK.dat,Bool.and_assoc] using iT M "cut" [("number",.int k,nB k)] (by rfl) (by simp) (by simp[mH,iK])
 |tear k p=>simpa [fO,bK.dat,Bool.and_assoc] using iT M "tear" [("number",.int k,nB k),("place",.int p,plB p)] (by rfl) (by simp) (by simp[mH,iK])
 |sell k o=>simpa [fO,bK.dat,Bool.and_assoc] using iT M "sell" [("number",.int k,nB k),("number",.int o,nB o)] (by rfl) (by simp) (by simp[mH,iK])
 |move k g=>simpa [fO,bK.dat,Bool.and_assoc] using iT M "move" [("number",.int k,nB k),("number",.int g,nB g)] (by rfl) (by simp) (by simp[mH,iK])
 |die k=>simpa [fO,bK.dat,Bool.and_assoc] using iT M "die" [("number",.int k,nB k)] (by rfl) (by simp) (by simp[mH,iK])
 |wA x y=>simpa [fO,bK.dat,Bool.and_assoc] using iT M "unite" [("number",.int x,nB x),("number",.int y,nB y)] (by rfl) (by simp) (by simp[mH,iK])
 |part x=>simpa [fO,bK.dat,Bool.and_assoc] using iT M "part" [("number",.int x,nB x)] (by rfl) (by simp) (by simp[mH,iK])
 |pass e h=>simpa [fO,bK.dat,Bool.and_assoc] using iT M "pass" [("number",.int e,nB e),("number",.int h,nB h)] (by rfl) (by simp) (by simp[mH,iK])
 |heir e g x=>simpa [fO,bK.dat,Bool.and_assoc] using iT M "heir" [("number",.int e,nB e),("number",.int g,nB g),("number",.int x,nB x)] (by rfl) (by simp) (by simp[mH,iK])
theorem jT{M:Mo}{L:Lay}{o o':aZ Dat}{r:Res}(h:Sp M L o r)(e:o'=o):Sp M L o' r:=e ▸ h
section
variable{M:Mo}{L:Lay}{c:aK}(a:At M L c){n s:Nat}(I:Inv n s c)(hs:s<=76)(hn:n<=199)
include a I hs hn
theorem alf(d:bK)(hd:Ml d)(hf:fO d=true):Sp M L (cP M [ob L.c,d.dat]) (cY c d):=by
 have hc:=a.hc
 have h0:=agG M d hd
 rw[hf]at h0
 cases d with
 |owner=>
  simp only[bK.dat]at h0 ⊢
  refine jT (ahi a I hn) ?_
  simp[cP,cU,h0,hc,aO,gD]
  cases iy M _ <;> rfl
 |ground x=>
  simp only[bK.dat]at h0 ⊢
  refine jT (aev a I hn x) ?_
  simp[cP,cU,h0,hc,aO,pN]
  cases gH M _ <;> rfl
 |enrol o g m=>
  simp only[bK.dat]at h0 ⊢
  refine jT (agX a I hs o g m hd) ?_
  simp[cP,cU,h0,hc,aO,vL]
  cases dR M _ <;> rfl
 |leave o g=>
  simp only[bK.dat]at h0 ⊢
  refine jT (ahB a I hs o g) ?_
  simp[cP,cU,h0,hc,aO,vU]
  cases fQ M _ <;> rfl
 |bring o g m=>
  simp only[bK.dat]at h0 ⊢
  refine jT (agf a I hs o g m hd) ?_
  simp[cP,cU,h0,hc,aO,vJ]
  cases fU M _ <;> rfl
 |bear k=>
  simp only[bK.dat]at h0 ⊢
  refine jT (ahX a I hs k) ?_
  simp[cP,cU,h0,hc,aO,xJ]
  cases iY M _ <;> rfl
 |cut k=>
  simp only[bK.dat]at h0 ⊢
  refine jT (alh a I hs (by omega) k) ?_
  simp[cP,cU,h0,hc,aO,yJ]
  cases jF M _ <;> rfl
 |tear k p=>
  simp only[bK.dat]at h0 ⊢
  refine jT (aiD a I hs k p (by omega)) ?_
  simp[cP,cU,h0,hc,aO,wz]
  cases fD M _ <;> rfl
 |sell k o=>
  simp only[bK.dat]at h0 ⊢
  refine jT (ake a I hs (by omega) k o) ?_
  simp[cP,cU,h0,hc,aO,wM]
  cases dI M _ <;> rfl
 |move k g=>
  simp only[bK.dat]at h0 ⊢
  refine jT (ajo a I hs (by omega) k g) ?_
  simp[cP,cU,h0,hc,aO,xg]
  cases dJ M _ <;> rfl
 |die k=>
  simp only[bK.dat]at h0 ⊢
  refine jT (als a I hs k (by omega)) ?_
  simp[cP,cU,h0,hc,aO,yG]
  cases lB M _ <;> rfl
 |wA x y=>
  simp only[bK.dat]at h0 ⊢
  refine jT (afY a I hs (by omega) x y) ?_
  simp[cP,cU,h0,hc,aO,vX]
  cases fX M _ <;> rfl
 |part x=>
  simp only[bK.dat]at h0 ⊢
  refine jT (ahP a I hs (by omega) x) ?_
  simp[cP,cU,h0,hc,aO,wY]
  cases jQ M _ <;> rfl
 |pass e h=>
  simp only[bK.dat]at h0 ⊢
  refine jT (ajM a I hs (by omega) e h) ?_
  simp[cP,cU,h0,hc,aO,sO]
  cases fM M _ <;> rfl
 |heir e g x=>
  simp only[bK.dat]at h0 ⊢
  refine jT (aiL a I hs (by omega) e g x) ?_
  simp[cP,cU,h0,hc,aO,rB]
  cases cR M _ <;> rfl
end
theorem aep{c:aK}{d:bK}{x:dN}(h:cY c d=.no x):uf.lookup x.cls=some true:=by
 cases d <;> simp only[cY,sG,wW,KQ,nY,xH,wD,markB,GP]at h <;> (repeat' split at h) <;> cases h <;> simp[uf]
def abf:bK->Nat
 |.owner=>1
 |.heir ..=>1
 |_=>0
def dGr:bK->Nat
 |.ground _=>1
 |_=>0
def dBs:bK->Nat
 |.bring ..=>1
 |.bear _=>1
 |_=>0
theorem Z0{c c':aK}{d:bK}{r:Dat}(h:cY c d=.ok r c'):c'.count=c.count+(abf d:Int)/\c'.al.length=c.al.length+dGr d/\c'.bs.length=c.bs.length+dBs d/\(lM .none r=true->abf d=0/\dGr d=0/\dBs d=0):=by
 cases d <;> simp only[cY,sG,wW,KQ,nY,xH,wD,markB]at h <;> (repeat' split at h) <;> cases h <;> simp[abf,dGr,dBs,lM,fY,vZ,nO,lI]
def rN(c:aK)(d:bK):aK:=match cY c d with
 |.ok _ c'=>c'
 |.no _=>c
def lQ(c:aK):Dat:=.tuple [.int c.count,.int c.al.length,.int c.bs.length]
section
variable{M:Mo}{L:Lay}{c:aK}(a:At M L c){n s:Nat}(I:Inv n s c)(hs:s<=76)(hn:n<=199)
include I hn
omit hn in
theorem Zj(d:bK)(hn:n<=199):Inv (n+1) (s+cost d) (rN c d):=by
 unfold rN
 cases h:cY c d with
 |ok r c'=>exact aeX I hn h
 |no x=>
  have h1:=I.hL
  have h2:=I.al
  exact I.of (by omega) I.gr (by show c.al.length<=_;omega) rfl rfl I.held (by show c.held.length+c.bs.length<=_;omega) I.hE ⟨I.Vx.g,fun b hb=>by have:=I.en b hb;omega⟩
include a hs
theorem agj(d:bK)(hd:Ml d)(hf:fO d=true):∃M' bs,qT M [ob L.c,d.dat,lQ c]=.ok (lQ (rN c d)) M'/\At M' { L with bs:=bs } (rN c d):=by
 have hc:=a.hc
 have h0:=alf a I hs hn d hd hf
 unfold rN
 cases e:cY c d with
 |no x=>
  rw[e]at h0
  have h0:_=_:=h0
  have h1:=aep e
  exact⟨M,L.bs,by simp[qT,JN,hc,aO,qQ,h0,h1,lM],a⟩
 |ok r c'=>
  rw[e]at h0
  obtain⟨M',bs,h0,h2⟩:=h0
  obtain⟨q1,q2,q3,q4⟩:=Z0 e
  refine⟨M',bs,?_,h2⟩
  have e1:(c'.al.length:Int)=c.al.length+(dGr d:Int):=by omega
  have e2:(c'.bs.length:Int)=c.bs.length+(dBs d:Int):=by omega
  cases hr:lM .none r with
  |true=>
   obtain⟨z1,z2,z3⟩:=q4 hr
   simp[z1,z2,z3]at q1 e1 e2
   simp[qT,JN,hc,aO,qQ,h0,hr,lQ,q1,e1,e2]
  |false=>
   clear q4 q2 q3 e hf hd
   cases d <;> simp[abf,dGr,dBs]at q1 e1 e2 <;> simp[qT,JN,hc,aO,qQ,h0,hr,lQ,q1,e1,e2] <;> simp[bK.dat]
end
def Lw(f:Int):Int:=if f=9 then -1 else if f=8 then 3 else if f=7 then 2 else if f=6 then 1 else if f=5 then 1 else 0
def Ma(d f:Int):Int:=Ny 0 (if d+Lw f < 9 then d+Lw f else 9)
def Qt(x f:List Int):List Int:=(x.zip f).map fun p=>Ma p.1 p.2
theorem acw(M:Mo)(x0 x1:Option Cell)(acc:List Dat)(d f:Int)(x5:Option Cell)(hf:0<=f/\f < 10)(hl:acc.length < 1000):∃x5',O2 M [x0,x1,some (.mut acc),some (.dat (.int d)),some (.dat (.int f)),x5]=.next [x0,x1,some (.mut (acc++[.int (Ma d f)])),some (.dat (.int d)),some (.dat (.int f)),x5'] M:=by
 have hl2:acc.length < 100000:=by omega
 have key:∀k:Nat,k < 10->([0,0,0,0,0,1,1,2,3,-1]:List Int)[k]?=some (Lw k):=by decide
 obtain⟨k,rfl⟩:∃k:Nat,f=k:=⟨f.toNat,by omega⟩
 have hk:=key k (by omega)
 have h2:atI (([0,0,0,0,0,1,1,2,3,-1]:List Int).map PyData.int) (k:Int)=some (.int (Lw k)):=atI_nat (by rw[aqs,hk];rfl)
 refine⟨some (.dat (.int (Lw k))),?_⟩
 have h3:bD (aG 5) (gOf (aA aV (bJ (ak (qC (.int 0)) (ak (qC (.int 0)) (ak (qC (.int 0)) (ak (qC (.int 0)) (ak (qC (.int 0)) (ak (qC (.int 1)) (ak (qC (.int 1)) (ak (qC (.int 2)) (ak (qC (.int 3)) (ak (eX O4 (qC (.int 1))) au))))))))))) (ao 4))) M [x0,x1,some (.mut acc),some (.dat (.int d)),some (.dat (.int k)),x5]=.next [x0,x1,some (.mut acc),some (.dat (.int d)),some (.dat (.int k)),some (.dat (.int (Lw k)))] M:=by
  show(((match atI (([0,0,0,0,0,1,1,2,3,-1]:List Int).map PyData.int) (k:Int) with
   |some d=>Out.ok d
   |none=>.bad).at M).then _ fun d M'=>_)=_
  rw[h2]
  rfl
 show aD _ _ _ _=_
 rw[ajq,h3]
 simp[hl2,Ma,Ny]
theorem Vd(M:Mo)(x0 x1:Option Cell):∀(ps:List (Int×Int)) (acc:List Dat) (x3 x4 x5:Option Cell),(∀p∈ps,0<=p.2/\p.2 < 10)->acc.length+ps.length<=500->∃x3' x4' x5',fB (bA [3,4]) O2 (ps.map pD) M [x0,x1,some (.mut acc),x3,x4,x5]=.next [x0,x1,some (.mut (acc++ps.map fun p=>.int (Ma p.1 p.2))),x3',x4',x5'] M
 |[],acc,x3,x4,x5,_,_=>⟨x3,x4,x5,by simp[fB]⟩
 |p::ps,acc,x3,x4,x5,h,hl=>by
  rw[aqu]at hl
  obtain⟨x5',e⟩:=acw M x0 x1 acc p.1 p.2 x5 (h p aql) (by omega)
  obtain⟨y3,y4,y5,ih⟩:=Vd M x0 x1 ps (acc++[.int (Ma p.1 p.2)]) (some (.dat (.int p.1))) (some (.dat (.int p.2))) x5' (fun q hq=>h q (aqk _ hq)) (by simp;omega)
  refine⟨y3,y4,y5,?_⟩
  rw[aqj,fK (ρ1:=[x0,x1,some (.mut acc),some (.dat (.int p.1)),some (.dat (.int p.2)),x5]) (by simp[pD]) e,ih]
  simp
theorem agm(M:Mo)(x f:List Int)(hx:x.length<=100)(hf:∀d∈f,0<=d/\d < 10):KD M [aM x,lI f]=.ok (aM (Qt x f)):=by
 obtain⟨y3,y4,y5,e⟩:=Vd M (some (.dat (aM x))) (some (.dat (lI f))) (x.zip f) [] none none none (fun p hp=>hf _ (List.of_mem_zip hp).2) (by simp;omega)
 simp[KD,Yr,Cu,e,Qt]
def Gn(f:List Int)(m:Int)(x:List Int):List Int:=if m < 4 then Qt x f else zf f m
theorem abV(M:Mo)(x f:List Int)(m:Int)(hx:x.length<=100)(hl:f.length<=1000)(hf:∀d∈f,0<=d/\d < 10):wg M [lI f,.int m,aM x]=.ok (aM (Gn f m x)):=by
 have h1:=agm M x f hx hf
 have h2:=Ux M f m hl
 unfold Gn
 by_cases h:m < 4 <;> simp[wg,Ln,h,h1,h2]
theorem aaz{x:List Int}(h:x.length=6)(h2:∀d∈x,0<=d/\d < 10):cZ x=true:=by
 unfold cZ
 simp only[aqg,decide_eq_true_eq,aqD]
 refine⟨h,fun d hd=>?_⟩
 have:=h2 d hd
 omega
theorem adP{x f:List Int}(hx:x.length=6)(hf:f.length=6):cZ (Qt x f)=true:=by
 refine aaz (by simp[Qt];omega) fun d hd=>?_
 obtain⟨p,hp,rfl⟩:=aqt.mp hd
 unfold Ma Ny
 split <;> split <;> omega
theorem aa5{f x:List Int}{m:Int}(hx:x.length=6)(hl:f.length=6)(hf:∀d∈f,0<=d/\d < 10):cZ (Gn f m x)=true:=by
 unfold Gn
 split
 ·exact adP hx hl
 ·refine aaz ?_ (aez hf)
  unfold zf
  split
  ·simpa using hl
  ·split
   ·simpa using hl
   ·exact hl
def j6(f many:Int)(sure:Bool):Int:=if sure then 1+f % (if many > 1 then many else 1) else f % (many+2)
theorem X6(M:Mo)(f many:Int)(sure:Bool)(hm:0<=many):jK M [.int f,.int many,.bool sure]=.ok (.int (j6 f many sure)):=by
 have h2:0 < many+2:=by omega
 have h3:0 < (if 1 < many then many else 1):=by split <;> omega
 cases sure
 ·simp[jK,WY,j6,h2]
 ·simp[jK,WY,j6,h3]
theorem Bt{f many:Int}{sure:Bool}(hf:0<=f/\f<=1000)(hm:0<=many):nB (j6 f many sure)=true:=by
 unfold j6 nB
 have key:∀m:Int,0 < m->0<=f % m/\f % m<=f:=fun m h=>⟨Int.emod_nonneg _ (by omega),by
  have h1:=Int.mul_ediv_add_emod f m
  have h2:=Int.mul_nonneg (by omega:0<=m) (Int.ediv_nonneg hf.1 (by omega:0<=m))
  omega⟩
 simp only[aqg,decide_eq_true_eq]
 cases sure
 ·have:=key (many+2) (by omega)
  simp
  omega
 ·have:=key (if many > 1 then many else 1) (by split <;> omega)
  simp only[if_true]
  omega
abbrev dd(M:Mo)(w:Str)(one two:Int)(p base:List Int)(n0 n1 n2:Int):Out Dat:=gq M [.str w,.int one,.int two,lI p,.tuple [.int n0,.int n1,.int n2],aM base]
def eE(p:List Int):Bool:=!(p.getD 6 0==9)
def HD(p base:List Int):List Int:=Gn (p.drop 8) (p.getD 7 0) base
def grT(f:Int):Int:=if f=9 then 8 else if f=8 then 7 else if f=7 then 6 else if f=6 then 5 else if f=5 then 1 else if f=4 then 0 else f
def EY(p base:List Int):List Int:=if p.getD 7 0 < 6 then[0,0,0,0,0,0] else HD p base
structure Pts(p base:List Int):Prop where
 len:p.length=14
 dig:∀d∈p,0<=d/\d < 10
 base:base.length=6
theorem ali{p:List Int}(h:p.length=14):∃a b c d e f g i j k l m n o:Int,p=[a,b,c,d,e,f,g,i,j,k,l,m,n,o]:=by
 match p,h with
 |[a,b,c,d,e,f,g,i,j,k,l,m,n,o],_=>exact⟨a,b,c,d,e,f,g,i,j,k,l,m,n,o,rfl⟩
theorem Pts.mark{p base:List Int}(P:Pts p base):cZ (HD p base)=true:=aa5 P.base (by rw[ari,P.len]) fun d hd=>P.dig d (List.mem_of_mem_drop hd)
theorem Pts.bring{p base:List Int}(P:Pts p base):cZ (EY p base)=true:=by
 unfold EY
 split
 ·decide
 ·exact P.mark
section
variable(M:Mo){p base:List Int}(P:Pts p base)(one two n0 n1 n2:Int)(h0:0<=n0)(h1:0<=n1)(h2:0<=n2)
include P h0 h1 h2
theorem ae8 :
  dd M "owner" one two p base n0 n1 n2=.ok (bK.dat (.owner))/\
  dd M "ground" one two p base n0 n1 n2=.ok (bK.dat (.ground (grT (p.getD 7 0)+4 * (if eE p then 0 else 1))))/\
  dd M "enrol" one two p base n0 n1 n2=.ok (bK.dat (.enrol (j6 one n0 (eE p)) (j6 two n1 (eE p)) (HD p base)))/\
  dd M "bring" one two p base n0 n1 n2=.ok (bK.dat (.bring (j6 one n0 (eE p)) (j6 two n1 (eE p)) (EY p base)))/\
  dd M "leave" one two p base n0 n1 n2=.ok (bK.dat (.leave (j6 one n0 (eE p)) (j6 two n1 (eE p))))/\
  dd M "heir" one two p base n0 n1 n2=.ok (bK.dat (.heir (j6 one n0 (eE p)) (j6 two n1 (eE p)) (p.getD 7 0 % 4)))/\
  dd M "pass" one two p base n0 n1 n2=.ok (bK.dat (.pass (j6 one n0 (eE p)) (j6 two n0 (eE p))))/\
  dd M "unite" one two p base n0 n1 n2=.ok (bK.dat (.wA (j6 one n1 (eE p)) (j6 two n1 (eE p))))/\
  dd M "part" one two p base n0 n1 n2=.ok (bK.dat (.part (j6 one n1 (eE p))))/\
  dd M "tear" one two p base n0 n1 n2=.ok (bK.dat (.tear (j6 one n2 (eE p)) (p.getD 7 0 % 6)))/\
  dd M "sell" one two p base n0 n1 n2=.ok (bK.dat (.sell (j6 one n2 (eE p)) (j6 two n0 (eE p))))/\
  dd M "move" one two p base n0 n1 n2=.ok (bK.dat (.move (j6 one n2 (eE p)) (j6 two n1 (eE p))))/\
  dd M "bear" one two p base n0 n1 n2=.ok (bK.dat (.bear (j6 one n2 (eE p))))/\
  dd M "cut" one two p base n0 n1 n2=.ok (bK.dat (.cut (j6 one n2 (eE p))))/\
  dd M "die" one two p base n0 n1 n2=.ok (bK.dat (.die (j6 one n2 (eE p)))):=by
 have hm:=abV M base (p.drop 8) (p.getD 7 0) (by rw[P.base];decide) (by rw[ari,P.len];decide) fun d hd=>P.dig d (List.mem_of_mem_drop hd)
 have hr0:=fun f=>X6 M f n0 (eE p) h0
 have hr1:=fun f=>X6 M f n1 (eE p) h1
 have hr2:=fun f=>X6 M f n2 (eE p) h2
 have hd:=P.dig
 have hbr:EY p base=if p.getD 7 0 < 6 then[0,0,0,0,0,0] else HD p base:=rfl
 have hmp:HD p base=Gn (p.drop 8) (p.getD 7 0) base:=rfl
 have hsb:eE p=!(p.getD 6 0==9):=rfl
 obtain⟨x0,x1,x2,x3,x4,x5,x6,x7,x8,x9,x10,x11,x12,x13,rfl⟩:=ali P.len
 generalize hp:[x0,x1,x2,x3,x4,x5,x6,x7,x8,x9,x10,x11,x12,x13]=p at *
 have h6:p.getD 6 0=x6:=by rw[←hp];rfl
 have h7:p.getD 7 0=x7:=by rw[←hp];rfl
 have h8:p.drop 8=[x8,x9,x10,x11,x12,x13]:=by rw[←hp];rfl
 have hx7:=hd x7 (by rw[←hp];simp)
 rw[h7,h8]at hm hmp
 rw[h7]at hbr
 rw[h6]at hsb
 simp only[h7]
 generalize eE p=su at *
 generalize HD p base=mk at *
 generalize EY p base=br at *
 have c1:Rf.cutD (p.map PyData.int) (some 8) (some 14)=[PyData.int x8,.int x9,.int x10,.int x11,.int x12,.int x13]:=by rw[←hp];rfl
 have c2:atI (p.map PyData.int) 7=some (.int x7):=by rw[←hp];rfl
 have c3:atI (p.map PyData.int) 6=some (.int x6):=by rw[←hp];rfl
 have hm:wg M [.list [PyData.int x8,.int x9,.int x10,.int x11,.int x12,.int x13],.int x7,aM base]=.ok (aM mk):=by rw[hmp];exact hm
 have key:∀k:Nat,k < 10->([0,1,2,3,0,1,5,6,7,8]:List Int)[k]?=some (grT k):=by decide
 have hk:atI (([0,1,2,3,0,1,5,6,7,8]:List Int).map PyData.int) x7=some (.int (grT x7)):=by
  obtain⟨k,rfl⟩:∃k:Nat,x7=k:=⟨x7.toNat,by omega⟩
  exact atI_nat (by rw[aqs,key k (by omega)];rfl)
 simp at hk
 have hm4:∀z,decide (CMul 4 z)=true:=fun z=>afO (by decide)
 clear hp hd P
 refine⟨?_,?_,?_,?_,?_,?_,?_,?_,?_,?_,?_,?_,?_,?_,?_⟩
 ·simp[dd,gq,jL,c1,c2,c3,hm,←hsb,hr0,hr1,hr2,bK.dat]
 ·cases su <;> simp[dd,gq,jL,c1,c2,c3,hm,←hsb,hk,hm4,Rf.intD,bK.dat]
 ·simp[dd,gq,jL,c1,c2,c3,hm,←hsb,hr0,hr1,hr2,bK.dat]
 ·by_cases h76:x7 < 6
  ·rw[if_pos h76]at hbr
   simp[dd,gq,jL,c1,c2,c3,hm,←hsb,hr0,hr1,hr2,bK.dat,h76,hbr]
  ·rw[if_neg h76]at hbr
   simp[dd,gq,jL,c1,c2,c3,hm,←hsb,hr0,hr1,hr2,bK.dat,h76,hbr]
 ·simp[dd,gq,jL,c1,c2,c3,hm,←hsb,hr0,hr1,hr2,bK.dat]
 ·simp[dd,gq,jL,c1,c2,c3,hm,←hsb,hr0,hr1,hr2,bK.dat]
 ·simp[dd,gq,jL,c1,c2,c3,hm,←hsb,hr0,hr1,hr2,bK.dat]
 ·simp[dd,gq,jL,c1,c2,c3,hm,←hsb,hr0,hr1,hr2,bK.dat]
 ·simp[dd,gq,jL,c1,c2,c3,hm,←hsb,hr0,hr1,hr2,bK.dat]
 ·simp[dd,gq,jL,c1,c2,c3,hm,←hsb,hr0,hr1,hr2,bK.dat]
 ·simp[dd,gq,jL,c1,c2,c3,hm,←hsb,hr0,hr1,hr2,bK.dat]
 ·simp[dd,gq,jL,c1,c2,c3,hm,←hsb,hr0,hr1,hr2,bK.dat]
 ·simp[dd,gq,jL,c1,c2,c3,hm,←hsb,hr0,hr1,hr2,bK.dat]
 ·simp[dd,gq,jL,c1,c2,c3,hm,←hsb,hr0,hr1,hr2,bK.dat]
 ·simp[dd,gq,jL,c1,c2,c3,hm,←hsb,hr0,hr1,hr2,bK.dat]
theorem X8{w:Str}(hw:w∈(["owner","ground","enrol","bring","leave","heir","pass","unite","part","tear","sell","move","bear","cut","die"]:List Str))(ho:0<=one/\one<=1000)(ht:0<=two/\two<=1000):∃d:bK,gq M [.str w,.int one,.int two,lI p,.tuple [.int n0,.int n1,.int n2],aM base]=.ok d.dat/\fO d=true/\Ml d:=by
 have r10:=Bt (f:=one) (sure:=eE p) ho h0
 have r11:=Bt (f:=one) (sure:=eE p) ho h1
 have r12:=Bt (f:=one) (sure:=eE p) ho h2
 have r20:=Bt (f:=two) (sure:=eE p) ht h0
 have r21:=Bt (f:=two) (sure:=eE p) ht h1
 have r22:=Bt (f:=two) (sure:=eE p) ht h2
 have m1:=P.mark
 have m2:=P.bring
 have l1:(HD p base).length<=1000:=by rw[gR m1];decide
 have l2:(EY p base).length<=1000:=by rw[gR m2];decide
 have h7:0<=p.getD 7 0/\p.getD 7 0 < 10:=P.dig _ (by
  have:=P.len
  rw[List.getD_eq_getElem?_getD,aqi (by omega)]
  exact aqQ _)
 have q4:nB (p.getD 7 0 % 4)=true:=by unfold nB;simp only[aqg,decide_eq_true_eq];omega
 have q6:plB (p.getD 7 0 % 6)=true:=by unfold plB;simp only[aqg,decide_eq_true_eq];omega
 have qg:nB (grT (p.getD 7 0)+4 * (if eE p then 0 else 1))=true:=by
  unfold nB grT
  simp only[aqg,decide_eq_true_eq]
  split <;> (repeat' split) <;> omega
 simp only[aqv,aqO,or_false]at hw
 obtain⟨d0,d1,d2,d3,d4,d5,d6,d7,d8,d9,d10,d11,d12,d13,d14⟩:=ae8 M P one two n0 n1 n2 h0 h1 h2
 rcases hw with rfl|rfl|rfl|rfl|rfl|rfl|rfl|rfl|rfl|rfl|rfl|rfl|rfl|rfl|rfl
 ·exact⟨_,d0,by simp[fO,r10,r11,r12,r20,r21,r22,m1,m2,q4,q6,-List.getD_eq_getElem?_getD],by first | trivial | assumption⟩
 ·exact⟨_,d1,qg,by first | trivial | assumption⟩
 ·exact⟨_,d2,by simp[fO,r10,r11,r12,r20,r21,r22,m1,m2,q4,q6,-List.getD_eq_getElem?_getD],by first | trivial | assumption⟩
 ·exact⟨_,d3,by simp[fO,r10,r11,r12,r20,r21,r22,m1,m2,q4,q6,-List.getD_eq_getElem?_getD],by first | trivial | assumption⟩
 ·exact⟨_,d4,by simp[fO,r10,r11,r12,r20,r21,r22,m1,m2,q4,q6,-List.getD_eq_getElem?_getD],by first | trivial | assumption⟩
 ·exact⟨_,d5,by simp[fO,r10,r11,r12,r20,r21,r22,m1,m2,q4,q6,-List.getD_eq_getElem?_getD],by first | trivial | assumption⟩
 ·exact⟨_,d6,by simp[fO,r10,r11,r12,r20,r21,r22,m1,m2,q4,q6,-List.getD_eq_getElem?_getD],by first | trivial | assumption⟩
 ·exact⟨_,d7,by simp[fO,r10,r11,r12,r20,r21,r22,m1,m2,q4,q6,-List.getD_eq_getElem?_getD],by first | trivial | assumption⟩
 ·exact⟨_,d8,by simp[fO,r10,r11,r12,r20,r21,r22,m1,m2,q4,q6,-List.getD_eq_getElem?_getD],by first | trivial | assumption⟩
 ·exact⟨_,d9,by simp[fO,r10,r11,r12,r20,r21,r22,m1,m2,q4,q6,-List.getD_eq_getElem?_getD],by first | trivial | assumption⟩
 ·exact⟨_,d10,by simp[fO,r10,r11,r12,r20,r21,r22,m1,m2,q4,q6,-List.getD_eq_getElem?_getD],by first | trivial | assumption⟩
 ·exact⟨_,d11,by simp[fO,r10,r11,r12,r20,r21,r22,m1,m2,q4,q6,-List.getD_eq_getElem?_getD],by first | trivial | assumption⟩
 ·exact⟨_,d12,by simp[fO,r10,r11,r12,r20,r21,r22,m1,m2,q4,q6,-List.getD_eq_getElem?_getD],by first | trivial | assumption⟩
 ·exact⟨_,d13,by simp[fO,r10,r11,r12,r20,r21,r22,m1,m2,q4,q6,-List.getD_eq_getElem?_getD],by first | trivial | assumption⟩
 ·exact⟨_,d14,by simp[fO,r10,r11,r12,r20,r21,r22,m1,m2,q4,q6,-List.getD_eq_getElem?_getD],by first | trivial | assumption⟩
end
abbrev words:List Str:=["owner","ground","enrol","bring","leave","heir","pass","unite","part","tear","sell","move","bear","cut","die"]
def U7:List Str:=["tear","cut","bring","sell","move","enrol","bear","tear","cut","sell","move","unite","part","heir","pass","die","leave","ground","owner","enrol","tear","sell","bring","bear","cut"]
theorem agv(M:Mo)(f:Int):∃w∈words,zE M [.int f]=.ok (.str w):=by
 have h1:0<=f % 25/\f % 25 < 25:=by omega
 obtain⟨k,hk⟩:∃k:Nat,f % 25=k:=⟨(f % 25).toNat,by omega⟩
 have hl:k < U7.length:=by show k < 25;omega
 have h2:atI (U7.map PyData.str) (k:Int)=some (.str U7[k]):=atI_nat (by rw[aqs,aqi hl];rfl)
 have h3:∀w∈U7,w∈words:=by simp[U7]
 refine⟨U7[k],h3 _ (aqQ hl),?_⟩
 generalize U7[k]=z at h2
 simp[U7]at h2
 simp[zE,Km,hk,h2]
def wX(h:Int):List (Str×Int×Int):=if h % 8=7 then[] else[("ground",0,0),("owner",0,0),("owner",0,0),("enrol",0,0),("enrol",1,0),("bring",0,0),("cut",0,0),("bring",1,0),("cut",1,0),("ground",0,0),("enrol",0,1)]
def Hu(r:Str×Int×Int):Dat:=.tuple [.str r.1,.int r.2.1,.int r.2.2]
theorem adU(M:Mo)(h:Int):u5 M [.int h]=.ok (.list ((wX h).map Hu)):=by
 unfold wX
 by_cases e:h % 8=7 <;> simp[u5,Ea,e,Hu]
theorem agp{h:Int}:∀r∈wX h,r.1∈words/\(0<=r.2.1/\r.2.1<=1000)/\0<=r.2.2/\r.2.2<=1000:=by
 unfold wX
 split
 ·simp
 ·simp
inductive VL:Nat->aK->Prop where
 |nil:VL 0 ⟨0,[],[],[],[],[]⟩
 |step {n:Nat} {c:aK} (d:bK):VL n c->fO d=true->VL (n+1) (rN c d)
 |le {n m:Nat} {c:aK}:VL n c->n<=m->VL m c
theorem Inv.mono{n s n' s':Nat}{c:aK}(I:Inv n s c)(h1:n<=n')(h2:s<=s'):Inv n' s' c:=
 I.of h1 I.gr (aqH I.al h1) rfl rfl I.held (aqH I.hL h2) I.hE ⟨I.Vx.g,fun b hb=>by have:=I.en b hb;omega⟩
theorem aaV(d:bK):cost d<=1:=by cases d <;> simp[cost]
theorem akt:Inv 0 0 ⟨0,[],[],[],[],[]⟩:=⟨⟨rfl,by simp,by simp,by simp,by simp,by simp,by simp⟩,by simp,by simp,by simp,by simp,by simp,by simp,by simp,by simp,by simp,by simp,by simp,by simp⟩
structure Now(M:Mo)(L:Lay)(n s:Nat)(c:aK):Prop where
 at_:At M L c
 inv:Inv n s c
 rch:VL n c
theorem Now.done{M:Mo}{L:Lay}{n s:Nat}{c:aK}(N:Now M L n s c)(hs:s<=76)(hn:n<=199)(d:bK)(hd:Ml d)(hf:fO d=true):∃M' bs,qT M [ob L.c,d.dat,lQ c]=.ok (lQ (rN c d)) M'/\Now M' { L with bs:=bs } (n+1) (s+cost d) (rN c d):=by
 obtain⟨M',bs,h1,h2⟩:=agj N.at_ N.inv hs hn d hd hf
 exact⟨M',bs,h1,h2,Zj N.inv d hn,.step d N.rch hf⟩
theorem agY(x:Int){base:List Int}(h:base.length=6):Pts (rowOf x 14 10) base:=⟨aau ..,adn (by decide) _ _,h⟩
theorem Gz(x:Int)(k:Nat)(h:k < 14):atI ((rowOf x 14 10).map PyData.int) (k:Int)=some (.int ((rowOf x 14 10).getD k 0))/\0<=(rowOf x 14 10).getD k 0/\(rowOf x 14 10).getD k 0<=9:=by
 have hl:k < (rowOf x 14 10).length:=by rw[aau];exact h
 refine⟨Xk _ k hl,?_⟩
 rw[List.getD_eq_getElem?_getD,aqi hl]
 have:=adn (by decide) x 14 _ (aqQ hl)
 simp
 omega
theorem aeb{M:Mo}{L:Lay}{n s:Nat}{c:aK}(N:Now M L n s c)(hs:s<=76)(hn:n<=199)(x1:Option Cell)(head:Int)(base:List Int)(hb:base.length=6)(i:Nat)(x:Int)(x8 x9 x10 x11 x12:Option Cell) :
  ∃d M' bs y8 y9 y10 y11,fO d=true/\Cd M [some (.dat (ob L.c)),x1,some (.dat (.int head)),some (.dat (lQ c)),some (.dat (aM base)),some (.dat (.list ((wX head).map Hu))),some (.dat (.int i)),some (.dat (.int x)),x8,x9,x10,x11,x12]=.next [some (.dat (ob L.c)),x1,some (.dat (.int head)),some (.dat (lQ (rN c d))),some (.dat (aM base)),some (.dat (.list ((wX head).map Hu))),some (.dat (.int i)),some (.dat (.int x)),y8,y9,y10,y11,x12] M'/\Now M' { L with bs:=bs } (n+1) (s+cost d) (rN c d):=by
 have h1:Bp M [.int x,.int 14,.int 10]=.ok (lI (rowOf x 14 10)):=acp M x 14 10 (by decide) (by decide) (by decide)
 have P:=agY x hb
 obtain⟨r0,q0,q0'⟩:=Gz x 0 (by decide)
 obtain⟨r1,q1,q1'⟩:=Gz x 1 (by decide)
 obtain⟨r2,q2,q2'⟩:=Gz x 2 (by decide)
 obtain⟨r3,q3,q3'⟩:=Gz x 3 (by decide)
 obtain⟨r4,q4,q4'⟩:=Gz x 4 (by decide)
 obtain⟨r5,q5,q5'⟩:=Gz x 5 (by decide)
 generalize rowOf x 14 10=p at *
 generalize p.getD 0 0=d0 at *
 generalize p.getD 1 0=d1 at *
 generalize p.getD 2 0=d2 at *
 generalize p.getD 3 0=d3 at *
 generalize p.getD 4 0=d4 at *
 generalize p.getD 5 0=d5 at *
 obtain⟨w,hw,h2⟩:=agv M (d0 * 10+d1)
 have hm:∀z,decide (CMul z 10)=true:=fun z=>mul_r (by decide)
 have c0:=N.inv.cnt.1
 simp only[Int.natCast_zero,Int.natCast_one,show((2:Nat):Int)=2 from rfl,show((3:Nat):Int)=3 from rfl,show((4:Nat):Int)=4 from rfl,show((5:Nat):Int)=5 from rfl]at r0 r1 r2 r3 r4 r5
 by_cases hi:i < (wX head).length
 ·have hi':(i:Int) < (wX head).length:=by omega
  have g:=aqi hi
  obtain⟨b1,b2,b3⟩:=agp _ (aqQ hi)
  generalize (wX head)[i]=b at *
  obtain⟨d,e1,e2,e3⟩:=X8 M P b.2.1 b.2.2 c.count c.al.length c.bs.length c0 (by omega) (by omega) b1 b2 b3
  obtain⟨M',bs,e4,e5⟩:=N.done hs hn d e3 e2
  refine⟨d,M',bs,some (.dat (lI p)),some (.dat (.str b.1)),some (.dat (.int b.2.1)),some (.dat (.int b.2.2)),e2,?_,e5⟩
  have e1:gq M [.str b.1,.int b.2.1,.int b.2.2,lI p,lQ c,aM base]=.ok d.dat:=e1
  simp[Cd,h1,r0,r1,r2,r3,r4,r5,hm,h2,hi',g]
  simp[Hu,e1,e4]
 ·have hi':¬(i:Int) < (wX head).length:=by omega
  obtain⟨d,e1,e2,e3⟩:=X8 M P (d2 * 10+d3) (d4 * 10+d5) c.count c.al.length c.bs.length c0 (by omega) (by omega) hw (by omega) (by omega)
  obtain⟨M',bs,e4,e5⟩:=N.done hs hn d e3 e2
  refine⟨d,M',bs,some (.dat (lI p)),some (.dat (.str w)),some (.dat (.int (d2 * 10+d3))),some (.dat (.int (d4 * 10+d5))),e2,?_,e5⟩
  have e1:gq M [.str w,.int (d2 * 10+d3),.int (d4 * 10+d5),lI p,lQ c,aM base]=.ok d.dat:=e1
  simp[Cd,h1,r0,r1,r2,r3,r4,r5,hm,h2,hi']
  simp[e1,e4]
theorem U8(x1:Option Cell)(head:Int)(base:List Int)(hb:base.length=6)(x12:Option Cell):∀(xs:List (Nat×Int)) (M:Mo) (L:Lay) (n:Nat) (c:aK) (x6 x7 x8 x9 x10 x11:Option Cell),Now M L n n c->n+xs.length<=76->
  ∃c' M' bs y6 y7 y8 y9 y10 y11,fB (bA [6,7]) Cd (xs.map fun q=>PyData.tuple [.int q.1,.int q.2]) M [some (.dat (ob L.c)),x1,some (.dat (.int head)),some (.dat (lQ c)),some (.dat (aM base)),some (.dat (.list ((wX head).map Hu))),x6,x7,x8,x9,x10,x11,x12]=.next [some (.dat (ob L.c)),x1,some (.dat (.int head)),some (.dat (lQ c')),some (.dat (aM base)),some (.dat (.list ((wX head).map Hu))),y6,y7,y8,y9,y10,y11,x12] M'/\Now M' { L with bs:=bs } (n+xs.length) (n+xs.length) c'
 |[],M,L,n,c,x6,x7,x8,x9,x10,x11,N,_=>⟨c,M,L.bs,x6,x7,x8,x9,x10,x11,rfl,N⟩
 |q::xs,M,L,n,c,x6,x7,x8,x9,x10,x11,N,hl=>by
  rw[aqu]at hl
  obtain⟨d,M1,bs,y8,y9,y10,y11,h0,h1,N1⟩:=aeb N (by omega) (by omega) x1 head base hb q.1 q.2 x8 x9 x10 x11 x12
  have N1:Now M1 { L with bs:=bs } (n+1) (n+1) (rN c d):=⟨N1.at_,N1.inv.mono (aqF _) (by have:=aaV d;omega),N1.rch⟩
  obtain⟨c',M',bs',z6,z7,z8,z9,z10,z11,h2,N2⟩:=U8 x1 head base hb x12 xs M1 { L with bs:=bs } (n+1) (rN c d) (some (.dat (.int q.1))) (some (.dat (.int q.2))) y8 y9 y10 y11 N1 (by omega)
  refine⟨c',M',bs',z6,z7,z8,z9,z10,z11,?_,?_⟩
  ·rw[aqj,fK (ρ1:=[some (.dat (ob L.c)),x1,some (.dat (.int head)),some (.dat (lQ c)),some (.dat (aM base)),some (.dat (.list ((wX head).map Hu))),some (.dat (.int q.1)),some (.dat (.int q.2)),x8,x9,x10,x11,x12]) (by simp) h1]
   exact h2
  ·rw[aqu,show n+(xs.length+1)=n+1+xs.length by omega]
   exact N2
theorem abN{M:Mo}{L:Lay}{n s:Nat}{c:aK}(N:Now M L n s c)(hs:s<=75)(hn:n<=198)(x1 x2 x4 x5 x6 x7 x8 x9 x10 x11 x12:Option Cell) :
  ∃c' M' bs,HJ M [some (.dat (ob L.c)),x1,x2,some (.dat (lQ c)),x4,x5,x6,x7,x8,x9,x10,x11,x12]=.next [some (.dat (ob L.c)),x1,x2,some (.dat (lQ c')),x4,x5,x6,x7,x8,x9,x10,x11,x12] M'/\Now M' { L with bs:=bs } (n+2) (s+1) c':=by
 obtain⟨M1,bs1,h1,N1⟩:=N.done (by omega) (by omega) (.bring 1 1 [0,0,0,0,0,0]) (by simp[Ml]) (by decide)
 have hl:=N1.inv.hL
 have hc:cost (.bring 1 1 [0,0,0,0,0,0])=1:=rfl
 generalize rN c (.bring 1 1 [0,0,0,0,0,0])=c1 at *
 obtain⟨M2,bs2,h2,N2⟩:=N1.done (by omega) (by omega) (.cut c1.bs.length) trivial (by simp only[fO,nB,aqg,decide_eq_true_eq];omega)
 refine⟨_,M2,bs2,?_,N2.at_,N2.inv,N2.rch⟩
 have h1:qT M [ob L.c,.tuple [.str "bring",.int 1,.int 1,.tuple [.int 0,.int 0,.int 0,.int 0,.int 0,.int 0]],lQ c]=.ok (lQ c1) M1:=h1
 have h2:qT M1 [ob L.c,.tuple [.str "cut",.int c1.bs.length],lQ c1]=_:=h2
 simp[HJ,h1]
 have e:atI [PyData.int c1.count,.int c1.al.length,.int c1.bs.length] 2=some (.int c1.bs.length):=rfl
 simp[lQ]at h2 ⊢
 simp[h2]
theorem Qi(x1 x2 x4 x5 x6 x7 x8 x9 x10 x11:Option Cell):∀(xs:List Dat) (M:Mo) (L:Lay) (n s:Nat) (c:aK) (x12:Option Cell),Now M L n s c->n+2 * xs.length<=198->s+xs.length<=75->
  ∃c' M' bs y12,fB (aG 12) HJ xs M [some (.dat (ob L.c)),x1,x2,some (.dat (lQ c)),x4,x5,x6,x7,x8,x9,x10,x11,x12]=.next [some (.dat (ob L.c)),x1,x2,some (.dat (lQ c')),x4,x5,x6,x7,x8,x9,x10,x11,y12] M'/\Now M' { L with bs:=bs } (n+2 * xs.length) (s+xs.length) c'
 |[],M,L,n,s,c,x12,N,_,_=>⟨c,M,L.bs,x12,rfl,N⟩
 |q::xs,M,L,n,s,c,x12,N,h1,h2=>by
  rw[aqu]at h1 h2
  obtain⟨c1,M1,bs1,e1,N1⟩:=abN N (by omega) (by omega) x1 x2 x4 x5 x6 x7 x8 x9 x10 x11 (some (.dat q))
  obtain⟨c',M',bs',y12,e2,N2⟩:=Qi x1 x2 x4 x5 x6 x7 x8 x9 x10 x11 xs M1 { L with bs:=bs1 } (n+2) (s+1) c1 (some (.dat q)) N1 (by omega) (by omega)
  refine⟨c',M',bs',y12,?_,?_⟩
  ·rw[fK (ρ1:=[some (.dat (ob L.c)),x1,x2,some (.dat (lQ c)),x4,x5,x6,x7,x8,x9,x10,x11,some (.dat q)]) (by simp) e1]
   exact e2
  ·rw[aqu,show n+2 * (xs.length+1)=n+2+2 * xs.length by omega,show s+(xs.length+1)=s+1+xs.length by omega]
   exact N2
def S9:aK:=⟨0,[],[],[],[],[]⟩
theorem ahD{M:Mo}{L:Lay}(a:At M L S9)(cells:List Int)(hl:cells.length<=43)(head:Int):∃c M' L',L'.c=L.c/\Gj M [ob L.c,lI cells,.int head]=.ok (lQ c) M'/\Now M' L' 99 71 c:=by
 have hb:=adT (head / 512)
 have h1:=ajl M (head / 512)
 have h2:=adU M head
 have N0:Now M L 0 0 S9:=⟨a,akt,.nil⟩
 have hen:kW 0 (cells.map PyData.int)=(cells.mapIdx fun i x=>(i,x)).map fun(q:Nat×Int)=>PyData.tuple [.int q.1,.int q.2]:=by
  unfold kW
  apply aqE
  intro i
  simp
  cases cells[i]? <;> simp
 obtain⟨c1,M1,bs1,y6,y7,y8,y9,y10,y11,e1,N1⟩:=U8 (some (.dat (lI cells))) head (Mg (head / 512)) hb none (cells.mapIdx fun i x=>(i,x)) M L 0 S9 none none none none none none N0 (by simp;omega)
 simp only[List.length_mapIdx,Nat.zero_add]at N1
 have hd:∀z,decide (CDiv z 512)=true:=fun z=>decide_eq_true ⟨by decide,by decide⟩
 have hd8:∀z,decide (CDiv z 8)=true:=fun z=>decide_eq_true ⟨by decide,by decide⟩
 have hd64:∀z,decide (CDiv z 64)=true:=fun z=>decide_eq_true ⟨by decide,by decide⟩
 have hm:∀z,decide (CMul z 4)=true:=fun z=>mul_r (by decide)
 have z0:lQ S9=.tuple [.int 0,.int 0,.int 0]:=rfl
 rw[z0]at e1
 by_cases hh:head / 8 % 8=1
 ·obtain⟨k,hk,hk2⟩:∃k:Nat,head / 64 % 8 * 4=k/\k<=28:=⟨(head / 64 % 8 * 4).toNat,by omega,by omega⟩
  obtain⟨c2,M2,bs2,y12,e2,N2⟩:=Qi (some (.dat (lI cells))) (some (.dat (.int head))) (some (.dat (aM (Mg (head / 512))))) (some (.dat (.list ((wX head).map Hu)))) y6 y7 y8 y9 y10 y11 (jx 0 k) M1 { L with bs:=bs1 } cells.length cells.length c1 none N1 (by simp[jx];omega) (by simp[jx];omega)
  refine⟨c2,M2,{ L with bs:=bs2 },rfl,?_,N2.at_,N2.inv.mono (by simp[jx];omega) (by simp[jx];omega),N2.rch.le (by simp[jx];omega)⟩
  have k1:(k:Int)<=100000:=by omega
  have k2 : -100000<=(k:Int):=by omega
  simp[Gj,QJ,hd,h1,h2,hen,e1,hd8,hh,hd64,hm,hk,k1,k2,e2]
 ·refine⟨c1,M1,{ L with bs:=bs1 },rfl,?_,N1.at_,N1.inv.mono (by omega) (by omega),N1.rch.le (by omega)⟩
  simp[Gj,QJ,hd,h1,h2,hen,e1,hd8,hh]
def L0:Lay:=⟨0,2,5,7,[],[]⟩
theorem ama:∃M L,L.c=0/\o9 [⟨"Commons",[]⟩] [ob 0]=.ok .none M/\At M L S9:=by
 refine⟨_,L0,rfl,by simp[o9,yH,jU,tR,yj,vA,Ak,zq,Ek];rfl,?_⟩
 exact⟨rfl,⟨_,_,rfl⟩,rfl,⟨_,rfl⟩,rfl,fun i h b z _=>(by cases z),by decide,fun p hp=>(by cases hp)⟩
theorem Now.look{M:Mo}{L:Lay}{n s:Nat}{c:aK}(N:Now M L n s c)(hs:s<=1000):pC M [ob L.c]=.ok (jH c):=by
 have:=N.inv.hL
 exact ahz N.at_ N.inv.gr (by omega) (by omega)
theorem ahh(l:List Int)(lo hi:Option Int):Rf.cutD (l.map PyData.int) lo hi=(Rf.cutD l lo hi).map PyData.int:=by
 unfold Rf.cutD
 rw[aqr,List.map_take,List.map_drop]
theorem afV{α:Type}(l:List α)(a b:Nat)(h:a<=b):(Rf.cutD l (some (a:Int)) (some (b:Int))).length<=b - a:=by
 unfold Rf.cutD
 rw[HT.sIx_nat,HT.sIx_nat,List.length_take]
 omega
def pW(c:aK)(lo g:Int)(r:Rw):Prop:=(r.1,g,r.2)∈c.held∨∃(i:Nat) (b:dU),c.bs[i]?=some b/\b.sd.al=true/\b.sd.due=some r.2/\b.sd.o=r.1/\b.sd.g=g/\(i:Int)+1≠lo
theorem pW.all{c:aK}{lo g:Int}{r:Rw}(h:pW c lo g r):pW c 0 g r:=h.imp id fun⟨i,b,h1,h2,h3,h4,h5,_⟩=>⟨i,b,h1,h2,h3,h4,h5,by omega⟩
theorem zJ{c:aK}{lo x:Int}{r:Rw}:r∈cJ c lo x↔∃g∈aH c x,pW c lo g r:=by
 constructor
 ·intro h
  rcases aqp.mp h with h|h
  ·obtain⟨g,h1,h2⟩:=Tw h
   exact⟨g,h2,.inl h1⟩
  ·obtain⟨i,b,h1,h2,h3,h4,h5,h6⟩:=Pg h
   exact⟨b.sd.g,h5,.inr ⟨i,b,h1,h4,h3,h2,rfl,h6⟩⟩
 ·rintro⟨g,hg,h|⟨i,b,h1,h2,h3,h4,h5,h6⟩⟩
  ·exact aqL _ (aqt.mpr ⟨_,aqC.mpr ⟨h,by simpa using hg⟩,rfl⟩)
  ·refine aqY _ (aqt.mpr ⟨(i,b),aqC.mpr ⟨?_,?_⟩,?_⟩)
   ·obtain⟨hi,e⟩:=aqh.mp h1
    exact List.mem_mapIdx.mpr ⟨i,hi,by rw[e]⟩
   ·have h6':((i:Int)+1==lo)=false:=by simpa using h6
    subst h5
    simp[h3,h2,hg,h6']
   ·simp[h3,h4]
def NM(c:aK):Prop:=∀x,Vg c x->∀g∈aH c x,∀h∈aH c x,∀r s,pW c 0 g r->pW c 0 h s->r.1≠s.1->roomOf c x < dG r.2 s.2
theorem NM.map{c c':aK}(N:NM c)(h1:c'.al=c.al)(h2:c'.ci=c.ci)(f:Int->Int)(h:∀g r,pW c' 0 g r->∃o,pW c 0 g (o,r.2)/\r.1=f o):NM c':=fun x hx g hg k hk r s hr hs ne=>by
 have e1:aH c' x=aH c x:=by simp[aH,h2]
 have e0:jG c'=jG c:=by funext y;simp[jG,h1]
 have e2:roomOf c' x=roomOf c x:=by unfold roomOf;rw[e1,e0]
 have hx:Vg c x:=by unfold Vg at *;rw[←h1];exact hx
 rw[e1]at hg hk
 obtain⟨o,a1,a2⟩:=h g r hr
 obtain⟨p,b1,b2⟩:=h k s hs
 rw[e2]
 exact N x hx g hg k hk (o,r.2) (p,s.2) a1 b1 fun z=>ne (by rw[a2,b2];exact congrArg f z)
theorem NM.sub{c c':aK}(N:NM c)(h1:c'.al=c.al)(h2:c'.ci=c.ci)(h:∀g r,pW c' 0 g r->pW c 0 g r):NM c':=N.map h1 h2 id fun g r hr=>⟨r.1,h g r hr,rfl⟩
theorem NM.add{c c':aK}(N:NM c)(i:cV c)(h1:c'.al=c.al)(h2:c'.ci=c.ci){lo g0 o:Int}{m:List Int}(hg0:Vg c g0)(h:∀g r,pW c' 0 g r->pW c lo g r∨(g=g0/\r=(o,m)))(hb:∀r∈cJ c lo g0,r.1≠o->roomOf c g0 < dG m r.2):NM c':=fun x hx g hg k hk r s hr hs ne=>by
 have e1:aH c' x=aH c x:=by simp[aH,h2]
 have e0:jG c'=jG c:=by funext y;simp[jG,h1]
 have e2:roomOf c' x=roomOf c x:=by unfold roomOf;rw[e1,e0]
 have hx:Vg c x:=by unfold Vg at *;rw[←h1];exact hx
 rw[e1]at hg hk
 rw[e2]
 have one:∀k,k∈aH c x->g0∈aH c x->∀s:Rw,pW c lo k s->s.1≠o->roomOf c x < dG m s.2:=fun k hk hg0 s hs ne=>by
  have e:=i.eq hx hg0
  have e3:roomOf c x=roomOf c g0:=by unfold roomOf;rw[e]
  rw[e3]
  exact hb s (zJ.mpr ⟨k,by rw[e];exact hk,hs⟩) ne
 rcases h g r hr with a|⟨rfl,rfl⟩
 ·rcases h k s hs with b|⟨rfl,rfl⟩
  ·exact N x hx g hg k hk r s a.all b.all ne
  ·rw[Pj]
   exact one g hg hk r a ne
 ·rcases h k s hs with b|⟨_,rfl⟩
  ·exact one k hk hg s b fun z=>ne z.symm
  ·exact absurd rfl ne
theorem Hh{o:Int}{e:List Int}{R:List Rw}{room:Int}(h:vW o e (bH R) room=[]):∀r∈R,r.1≠o->room < dG e r.2:=fun r hr ne=>by
 unfold vW at h
 have:=List.filter_eq_nil_iff.mp h r (dB.mpr (dB.mpr hr))
 simp[ne]at this
 exact this
theorem Ik{o room:Int}{e:List Int}{R:List Rw}{x:Res}{d:Dat}{c':aK}(h:xH o e R room x=.ok d c'):vW o e (bH R) room=[]:=by
 unfold xH at h
 split at h
 ·assumption
 ·cases h
theorem ag6{l:List Int}{m:Int}(hne:l≠[])(h:∀a∈l,a<=m):abI l<=m:=by
 cases l with
 |nil=>exact absurd rfl hne
 |cons n ns=>exact h _ (DW ns n).1
theorem agU{l:List Int}{a:Int}(h:a∈l):a<=abI l:=by
 cases l with
 |nil=>cases h
 |cons n ns=>exact(DW ns n).2 a h
theorem aaP{c:aK}{x m:Int}(hx:x∈aH c x)(h:∀y∈aH c x,jG c y<=m):roomOf c x<=m:=ag6 (fun z=>by rw[List.map_eq_nil_iff.mp z]at hx;cases hx) fun a ha=>by
 obtain⟨y,hy,rfl⟩:=aqt.mp ha
 exact h y hy
theorem afy{c:aK}{x y:Int}(hy:y∈aH c x):jG c y<=roomOf c x:=agU (aqt.mpr ⟨y,hy,rfl⟩)
theorem NM.finer{c c':aK}(N:NM c)(h1:c'.al=c.al)(hh:c'.held=c.held)(hbs:c'.bs=c.bs)(hs:∀x,Vg c x->x∈aH c' x/\∀y∈aH c' x,y∈aH c x):NM c':=fun x hx g hg k hk r s hr hs' ne=>by
 have hx:Vg c x:=by unfold Vg at *;rw[←h1];exact hx
 obtain⟨a,b⟩:=hs x hx
 have e:∀g r,pW c' 0 g r->pW c 0 g r:=fun g r h=>by unfold pW at *;rw[←hh,←hbs];exact h
 have:=N x hx g (b g hg) k (b k hk) r s (e g r hr) (e k s hs') ne
 have:roomOf c' x<=roomOf c x:=aaP a fun y hy=>by
  have e2:jG c' y=jG c y:=by simp[jG,h1]
  rw[e2]
  exact afy (b y hy)
 omega
theorem Vr{T:List Rw}{room:Int}(h:gJ T room=[]):∀(i j:Nat) (r s:Rw),i < j->T[i]?=some r->T[j]?=some s->r.1≠s.1->room < dG r.2 s.2:=fun i j r s lt hr hs ne=>by
 unfold gJ at h
 rw[List.flatMap_eq_nil_iff]at h
 obtain⟨hi,e⟩:=aqh.mp hr
 have h1:=h (i,r) (List.mem_mapIdx.mpr ⟨i,hi,by rw[e]⟩)
 have h2:=List.filter_eq_nil_iff.mp (List.map_eq_nil_iff.mp h1) s (aqn (i:=j - (i+1)) (by rw[List.getElem?_drop,show i+1+(j - (i+1))=j by omega];exact hs))
 have ne':(r.1==s.1)=false:=by simpa using ne
 simp[ne']at h2
 exact h2
theorem adG{T:List Rw}{room:Int}(h:gJ T room=[]){r s:Rw}(hr:r∈T)(hs:s∈T)(ne:r.1≠s.1):room < dG r.2 s.2:=by
 obtain⟨i,hi⟩:=List.mem_iff_getElem?.mp hr
 obtain⟨j,hj⟩:=List.mem_iff_getElem?.mp hs
 rcases Nat.lt_trichotomy i j with lt|rfl|lt
 ·exact Vr h i j r s lt hi hj ne
 ·rw[hi]at hj
  cases hj
  exact absurd rfl ne
 ·rw[Pj]
  exact Vr h j i s r lt hj hi fun z=>ne z.symm
theorem Fx{c:aK}{i:Nat}{e:En}{b0:dU}(hb:c.bs[i]?=some b0){g:Int}{r:Rw}(h:pW (fY c i e) 0 g r):pW c ((i:Int)+1) g r∨((go b0.sd e).al=true/\(go b0.sd e).due=some r.2/\(go b0.sd e).o=r.1/\(go b0.sd e).g=g):=by
 rcases h with h|⟨j,b,h1,h2,h3,h4,h5,_⟩
 ·exact .inl (.inl h)
 ·rw[vO]at h1
  split at h1
  ·next z=>
   subst z
   rw[hb]at h1
   cases h1
   exact .inr ⟨h2,h3,h4,h5⟩
  ·next z=>exact .inl (.inr ⟨j,b,h1,h2,h3,h4,h5,by omega⟩)
theorem Qc{c:aK}{k o g':Int}{lo g:Int}{r:Rw}(h:pW (vZ c k o g') lo g r):pW c lo g r:=by
 rcases h with h|⟨j,b,h1,h2,h3,h4,h5,h6⟩
 ·exact .inl h
 ·have h1:(c.bs.map fun x=>if tX k x&&x.sd.al then pP x (.followed o g') else x)[j]?=some b:=h1
  rw[aqs]at h1
  obtain⟨x,hx,rfl⟩:=aqR.mp h1
  cases q:(tX k x&&x.sd.al) with
  |true=>
   rw[q]at h3
   have h3:x.sd.due=some r.2:=h3
   simp[tX,h3]at q
  |false=>
   rw[q]at h2 h3 h4 h5
   exact .inr ⟨j,x,hx,h2,h3,h4,h5,h6⟩
theorem agV{n s:Nat}{c c':aK}{d:bK}{r:Dat}(I:Inv n s c)(hn:n<=199)(N:NM c)(h:cY c d=.ok r c'):NM c':=by
 have A0:=I.al
 have gv:∀{g:Int} {r:Rw} {lo:Int},pW c lo g r->Vg c g:=fun h=>by
  rcases h with h|⟨j,b,h1,h2,_,_,h5,_⟩
  ·exact(I.hE _ h).2.1
  ·rw[←h5]
   exact(I.alive (aqn h1) h2).2.1
 have nobs:∀{f:Fi},(beg f).due=none->∀g (r:Rw),pW { c with bs:=c.bs++[Cj f] } 0 g r->pW c 0 g r:=fun hf g r h=>by
  rcases h with h|⟨j,b,h1,h2,h3,h4,h5,h6⟩
  ·exact .inl h
  ·by_cases hj:j < c.bs.length
   ·rw[aqq hj]at h1
    exact .inr ⟨j,b,h1,h2,h3,h4,h5,h6⟩
   ·rw[aqy (by omega)]at h1
    cases hz:j - c.bs.length with
    |zero=>
     rw[hz]at h1
     cases h1
     have h3:(beg _).due=some r.2:=h3
     rw[hf]at h3
     cases h3
    |succ q=>
     rw[hz]at h1
     simp at h1
 cases d with
 |owner=>
  cases h
  exact N.sub rfl rfl fun _ _ h=>h
 |ground x=>
  obtain⟨hx,h⟩:=BP h
  cases h
  have hl:=I.gr.len
  have e1:∀y,Vg c y->aH { c with al:=c.al++[x],ci:=c.ci++[[(c.al.length:Int)+1]] } y=aH c y:=fun y hy=>by
   obtain⟨k,hk,rfl⟩:=qP hy
   simp[aH,aqq (show k < c.ci.length by omega)]
  have e2:∀y,Vg c y->jG { c with al:=c.al++[x],ci:=c.ci++[[(c.al.length:Int)+1]] } y=jG c y:=fun y hy=>by
   obtain⟨k,hk,rfl⟩:=qP hy
   simp[jG,aqq hk]
  intro y hy g hg k hk r s hr hs ne
  have hy:1<=y/\y<=((c.al++[x]).length:Int):=hy
  simp at hy
  by_cases hv:Vg c y
  ·rw[e1 y hv]at hg hk
   have:roomOf { c with al:=c.al++[x],ci:=c.ci++[[(c.al.length:Int)+1]] } y=roomOf c y:=by
    unfold roomOf
    rw[e1 y hv]
    congr 1
    exact List.map_congr_left fun z hz=>e2 z (I.gr.mem _ _ (I.gr.at hv) z hz)
   rw[this]
   exact N y hv g hg k hk r s hr hs ne
  ·have ey:y=(c.al.length:Int)+1:=by unfold Vg at hv;omega
   subst ey
   have:aH { c with al:=c.al++[x],ci:=c.ci++[[(c.al.length:Int)+1]] } ((c.al.length:Int)+1)=[(c.al.length:Int)+1]:=by
    simp[aH,←hl]
   rw[this]at hg
   rw[aqm.mp hg]at hr
   have hr:pW c 0 ((c.al.length:Int)+1) r:=hr
   exact absurd (gv hr) hv
 |enrol o g m=>
  obtain⟨h1,h⟩:=kJ h
  obtain⟨h2,h⟩:=lH h
  obtain⟨h3,h⟩:=Mv h
  obtain⟨h4,h⟩:=jM h
  obtain⟨h5,h⟩:=jM h
  have hb:=Hh (Ik h)
  have h:=v8 h
  cases h
  refine N.add I.gr rfl rfl h2 (fun k r hr=>?_) hb
  rcases hr with hr|hr
  ·rcases aqp.mp hr with hr|hr
   ·exact .inl (.inl hr)
   ·have:=aqm.mp hr
    obtain⟨r1,r2⟩:=r
    cases this
    exact .inr ⟨rfl,rfl⟩
  ·exact .inl (.inr hr)
 |leave o g=>
  obtain⟨h1,h⟩:=kJ h
  obtain⟨h2,h⟩:=lH h
  obtain⟨h3,h⟩:=lX h
  obtain⟨h4,h⟩:=jM h
  cases h
  exact N.sub rfl rfl fun k r hr=>hr.imp (fun z=>(aqC.mp z).1) id
 |bring o g e=>
  obtain⟨h1,h⟩:=kJ h
  obtain⟨h2,h⟩:=lH h
  obtain⟨h3,h⟩:=Mv h
  obtain⟨h4,h⟩:=lX h
  cases h
  exact N.sub rfl rfl (nobs rfl)
 |bear k=>
  obtain⟨b0,e0,h1,h2,h3,h⟩:=yU h
  cases h
  exact N.sub rfl rfl (nobs rfl)
 |cut k=>
  obtain⟨b0,h1,h2,h⟩:=yL h
  have hb:=Hh (Ik h)
  have h:=v8 h
  cases h
  obtain⟨q1,q2,q3⟩:=lF h1
  refine N.add I.gr rfl rfl (I.alive (aqn q1) h2).2.1 (fun g r hr=>?_) hb
  rcases Fx q1 hr with z|⟨_,z2,z3,z4⟩
  ·exact .inl z.all
  ·obtain⟨r1,r2⟩:=r
   exact .inr ⟨z4.symm,Prod.ext z3.symm (aqA z2).symm⟩
 |tear k p=>
  obtain⟨b0,h1,h2,h⟩:=yL h
  obtain⟨h3,h⟩:=BP h
  obtain⟨h4,h⟩:=jM h
  cases h
  obtain⟨q1,q2,q3⟩:=lF h1
  refine N.sub rfl rfl fun g r hr=>?_
  rcases Fx q1 hr with z|⟨z1,z2,z3,z4⟩
  ·exact z.all
  ·exact .inr ⟨_,b0,q1,z1,z2,z3,z4,by omega⟩
 |sell k o=>
  obtain⟨b0,e0,h1,h2,h3,h⟩:=yU h
  obtain⟨h4,h⟩:=kJ h
  obtain⟨h5,h⟩:=jM h
  obtain⟨h6,h⟩:=lX h
  have hb:=Hh (Ik h)
  have h:=v8 h
  cases h
  obtain⟨q1,q2,q3⟩:=lF h1
  refine N.add I.gr rfl rfl (I.alive (aqn q1) h2).2.1 (fun g r hr=>?_) hb
  rcases Fx q1 (Qc hr) with z|⟨_,z2,z3,z4⟩
  ·rw[show(((k - 1).toNat:Nat):Int)+1=k by omega]at z
   exact .inl z
  ·obtain⟨r1,r2⟩:=r
   exact .inr ⟨z4.symm,Prod.ext z3.symm (aqA z2).symm⟩
 |move k g=>
  obtain⟨b0,e0,h1,h2,h3,h⟩:=yU h
  obtain⟨h4,h⟩:=lH h
  obtain⟨h5,h⟩:=jM h
  obtain⟨h6,h⟩:=lX h
  have hb:=Hh (Ik h)
  have h:=v8 h
  cases h
  obtain⟨q1,q2,q3⟩:=lF h1
  refine N.add I.gr rfl rfl h4 (fun g' r hr=>?_) hb
  rcases Fx q1 (Qc hr) with z|⟨_,z2,z3,z4⟩
  ·exact .inl z.all
  ·obtain⟨r1,r2⟩:=r
   have z2:b0.sd.due=some r2:=z2
   rw[h3]at z2
   exact .inr ⟨z4.symm,Prod.ext z3.symm (aqA z2).symm⟩
 |die k=>
  obtain⟨b0,h1,h2,h⟩:=yL h
  cases h
  obtain⟨q1,q2,q3⟩:=lF h1
  refine N.sub rfl rfl fun g r hr=>?_
  rcases Fx q1 hr with z|⟨z1,_⟩
  ·exact z.all
  ·cases z1
 |wA x y=>
  obtain⟨hy,h⟩:=lH h
  obtain⟨hx,h⟩:=lH h
  obtain⟨hn',h⟩:=jM h
  split at h
  ·cases h
  next hcl=>
  cases h
  have hm:∀z∈sortI (aH c x++aH c y),Vg c z:=fun z hz=>by
   rcases aqp.mp (Dc.mp hz) with hz|hz
   ·exact I.gr.mem _ _ (I.gr.at hx) z hz
   ·exact I.gr.mem _ _ (I.gr.at hy) z hz
  intro z hz g hg k hk r s hr hs ne
  have hz:Vg c z:=hz
  have ez:aH { c with ci:=encl c.ci (sortI (aH c x++aH c y)) } z=if z∈sortI (aH c x++aH c y) then sortI (aH c x++aH c y) else aH c z:=by
   obtain⟨j,hj,rfl⟩:=qP hz
   have h1:=yF c.ci (sortI (aH c x++aH c y)) j (fun y hy=>(hm y hy).1)
   have hj':j < c.ci.length:=by rw[I.gr.len];exact hj
   have e:aH { c with ci:=encl c.ci (sortI (aH c x++aH c y)) } ((j:Int)+1)=((encl c.ci (sortI (aH c x++aH c y)))[j]?).getD []:=by simp[aH]
   rw[e,h1]
   by_cases q:(j:Int)+1∈sortI (aH c x++aH c y)
   ·rw[if_pos ⟨q,hj'⟩,if_pos q]
    rfl
   ·rw[if_neg (fun z=>q z.1),if_neg q]
    simp[aH]
  have hr:pW c 0 g r:=hr
  have hs:pW c 0 k s:=hs
  by_cases q:z∈sortI (aH c x++aH c y)
  ·rw[if_pos q]at ez
   have hle:roomOf { c with ci:=encl c.ci (sortI (aH c x++aH c y)) } z<=lu c x y:=aaP (by rw[ez];exact q) fun w hw=>by
    have e2:jG { c with ci:=encl c.ci (sortI (aH c x++aH c y)) } w=jG c w:=rfl
    rw[ez]at hw
    rw[e2]
    unfold lu
    rcases aqp.mp (Dc.mp hw) with hw|hw <;> (have:=afy hw;split <;> omega)
   rw[ez]at hg hk
   have mem:∀{g:Int} {r:Rw},g∈sortI (aH c x++aH c y)->pW c 0 g r->r∈bH (wI c x y):=fun hg hr=>by
    rw[dB]
    unfold wI
    rcases aqp.mp (Dc.mp hg) with hg|hg
    ·exact aqL _ (dB.mpr (zJ.mpr ⟨_,hg,hr⟩))
    ·exact aqY _ (dB.mpr (zJ.mpr ⟨_,hg,hr⟩))
   have:=adG hcl (mem hg hr) (mem hk hs) ne
   omega
  ·rw[if_neg q]at ez
   have:roomOf { c with ci:=encl c.ci (sortI (aH c x++aH c y)) } z=roomOf c z:=by
    unfold roomOf
    rw[ez]
    rfl
   rw[this]
   rw[ez]at hg hk
   exact N z hz g hg k hk r s hr hs ne
 |part x=>
  obtain⟨hx,h⟩:=lH h
  obtain⟨h1,h⟩:=jM h
  cases h
  have hl:∀y∈lN c x,y∈aH c x:=fun y hy=>(aqC.mp hy).1
  have hv:∀y∈lN c x,1<=y:=fun y hy=>(I.gr.mem _ _ (I.gr.at hx) y (hl y hy)).1
  refine N.finer rfl rfl rfl fun z hz=>?_
  have hself:=I.gr.self hz
  obtain⟨j,hj,rfl⟩:=qP hz
  have hj':j < c.ci.length:=by rw[I.gr.len];exact hj
  have e:aH { c with ci:=encl (encl c.ci [x]) (lN c x) } ((j:Int)+1)=((encl (encl c.ci [x]) (lN c x))[j]?).getD []:=by simp[aH]
  have e1:(encl c.ci [x]).length=c.ci.length:=vR [x] [x] c.ci
  rw[e,yF _ _ j hv,yF c.ci [x] j (fun y hy=>by rw[aqm.mp hy];exact hx.1),e1]
  by_cases q:(j:Int)+1∈lN c x
  ·rw[if_pos ⟨q,hj'⟩]
   refine⟨q,fun y hy=>?_⟩
   rw[I.gr.eq hx (hl _ q)]
   exact hl y hy
  ·rw[if_neg fun z=>q z.1]
   by_cases q2:(j:Int)+1=x
   ·rw[if_pos ⟨by simp[q2],hj'⟩]
    refine⟨by simp[q2],fun y hy=>?_⟩
    have hy:y=x:=by simpa using hy
    rw[hy,←q2]
    exact hself
   ·rw[if_neg fun z=>q2 (by simpa using z.1)]
    have:(c.ci[j]?).getD []=aH c ((j:Int)+1):=by simp[aH]
    rw[this]
    exact⟨hself,fun y hy=>hy⟩
 |pass e h'=>
  obtain⟨h1,h⟩:=kJ h
  obtain⟨h2,h⟩:=kJ h
  obtain⟨h3,h⟩:=jM h
  cases h
  refine N.map rfl rfl (fun o=>if o=e then h' else o) fun g r hr=>?_
  rcases hr with hr|⟨j,b,k1,k2,k3,k4,k5,_⟩
  ·have hr:(r.1,g,r.2)∈handed c e h':=hr
   unfold handed at hr
   rcases(Hf _ _).mp hr with z|z
   ·cases z
   ·obtain⟨w,hw,hw2⟩:=aqt.mp z
    obtain⟨w1,w2,w3⟩:=w
    unfold za at hw2
    simp only[Prod.mk.injEq]at hw2
    obtain⟨z1,z2,z3⟩:=hw2
    subst z2 z3
    exact⟨w1,.inl hw,z1.symm⟩
  ·have k1:(c.bs.map fun b=>if (b.sd.o==e)&&b.sd.al then pP b (.passed h') else b)[j]?=some b:=k1
   rw[aqs]at k1
   obtain⟨x,hx,rfl⟩:=aqR.mp k1
   cases q:((x.sd.o==e)&&x.sd.al) with
   |true=>
    rw[q]at k2 k3 k4 k5
    have q':x.sd.o=e:=by
     rw[aqg]at q
     exact eq_of_beq q.1
    have k4:h'=r.1:=k4
    exact⟨x.sd.o,.inr ⟨j,x,hx,k2,k3,rfl,k5,by omega⟩,by rw[if_pos q',k4]⟩
   |false=>
    rw[q]at k2 k3 k4 k5
    have k2:x.sd.al=true:=k2
    have q':¬x.sd.o=e:=fun z=>by simp[z,k2]at q
    have k4:x.sd.o=r.1:=k4
    exact⟨x.sd.o,.inr ⟨j,x,hx,k2,k3,rfl,k5,by omega⟩,by rw[if_neg q',k4]⟩
 |heir e g x=>
  obtain⟨h1,h⟩:=kJ h
  obtain⟨h2,h⟩:=lH h
  obtain⟨h3,h⟩:=BP h
  obtain⟨h4,h⟩:=lX h
  split at h
  ·next mk hf=>
   cases h
   have hfr:=List.find?_some hf
   refine N.add I.gr rfl rfl (lo:=0) (o:=c.count+1) (m:=mk) h2 (fun k r hr=>?_) fun r hr _=>?_
   ·rcases hr with hr|hr
    ·rcases aqp.mp hr with hr|hr
     ·exact .inl (.inl hr)
     ·have:=aqm.mp hr
      obtain⟨r1,r2⟩:=r
      cases this
      exact .inr ⟨rfl,rfl⟩
    ·exact .inl (.inr hr)
   ·unfold zu at hfr
    rw[aqz,List.any_eq_false]at hfr
    have:=hfr r (dB.mpr hr)
    simpa using this
  ·cases h
theorem nmZ:NM S9:=fun x hx=>by
 have h:1<=x/\x<=((0:Nat):Int):=hx
 omega
theorem VL.ok{n:Nat}{c:aK}(h:VL n c):n<=200->Inv n n c/\NM c:=by
 induction h with
 |nil=>exact fun _=>⟨akt,nmZ⟩
 | @step n c d r hf ih=>
  intro hn
  obtain⟨I,N⟩:=ih (by omega)
  refine⟨(Zj I d (by omega)).mono (aqF _) (by have:=aaV d;omega),?_⟩
  unfold rN
  cases e:cY c d with
  |ok _ c'=>exact agV I (by omega) N e
  |no _=>exact N
 |le _ h ih=>
  intro hn
  obtain⟨I,N⟩:=ih (by omega)
  exact⟨I.mono h h,N⟩
@[simp]theorem aoz (c:aK):aV (jH c) (.int 0)=.ok (lI c.own):=rfl
@[simp]theorem aom (c:aK):aV (jH c) (.int 1)=.ok (.list ((List.range c.al.length).map (Bb c))):=rfl
@[simp]theorem apJ (c:aK):aV (jH c) (.int 2)=.ok (.list (c.held.map gY)):=rfl
@[simp]theorem aoO (c:aK):aV (jH c) (.int 3)=.ok (.list (c.bs.map jW)):=rfl
theorem eq_nil(xs:List Dat)(h:mU 11 xs=true):cC (.list xs) (.list [])=.ok (.bool xs.isEmpty)/\u9 (.list xs) (.list [])=.ok (.bool (!xs.isEmpty)):=by
 have e:eqB (.list xs) (.list [])=.ok xs.isEmpty:=by
  show Out.when (okd 12 (.list xs)&&okd 12 (.list [])) (.ok (PyData.eqv (.list xs) (.list [])))=_
  rw[okd,okd,h,ah8]
  cases xs with
  |nil=>rfl
  |cons a r=>rw[agT];rfl
 exact⟨by unfold cC;rw[e];rfl,by unfold u9;rw[e];rfl⟩
@[simp]theorem aon (b:dU):aV (jW b) (.int 0)=.ok (.int b.sd.o):=rfl
@[simp]theorem anQ (b:dU):aV (jW b) (.int 1)=.ok (.int b.sd.g):=rfl
@[simp]theorem anS (b:dU):aV (jW b) (.int 2)=.ok (qG b.sd.due):=rfl
@[simp]theorem aov (b:dU):aV (jW b) (.int 3)=.ok (aM b.sd.ear):=rfl
@[simp]theorem aoL (b:dU):aV (jW b) (.int 4)=.ok (.bool b.sd.al):=rfl
@[simp]theorem aoJ (b:dU):aV (jW b) (.int 5)=.ok (.int b.mo):=rfl
@[simp]theorem ao9 (b:dU):aV (jW b) (.int 6)=.ok (.tuple (b.fi.dat::b.en.map En.dat)):=rfl
theorem abu{c:aK}{x:Int}(h:Vg c x):atI ((List.range c.al.length).map (Bb c)) (x - 1)=some (.tuple [.int (jG c x),aM (aH c x)]):=by
 obtain⟨k,hk,rfl⟩:=qP h
 rw[show(k:Int)+1 - 1=(k:Int) by omega,aed]
 simp[hk,Bb]
theorem adw(neg:Bool)(y:Int)(l:List Int)(h:l.length<=1000):inD neg (.int y) (aM l)=.ok (.bool (neg ^^ decide (y∈l))):=by
 have:=any_ints y l
 have h2:(Jj (PyData.int y)&&l.all (Jj ∘ PyData.int))=true:=by simp[Jj,aqB]
 simp[inD,inB,this,h2]
theorem abl(M:Mo)(c:aK)(i:cV c)(x:Int)(h:Vg c x):zV M [jH c,.int x]=.ok (.int (roomOf c x)):=by
 have h1:=abu h
 have hc:=i.at h
 have hl:(aH c x).length<=50000:=by have:=i.clen hc;omega
 have hne:(aH c x).map (jG c)≠[]:=fun z=>by
  have:=i.self h
  rw[List.map_eq_nil_iff.mp z]at this
  cases this
 have key:=fJ (tg:=aG 2) (te:=aA aV (aA aV (aA aV (ao 0) (qC (.int 1))) (aA mK (ao 2) (qC (.int 1)))) (qC (.int 0))) (M:=M) (ρ:=[some (.dat (jH c)),some (.dat (.int x)),none]) PyData.int (fun y=>.int (jG c y)) (aH c x) fun y hy=>⟨[some (.dat (jH c)),some (.dat (.int x)),some (.dat (.int y))],by simp,by
  have:=abu (i.mem _ _ hc y hy)
  simp[this]⟩
 have hm:=maxD_ints hne
 rw[aqK]at hm
 simp[aqB]at hm
 simp[zV,Ko,h1,key,hl,hm,roomOf]
theorem up_eq:∀{S T:List Rw},Ear.Fd S->Ear.Fd T->(∀r,r∈S↔r∈T)->S=T
 |[],[],_,_,_=>rfl
 |[],t::T,_,_,m=>by have:=(m t).mpr aql;cases this
 |s::S,[],_,_,m=>by have:=(m s).mp aql;cases this
 |s::S,t::T,hs,ht,m=>by
  have hs':=List.pairwise_cons.mp hs
  have ht':=List.pairwise_cons.mp ht
  have e:s=t:=by
   rcases aqv.mp ((m s).mp aql) with h1|h1
   ·exact h1
   rcases aqv.mp ((m t).mpr aql) with h2|h2
   ·exact h2.symm
   exact absurd (List.lt_trans (ht'.1 s h1) (hs'.1 t h2)) (List.lt_irrefl _)
  subst e
  congr 1
  refine up_eq hs'.2 ht'.2 fun r=>⟨fun h=>?_,fun h=>?_⟩
  ·rcases aqv.mp ((m r).mp (aqk _ h)) with z|z
   ·subst z
    exact absurd (hs'.1 _ h) (List.lt_irrefl _)
   ·exact z
  ·rcases aqv.mp ((m r).mpr (aqk _ h)) with z|z
   ·subst z
    exact absurd (ht'.1 _ h) (List.lt_irrefl _)
   ·exact z
theorem ah9(r s:Rw):u9 (Ear.rD r) (Ear.rD s)=.ok (.bool (!decide (r=s))):=by
 have e:PyData.eqv (Ear.rD r) (Ear.rD s)=decide (r=s):=by
  rw[aq7]
  simp[Ear.rD,Ear.dT,Prod.ext_iff]
 have:eqB (Ear.rD r) (Ear.rD s)=.ok (decide (r=s)):=by
  show Out.when (okd 12 (Ear.rD r)&&okd 12 (Ear.rD s)) (.ok (PyData.eqv (Ear.rD r) (Ear.rD s)))=_
  rw[JG 10,JG 10,e]
  rfl
 unfold u9
 rw[this]
 rfl
theorem atI_last{α:Type}(l:List α)(a:α):atI (l++[a]) (-1)=some a:=by
 unfold atI ixN
 have:(-1+((l.length:Int)+1)).toNat=l.length:=by omega
 have h2:(1:Int)<=l.length+1:=by omega
 simp[this,h2]
def qH(acc:List Rw)(r:Rw):List Rw:=if acc.getLast?=some r then acc else acc++[r]
theorem acY(M:Mo)(x0:Option Cell)(acc:List Rw)(r:Rw)(h:acc.length<=5000):yK M [x0,some (.mut (acc.map Ear.rD)),some (.dat (Ear.rD r))]=.next [x0,some (.mut ((qH acc r).map Ear.rD)),some (.dat (Ear.rD r))] M:=by
 have h1:=(eq_nil (acc.map Ear.rD) (aaN 9 acc)).1
 have h0:acc.length < 100000:=by omega
 rcases List.eq_nil_or_concat acc with rfl|⟨l,a,rfl⟩
 ·simp at h1
  simp[yK,h1,qH]
 ·have h2:((l++[a]).map Ear.rD).isEmpty=false:=by simp
  rw[List.concat_eq_append]at *
  rw[h2]at h1
  rw[List.map_append]at h1 ⊢
  have h3:=ah9 a r
  have h4:=atI_last (l.map Ear.rD) (Ear.rD a)
  simp at h0
  by_cases e:a=r
  ·subst e
   simp at h1 h4 h3
   simp[yK,h1,h4,h3,qH]
  ·simp[e]at h1 h4 h3
   simp[yK,h1,h4,h3,qH,e,h0]
theorem U3(M:Mo)(x0:Option Cell):∀(R acc:List Rw) (x2:Option Cell),acc.length+R.length<=5000->∃y2,fB (aG 2) yK (R.map Ear.rD) M [x0,some (.mut (acc.map Ear.rD)),x2]=.next [x0,some (.mut ((R.foldl qH acc).map Ear.rD)),y2] M
 |[],acc,x2,_=>⟨x2,rfl⟩
 |r::R,acc,x2,h=>by
  rw[aqu]at h
  have hl:(qH acc r).length<=acc.length+1:=by
   unfold qH
   split <;> simp
  obtain⟨y2,h2⟩:=U3 M x0 R (qH acc r) (some (.dat (Ear.rD r))) (by omega)
  exact⟨y2,by rw[aqj,fK (ρ1:=[x0,some (.mut (acc.map Ear.rD)),some (.dat (Ear.rD r))]) (by simp) (acY M x0 acc r (by omega))];exact h2⟩
theorem RX:∀(R acc:List Rw),Ear.Fd acc->R.Pairwise (fun a b=>Ear.rk a<=Ear.rk b)->(∀a∈acc,∀r∈R,Ear.rk a<=Ear.rk r)->Ear.Fd (R.foldl qH acc)/\∀x,x∈R.foldl qH acc↔x∈acc∨x∈R
 |[],acc,ha,_,_=>⟨ha,by simp⟩
 |r::R,acc,ha,hR,hb=>by
  have hR':=List.pairwise_cons.mp hR
  rw[aq8]
  by_cases e:acc.getLast?=some r
  ·have e1:qH acc r=acc:=by rw[qH,if_pos e]
   rw[e1]
   obtain⟨k1,k2⟩:=RX R acc ha hR'.2 fun a m x hx=>hb a m x (aqk _ hx)
   have mr:r∈acc:=List.mem_of_getLast? e
   refine⟨k1,fun x=>?_⟩
   rw[k2,aqv]
   constructor
   ·rintro(h|h)
    ·exact .inl h
    ·exact .inr (.inr h)
   ·rintro(h|h|h)
    ·exact .inl h
    ·subst h;exact .inl mr
    ·exact .inr h
  ·have e1:qH acc r=acc++[r]:=by rw[qH,if_neg e]
   rw[e1]
   have hup:Ear.Fd (acc++[r]):=by
    rcases List.eq_nil_or_concat acc with rfl|⟨l,a,rfl⟩
    ·exact List.pairwise_singleton _ _
    ·rw[List.concat_eq_append]at *
     have ne:a≠r:=fun z=>e (by simp[z])
     have lt:Ear.rk a < Ear.rk r:=by
      have:=hb a (by simp) r aql
      by_cases c:Ear.rk a < Ear.rk r
      ·exact c
      ·exact absurd (Ear.Zm (List.le_antisymm this (List.not_lt.mp c))) ne
     refine List.pairwise_append.mpr ⟨ha,List.pairwise_singleton _ _,fun x hx y hy=>?_⟩
     rw[aqm.mp hy]
     rcases aqp.mp hx with hx|hx
     ·exact List.lt_trans ((List.pairwise_append.mp ha).2.2 x hx a (by simp)) lt
     ·rw[aqm.mp hx]
      exact lt
   obtain⟨k1,k2⟩:=RX R (acc++[r]) hup hR'.2 fun a m x hx=>by
    rcases aqp.mp m with m|m
    ·exact hb a m x (aqk _ hx)
    ·rw[aqm.mp m]
     exact hR'.1 x hx
   refine⟨k1,fun x=>?_⟩
   rw[k2,aqp,aqm,aqv,or_assoc]
theorem aeU(R:List Rw):(oW R).Pairwise fun a b=>Ear.rk a<=Ear.rk b:=by
 unfold oW
 have srt:=ard (le:=fun a b:Ear.Rw=>decide (Ear.rk a<=Ear.rk b)) (fun a b c k1 k2=>by rw[decide_eq_true_eq]at *;exact List.le_trans k1 k2) (fun a b=>by rw[arn,decide_eq_true_eq,decide_eq_true_eq];exact List.le_total _ _) R
 exact srt.imp fun h=>by simpa using h
theorem aa6(R:List Rw):zA (.list (R.map Ear.rD))=.ok (.list ((oW R).map Ear.rD)):=by
 cases R with
 |nil=>simp[zA,intsOf,sortI,oW]
 |cons r R=>
  have h1:intsOf ((r::R).map Ear.rD)=none:=by simp[intsOf,Ear.rD]
  show(match intsOf ((r::R).map Ear.rD) with
   |some l=>Out.ok (PyData.list ((sortI l).map PyData.int))
   |none=>match Bq ((r::R).map Ear.rD) with
    |some R=>.ok (.list ((oW R).map Ear.rD))
    |none=>.bad)=_
  rw[h1,JX]
theorem ag8(M:Mo)(R:List Rw)(h:R.length<=5000):Kw M [.list (R.map Ear.rD)]=.ok (.list ((bH R).map Ear.rD)):=by
 have hl:(oW R).length=R.length:=by simp[oW]
 obtain⟨y2,h1⟩:=U3 M (some (.dat (.list (R.map Ear.rD)))) (oW R) [] none (by simp;omega)
 have h2:=RX (oW R) [] List.Pairwise.nil (aeU R) (by simp)
 have e:(oW R).foldl qH []=bH R:=up_eq h2.1 (Oh R) fun x=>by
  rw[h2.2,dB]
  simp[oW]
 rw[e]at h1
 simp only[aq3]at h1
 simp[Kw,YT,aa6,h1]
theorem ach(M:Mo)(x0 x2:Option Cell)(x6 x7 x8:Option Cell)(nD:Dat)(near:List Int)(hn:∀y,inD false (.int y) nD=.ok (.bool (decide (y∈near))))(lo:Int)(acc:List Rw)(i:Int)(b:dU)(h:acc.length<=5000) :
  lW M [x0,some (.dat nD),some (.dat (.int lo)),some (.mut (acc.map Ear.rD)),some (.dat (.int i)),some (.dat (jW b)),x6,x7,x8]=.next [x0,some (.dat nD),some (.dat (.int lo)),some (.mut ((acc++if (b.sd.due.isSome&&!((i+1)==lo))&&(decide (b.sd.g∈near)&&b.sd.al) then[(b.sd.o,b.sd.due.getD [])] else[]).map Ear.rD)),some (.dat (.int i)),some (.dat (jW b)),x6,x7,x8] M:=by
 have h0:acc.length < 100000:=by omega
 have h1:=hn b.sd.g
 cases e1:b.sd.al with
 |false=>simp[lW,e1]
 |true=>
  cases e2:b.sd.due with
  |none=>simp[lW,e1,e2,qG,lM]
  |some e=>
   by_cases e3:b.sd.g∈near
   ·by_cases e4:i+1=lo
    ·simp[lW,e1,e2,qG,lM,h1,e3,e4]
    ·simp[lW,e1,e2,qG,lM,h1,e3,e4,h0,Ear.rD,Ear.dT]
   ·simp[lW,e1,e2,qG,lM,h1,e3]
theorem VP(M:Mo)(x0:Option Cell)(x6 x7 x8:Option Cell)(nD:Dat)(near:List Int)(hn:∀y,inD false (.int y) nD=.ok (.bool (decide (y∈near))))(lo:Int):∀(xs:List (Nat×dU)) (acc:List Rw) (x4 x5:Option Cell),acc.length+xs.length<=5000->∃y4 y5,
  fB (bA [4,5]) lW (xs.map fun x=>.tuple [.int (x.1:Int),jW x.2]) M [x0,some (.dat nD),some (.dat (.int lo)),some (.mut (acc.map Ear.rD)),x4,x5,x6,x7,x8]=.next [x0,some (.dat nD),some (.dat (.int lo)),some (.mut ((acc++((xs.filter fun x=>(x.2.sd.due.isSome&&!(((x.1:Int)+1)==lo))&&(decide (x.2.sd.g∈near)&&x.2.sd.al)).map fun x=>(x.2.sd.o,x.2.sd.due.getD []))).map Ear.rD)),y4,y5,x6,x7,x8] M
 |[],acc,x4,x5,_=>⟨x4,x5,by simp[fB]⟩
 |x::xs,acc,x4,x5,h=>by
  rw[aqu]at h
  have hs:=ach M x0 (some (.dat (.int lo))) x6 x7 x8 nD near hn lo acc (x.1:Int) x.2 (by omega)
  generalize hz:(if (x.2.sd.due.isSome&&!(((x.1:Int)+1)==lo))&&(decide (x.2.sd.g∈near)&&x.2.sd.al) then[(x.2.sd.o,x.2.sd.due.getD [])] else[])=z at hs
  have hl:z.length<=1:=by rw[←hz];split <;> simp
  obtain⟨y4,y5,h2⟩:=VP M x0 x6 x7 x8 nD near hn lo xs (acc++z) (some (.dat (.int x.1))) (some (.dat (jW x.2))) (by rw[aqS];omega)
  refine⟨y4,y5,?_⟩
  rw[aqj,fK (ρ1:=[x0,some (.dat nD),some (.dat (.int lo)),some (.mut (acc.map Ear.rD)),some (.dat (.int x.1)),some (.dat (jW x.2)),x6,x7,x8]) (by simp) hs,h2,←hz]
  congr 6
  rw[aqU]
  split <;> simp
theorem acs(c:aK):kW 0 (c.bs.map jW)=(c.bs.mapIdx fun i b=>(i,b)).map fun x=>.tuple [.int (x.1:Int),jW x.2]:=by
 unfold kW
 apply aqE
 intro j
 simp only[aqs,aqT]
 cases c.bs[j]? <;> simp
theorem Q7(M:Mo)(c:aK)(hh:c.held.length<=2000)(hb:c.bs.length<=2000)(nD:Dat)(near:List Int)(hn:∀y,inD false (.int y) nD=.ok (.bool (decide (y∈near))))(lo:Int):pZ M [jH c,nD,.int lo]=.ok (.list ((bH (inR c near++BR c lo near)).map Ear.rD)):=by
 have k1:=gA (tg:=bA [6,7,8]) (tt:=bx (aA (inD false) (ao 7) (ao 1))) (te:=bJ (ak (aq 6) (ak (aq 8) au))) (M:=M) (ρ:=[some (.dat (jH c)),some (.dat nD),some (.dat (.int lo)),none,none,none,none,none,none]) gY (fun r=>decide (r.2.1∈near)) (fun r=>Ear.rD (r.1,r.2.2)) c.held fun r _=>⟨[some (.dat (jH c)),some (.dat nD),some (.dat (.int lo)),none,none,none,some (.dat (.int r.1)),some (.dat (.int r.2.1)),some (.dat (aM r.2.2))],by simp[gY],by simp[hn],fun _=>by simp[Ear.rD,Ear.dT]⟩
 have e1:((c.held.filter fun r=>decide (r.2.1∈near)).map fun r=>Ear.rD (r.1,r.2.2))=(inR c near).map Ear.rD:=by simp[inR,aqB]
 rw[e1]at k1
 have l1:(inR c near).length<=2000:=by
  unfold inR
  rw[aqr]
  exact aqH (aqw _ _) hh
 obtain⟨y4,y5,k2⟩:=VP M (some (.dat (jH c))) none none none nD near hn lo (c.bs.mapIdx fun i b=>(i,b)) (inR c near) none none (by simp;omega)
 rw[←acs]at k2
 have e2:((c.bs.mapIdx fun i b=>(i,b)).filter fun x=>(x.2.sd.due.isSome&&!(((x.1:Int)+1)==lo))&&(decide (x.2.sd.g∈near)&&x.2.sd.al)).map (fun x=>(x.2.sd.o,x.2.sd.due.getD []))=BR c lo near:=rfl
 rw[e2]at k2
 have l2:(BR c lo near).length<=2000:=by
  unfold BR
  rw[aqr]
  exact aqH (aqw _ _) (by simp;omega)
 have k3:=ag8 M (inR c near++BR c lo near) (by simp;omega)
 have h5:c.held.length<=50000:=by omega
 simp[-List.map_append,pZ,KN,k1,h5,k2,k3]
theorem Vs:∀(l:List (Int×Int)),(l.map fun p=>if p.2 - p.1 > 0 then p.2 - p.1 else 0).sum=((l.filter fun p=>decide (p.1 < p.2)).map fun p=>p.2 - p.1).sum
 |[]=>rfl
 |p::l=>by
  rw[aqj,List.sum_cons,Vs l,aqU]
  by_cases h:p.1 < p.2
  ·rw[if_pos (by omega),if_pos (by simpa using h),aqj,List.sum_cons]
  ·rw[if_neg (by omega),if_neg (by simpa using h)]
   omega
theorem YZ(M:Mo)(x y:List Int)(h:x.length<=1000):BL M [aM x,aM y]=.ok (.int (uX x y)):=by
 have key:=fJ (tg:=bA [2,3]) (te:=aA qD (qC (.int 0)) (aA mK (ao 3) (ao 2))) (M:=M) (ρ:=[some (.dat (aM x)),some (.dat (aM y)),none,none]) pD (fun p=>.int (if p.2 - p.1 > 0 then p.2 - p.1 else 0)) (x.zip y) fun p _=>⟨[some (.dat (aM x)),some (.dat (aM y)),some (.dat (.int p.1)),some (.dat (.int p.2))],by simp[pD],by simp⟩
 have hs:=U4 ((x.zip y).map fun p=>if p.2 - p.1 > 0 then p.2 - p.1 else 0)
 rw[Vs,aqK]at hs
 have hz2:min x.length y.length<=50000:=by omega
 simp[BL,R9,Cu,key,hz2]
 simp[aqB]at hs
 simp[hs,uX]
theorem akr(M:Mo)(x y:List Int)(h:x.length<=1000)(h2:y.length<=1000):Pu M [aM x,aM y]=.ok (.int (dG x y)):=by
 simp[Pu,abd,YZ M x y h,YZ M y x h2,dG]
theorem abE{T:List Rw}{room:Int}(h:∀r∈T,∀s∈T,r.1≠s.1->room < dG r.2 s.2):gJ T room=[]:=by
 unfold gJ
 rw[List.flatMap_eq_nil_iff]
 intro x hx
 obtain⟨i,hi,rfl⟩:=List.mem_mapIdx.mp hx
 rw[List.map_eq_nil_iff,List.filter_eq_nil_iff]
 intro s hs
 by_cases q:T[i].1=s.1
 ·simp[q]
 ·have:=h _ (aqQ hi) s (List.mem_of_mem_drop hs) q
  have:¬dG T[i].2 s.2<=room:=by omega
  simp[this]
theorem NM.stand{c:aK}(N:NM c){x:Int}(hx:Vg c x):∀r∈cJ c 0 x,∀s∈cJ c 0 x,r.1≠s.1->roomOf c x < dG r.2 s.2:=fun r hr s hs ne=>by
 obtain⟨g,hg,a⟩:=zJ.mp hr
 obtain⟨k,hk,b⟩:=zJ.mp hs
 exact N x hx g hg k hk r s a b ne
theorem aap(M:Mo)(x0 x1 x2 x4:Option Cell)(room:Int)(r:Rw)(hr:r.2.length<=1000):∀(T:List Rw) (x6:Option Cell),(∀s∈T,s.2.length<=1000/\(r.1≠s.1->room < dG r.2 s.2))->∃y6,fB (aG 6) CT (T.map Ear.rD) M [x0,x1,x2,some (.dat (.int room)),x4,some (.dat (Ear.rD r)),x6]=.next [x0,x1,x2,some (.dat (.int room)),x4,some (.dat (Ear.rD r)),y6] M
 |[],x6,_=>⟨x6,rfl⟩
 |s::T,x6,h=>by
  obtain⟨hs,hne⟩:=h s aql
  have h1:=akr M r.2 s.2 hr hs
  have i0:∀r:Rw,aV (Ear.rD r) (.int 0)=.ok (.int r.1):=fun _=>rfl
  have i1:∀r:Rw,aV (Ear.rD r) (.int 1)=.ok (aM r.2):=fun _=>rfl
  have hb:CT M [x0,x1,x2,some (.dat (.int room)),x4,some (.dat (Ear.rD r)),some (.dat (Ear.rD s))]=.next [x0,x1,x2,some (.dat (.int room)),x4,some (.dat (Ear.rD r)),some (.dat (Ear.rD s))] M:=by
   by_cases q:r.1=s.1
   ·simp[CT,i0,q]
   ·have:¬dG r.2 s.2<=room:=by have:=hne q;omega
    simp[CT,i0,i1,q,h1,this]
  obtain⟨y6,h2⟩:=aap M x0 x1 x2 x4 room r hr T (some (.dat (Ear.rD s))) fun s hs=>h s (aqk _ hs)
  exact⟨y6,by rw[aqj,fK (ρ1:=[x0,x1,x2,some (.dat (.int room)),x4,some (.dat (Ear.rD r)),some (.dat (Ear.rD s))]) (by simp) hb];exact h2⟩
theorem Xh(M:Mo)(x0 x1:Option Cell)(room:Int)(T:List Rw)(hT:∀r∈T,r.2.length<=1000/\∀s∈T,r.1≠s.1->room < dG r.2 s.2):∀(xs:List (Nat×Rw)) (x4 x5 x6:Option Cell),(∀x∈xs,x.2∈T)->∃y4 y5 y6,fB (bA [4,5]) Hl (xs.map fun x=>.tuple [.int (x.1:Int),Ear.rD x.2]) M [x0,x1,some (.dat (.list (T.map Ear.rD))),some (.dat (.int room)),x4,x5,x6]=.next [x0,x1,some (.dat (.list (T.map Ear.rD))),some (.dat (.int room)),y4,y5,y6] M
 |[],x4,x5,x6,_=>⟨x4,x5,x6,rfl⟩
 |x::xs,x4,x5,x6,h=>by
  have mx:=h x aql
  obtain⟨z6,h1⟩:=aap M x0 x1 (some (.dat (.list (T.map Ear.rD)))) (some (.dat (.int (x.1:Int)))) room x.2 (hT _ mx).1 (T.drop (x.1+1)) x6 fun s hs=>⟨(hT s (List.mem_of_mem_drop hs)).1,(hT _ mx).2 s (List.mem_of_mem_drop hs)⟩
  have hc:Rf.cutD (T.map Ear.rD) (some ((x.1:Int)+1)) none=(T.drop (x.1+1)).map Ear.rD:=by
   rw[show(x.1:Int)+1=((x.1+1:Nat):Int) by omega,O5,List.map_drop]
  have hb:Hl M [x0,x1,some (.dat (.list (T.map Ear.rD))),some (.dat (.int room)),some (.dat (.int (x.1:Int))),some (.dat (Ear.rD x.2)),x6]=.next [x0,x1,some (.dat (.list (T.map Ear.rD))),some (.dat (.int room)),some (.dat (.int (x.1:Int))),some (.dat (Ear.rD x.2)),z6] M:=by
   simp[Hl,hc,h1,-List.map_drop]
  obtain⟨y4,y5,y6,h2⟩:=Xh M x0 x1 room T hT xs (some (.dat (.int (x.1:Int)))) (some (.dat (Ear.rD x.2))) z6 fun y hy=>h y (aqk _ hy)
  exact⟨y4,y5,y6,by rw[aqj,fK (ρ1:=[x0,x1,some (.dat (.list (T.map Ear.rD))),some (.dat (.int room)),some (.dat (.int (x.1:Int))),some (.dat (Ear.rD x.2)),x6]) (by simp) hb];exact h2⟩
theorem ag4(M:Mo){n s:Nat}(c:aK)(I:Inv n s c)(N:NM c)(hs:s<=76)(x:Int)(h:Vg c x):Kr M [jH c,.int x]=.ok (.bool true):=by
 have f0:=I.hL
 have h1:=abu h
 have hc:=I.gr.at h
 have hl:(aH c x).length<=1000:=by have:=I.gr.clen hc;omega
 have h2:=Q7 M c (by omega) (by omega) (aM (aH c x)) (aH c x) (fun y=>by have:=adw false y _ hl;simpa using this) 0
 have h4:=abl M c I.gr x h
 have e1:inR c (aH c x)++BR c 0 (aH c x)=cJ c 0 x:=rfl
 rw[e1]at h2
 have hen:kW 0 ((bH (cJ c 0 x)).map Ear.rD)=((bH (cJ c 0 x)).mapIdx fun i r=>(i,r)).map fun x=>.tuple [.int (x.1:Int),Ear.rD x.2]:=by
  unfold kW
  apply aqE
  intro j
  simp only[aqs,aqT]
  cases(bH (cJ c 0 x))[j]? <;> simp
 obtain⟨y4,y5,y6,h3⟩:=Xh M (some (.dat (jH c))) (some (.dat (.int x))) (roomOf c x) (bH (cJ c 0 x)) (fun r hr=>⟨by rw[v7 I.Le r hr];decide,fun s hs=>N.stand h r (dB.mp hr) s (dB.mp hs)⟩) ((bH (cJ c 0 x)).mapIdx fun i r=>(i,r)) none none none fun y hy=>by
  obtain⟨i,hi,rfl⟩:=List.mem_mapIdx.mp hy
  exact aqQ hi
 rw[←hen]at h3
 simp[Kr,YK,h1,h2,h4,h3]
theorem aen{M:Mo}{L:Lay}{n s:Nat}{c:aK}(hL:L.c=0)(a:At M L c)(I:Inv n s c)(N:NM c)(hs:s<=76)(hn:n<=199)(x0:Option Cell)(k:Nat)(hk:k < c.al.length):Fe M [x0,some (.dat (ob 0)),some (.dat (jH c)),some (.dat (.int (k:Int))),some (.dat (Bb c k))]=.next [x0,some (.dat (ob 0)),some (.dat (jH c)),some (.dat (.int (k:Int))),some (.dat (Bb c k))] M:=by
 have f0:=I.hL
 have v:Vg c ((k:Int)+1):=⟨by omega,by omega⟩
 have hc:=I.gr.at v
 have hl:(aH c ((k:Int)+1)).length<=1000:=by have:=I.gr.clen hc;omega
 have hca:=a.hc
 rw[hL]at hca
 have h1:=ag4 M c I N hs _ v
 have h2:=aai a I hs (by omega) ((k:Int)+1) ((k:Int)+1) v v
 have e0:gJ (bH (wI c ((k:Int)+1) ((k:Int)+1))) (lu c ((k:Int)+1) ((k:Int)+1))=[]:=abE fun r hr s hs ne=>by
  have mem:∀r,r∈bH (wI c ((k:Int)+1) ((k:Int)+1))->r∈cJ c 0 ((k:Int)+1):=fun r hr=>by
   rcases aqp.mp (dB.mp hr) with z|z <;> exact dB.mp z
  have e:lu c ((k:Int)+1) ((k:Int)+1)=roomOf c ((k:Int)+1):=by simp[lu]
  rw[e]
  exact N.stand v r (mem r hr) s (mem s hs) ne
 rw[e0]at h2
 have h3:=uU a I.gr (by omega) (by omega) ((k:Int)+1) (by rw[iU a];exact aqH (I.few fun r hr=>oO hr) hs)
 rw[if_pos v,iU a]at h3
 have h4:=Q7 M c (by omega) (by omega) (aM (aH c ((k:Int)+1))) (aH c ((k:Int)+1)) (fun y=>by have:=adw false y _ hl;simpa using this) 0
 have e1:inR c (aH c ((k:Int)+1))++BR c 0 (aH c ((k:Int)+1))=cJ c 0 ((k:Int)+1):=rfl
 rw[e1]at h4
 rw[hL]at h2 h3
 have k1:mF 10 M [.list [],.list []]=.ok (.bool true):=aaF M 9 _ (by simp[lk,Rc])
 have k2:mF 10 M [.list ((bH (cJ c 0 ((k:Int)+1))).map Ear.rD),.list ((bH (cJ c 0 ((k:Int)+1))).map Ear.rD)]=.ok (.bool true):=aaF M 9 _ (by
  rw[lk,Fj]
  intro d hd
  obtain⟨r,_,rfl⟩:=aqt.mp hd
  simp[Ear.rD,Ear.dT,lk,Rc])
 have sf:=I.gr.self v
 have e2:Bb c k=.tuple [.int (jG c ((k:Int)+1)),aM (aH c ((k:Int)+1))]:=rfl
 cases hz:aH c ((k:Int)+1) with
 |nil=>rw[hz]at sf;cases sf
 |cons y ys=>
  rw[hz]at e2 h4
  simp only[aq3]at h2
  by_cases q:y=(k:Int)+1
  ·have e3:Bb c k=.tuple [.int (jG c ((k:Int)+1)),.tuple (.int ((k:Int)+1)::ys.map PyData.int)]:=by rw[e2,q];rfl
   rw[q]at h4
   have h4:pZ M [jH c,.tuple (.int ((k:Int)+1)::ys.map PyData.int),.int 0]=_:=h4
   rw[e3]
   simp[Fe,h1,hca,aO,fP,bO,h2,k1,h3,h4,k2]
  ·have e3:Bb c k=.tuple [.int (jG c ((k:Int)+1)),.tuple (.int y::ys.map PyData.int)]:=by rw[e2];rfl
   rw[e3]
   simp[Fe,q]
theorem Zh{M:Mo}{L:Lay}{n s:Nat}{c:aK}(hL:L.c=0)(a:At M L c)(I:Inv n s c)(N:NM c)(hs:s<=76)(hn:n<=199)(x0:Option Cell):∀(ks:List Nat) (x3 x4:Option Cell),(∀k∈ks,k < c.al.length)->∃y3 y4,fB (bA [3,4]) Fe (ks.map fun(k:Nat)=>.tuple [.int (k:Int),Bb c k]) M [x0,some (.dat (ob 0)),some (.dat (jH c)),x3,x4]=.next [x0,some (.dat (ob 0)),some (.dat (jH c)),y3,y4] M
 |[],x3,x4,_=>⟨x3,x4,rfl⟩
 |k::ks,x3,x4,h=>by
  have h1:=aen hL a I N hs hn x0 k (h k aql)
  obtain⟨y3,y4,h2⟩:=Zh hL a I N hs hn x0 ks (some (.dat (.int (k:Int)))) (some (.dat (Bb c k))) fun j hj=>h j (aqk _ hj)
  exact⟨y3,y4,by rw[aqj,fK (ρ1:=[x0,some (.dat (ob 0)),some (.dat (jH c)),some (.dat (.int (k:Int))),some (.dat (Bb c k))]) (by simp) h1];exact h2⟩
theorem aeE(ns:List Int)(h:ns.length<=63):∃M,W4 [] [.list (ns.map PyData.int)]=.ok (.bool true) M:=by
 obtain⟨M0,L,hL,h0,a0⟩:=ama
 have cell0:FJ M0 [lI ns,.int 0]=_:=agC M0 ns 0
 have hl:=afV ns 1 44 (by decide)
 generalize hcl:Rf.cutD ns (some ((1:Nat):Int)) (some ((44:Nat):Int))=cells at hl
 have hcl2:Rf.cutD (ns.map PyData.int) (some 1) (some 44)=cells.map PyData.int:=by rw[ahh];exact congrArg _ hcl
 obtain⟨c,M1,L1,hL1,h1,N1⟩:=ahD a0 cells (by omega) (if ns.getD 0 0 < 0 then -(ns.getD 0 0) else ns.getD 0 0)
 have hc1:=N1.at_.hc
 have l1:=N1.look (by decide)
 have hen:kW 0 ((List.range c.al.length).map (Bb c))=(List.range c.al.length).map fun(k:Nat)=>.tuple [.int (k:Int),Bb c k]:=by
  unfold kW
  apply aqE
  intro j
  by_cases h:j < c.al.length <;> simp[h]
 obtain⟨y3,y4,h2⟩:=Zh (hL1.trans hL) N1.at_ N1.inv (N1.rch.ok (by decide)).2 (by decide) (by decide) (some (.dat (lI ns))) (List.range c.al.length) none none fun k hk=>List.mem_range.mp hk
 rw[←hen]at h2
 rw[hL1,hL]at l1 hc1
 rw[hL]at h1
 generalize ns.getD 0 0=z0 at *
 refine⟨M1,?_⟩
 simp[W4,abq,h0,cell0,hcl2,h1,hc1,aO,xP,l1,h2]
end Pr
open PySem PySem.W PySem.Calls PyProof.Rows
set_option maxHeartbeats 0 in
theorem PySem.Challenge.cw_earmarks_k51_whole_no_two_meet_holds : PySem.Challenge.rw_earmarks_k51_whole_no_two_meet.Holds := by
 w_on;o_law
 refine HandSHeadRun.head_any (r:=OpenLaw.row PySem.Challenge.rw_earmarks_k51_whole_no_two_meet) (q:=view (OpenLaw.row PySem.Challenge.rw_earmarks_k51_whole_no_two_meet).prog [88]) (H:=Pr.hkE) (ob:=Pr.obE) (M:=40000) (loose:=Pr.nm) (d:=HandSHeadRun.topDef (OpenLaw.row PySem.Challenge.rw_earmarks_k51_whole_no_two_meet).prog 88) (kwd:=[]) Pr.ai1 (by kernel_rfl) (fun s=>by kernel_rfl) Pr.run (by kernel_rfl) (by kernel_rfl) (by kernel_rfl) (by rfl) (by first | assumption | decide +kernel) (by decide +kernel) ⟨rfl,rfl,rfl,rfl,rfl,by decide +kernel⟩ ?hw ?hc
 case hw=>w_witness2
 case hc=>
  refine L2.walk_ofE (l:=PySem.Challenge.rw_earmarks_k51_whole_no_two_meet) (n:=63) (k:=13) (x:="_law_script") (CX:=L2.CX0) rfl (by decide) (by kernel_rfl) ⟨rfl,by decide,by decide⟩ ?F (fun _ _ _ _ z=>z)
  intro w mg fa h Y G hmg0
  obtain⟨K,KX,c⟩:=Y
  have hmg:mg ("law" : PySem.Str)=some (.ref fa):=by
   have e:(HandSHeadRun.topDef (OpenLaw.row PySem.Challenge.rw_earmarks_k51_whole_no_two_meet).prog 88).name=("law" : PySem.Str):=by kernel_rfl
   rw[←e]
   exact hmg0
  have T:Pr.Top w K mg:=⟨⟨h,KX,G⟩,c⟩
  have e:=hmg.symm.trans (T.glo 100)
  cases e
  obtain⟨fd,F⟩:=T.c.VR 100
  have b:=L2.FunD.bindsA (ps:=["_law_script"]) F fun _ _ _ _ _ _ us hl=>match us,hl with|[_],_=>rfl
  exact⟨K,fd,fun vs H Q _=>Rf.Jg K (Pr.aj w K) 1 Pr.W4 vs H Q fun _ _ _=>False,KX,fun s v=>b s [v] rfl,fun H a ns hl _ hS=>(Pr.aeE ns hl).elim fun _ z=>Rf.akB rfl hS z,fun base _ _=>Rf.abH (Pr.akH T F)⟩

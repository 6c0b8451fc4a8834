import PyProof.Rows.All
import Wide.All
import OpenK.AllK
import Wide.FinOn
import HandS.ForMost
import HandS.Evl
import HandS.Walk
import HandS.Zip
import HandS.IsInst
import HandS.Style
import HandS.FStr
import HandS.Text
import HandS.StrSplit
import HandS.RaiseFrom
import HandS.Strs
import HandS.TupAny
import HandS.Deep
import HandS.Exc
import HandS.TryOnly
import HandS.ExcOwn
import HandS.WordsExc
import KE.GoesMore
import KE.GoesEnum
import KE.DataMinMax
import KE.SortData
import HandS.SortKw
import HandS.TupSets
import HandS.SetBool
import KE.KeyNested
import PyProof.Transfer
import HandS.DictComp
import HandS.Conv
import KE.KDictKeyed
import HandS.ExcField
import HandS.ExcInit
import HandS.TryMany
import HandS.HeadHook4
import HandS.HeadHook3
import HandS.HeadHook2
import HandS.HeadHook1
import HandS.HeadEnd
import HandS.Head2
import HandS.Head1
import HandS.Head0
import KE.KStateDown
import HandS.Flow
import KE.KUnpackStar
import KE.GoesEnumKw
import KE.KTupSum
import PySem.Challenge.RW_earmarks_k55_whole_clash_is_shown
set_option Elab.async false
set_option linter.all false
set_option maxRecDepth 100000
set_option maxHeartbeats 2000000
def arp:True:=trivial
abbrev arq:=@False.elim
abbrev ars:=@decide_eq_true_eq
abbrev aru:=@of_decide_eq_true
def aqd:=@Option.bind_eq_some_iff
def aqe:=@PySem.W.Frag
def aqf:=@Bool.and_eq_true
def aqg:=@List.getElem?_eq_some_iff
def aqh:=@List.map_cons
def aqi:=@List.getElem?_eq_getElem
def aqj:=@List.mem_cons_self
def aqk:=@List.mem_cons_of_mem
def aql:=@List.mem_singleton
def aqm:=@List.mem_of_getElem?
def aqn:=@List.getElem?_set_ne
def aqo:=@List.length_map
def aqp:=@List.mem_map
def aqq:=@List.mem_append
def aqr:=@List.getElem?_append_left
def aqs:=@List.getElem?_map
def aqt:=@List.mem_cons
def aqu:=@List.length_cons
def aqv:=@List.length_filter_le
def aqw:=@List.getElem?_set_self
def aqx:=@Bool.not_eq_true'
def aqy:=@List.getElem?_append_right
def aqz:=@Function.comp_def
def aqA:=@List.mem_filter
def aqB:=@List.all_eq_true
def aqC:=@Option.some.inj
def aqD:=@List.length_set
def aqE:=@Nat.le_trans
def aqF:=@Nat.le_refl
def aqG:=@List.lookup_cons
def aqH:=@List.ext_getElem?
def aqI:=@Bool.false_eq_true
def aqJ:=@List.map_map
def aqK:=@List.getElem?_eq_none
def aqL:=@Nat.ne_of_lt
def aqM:=@List.not_mem_nil
def aqN:=@Array.length_toList
def aqO:=@List.length_append
def aqP:=@List.mem_append_left
def aqQ:=@List.filter_cons
def aqR:=@List.getElem_mem
def aqS:=@List.all_cons
def aqT:=@Nat.zero_le
def aqU:=@Array.getElem?_toList
def aqV:=@List.getElem?_mapIdx
def aqW:=@List.nodup_append
def aqX:=@Bool.eq_iff_iff
def aqY:=@List.append_nil
def aqZ:=@List.mem_append_right
def aq0:=@List.zip_cons_cons
def aq1:=@Option.map_eq_some_iff
def aq2:=@List.drop_eq_getElem_cons
def aq3:=@List.getElem?_zip_eq_some
def aq4:=@List.map_nil
def aq5:=@List.getElem?_set
def aq6:=@List.drop_length
def aq7:=@List.foldl_cons
def aq8:=@List.any_cons
def aq9:=@Nat.lt_succ_of_lt
def ara:=@List.mem_of_mem_take
def arb:=@List.pairwise_mergeSort
def ard:=@List.filter_filter
def arf:=@List.any_map
def arh:=@List.length_drop
def ari:=@Nat.add_sub_cancel'
def arj:=@Nat.add_left_cancel
def ark:=@List.nodup_cons
def arl:=@Bool.or_eq_true
def arn:=@Nat.succ.inj
def aro:=@List.drop_zero
namespace Rf
open PySem PySem.Spec PyProof.Rows L2 HandSHeadRun
abbrev Dat:=PyData
abbrev Ft:=List (Str×List Str)
structure Mf(fa:List He.Fa)(fn:List He.DefD)(tb:List He.Tab)(ex:aqe->Bool)(w:World)(K:aqe):Prop where
 t:He.SaysT fa fn tb w K
 more:ex K=true
def abq(as:List Addr)(fa:List He.Fa)(fn:List He.DefD)(tb:List He.Tab)(ex:aqe->Bool)(g:Addr->Option Obj):He.AlX:=(He.obsT fa fn tb (He.frG g as),ex (He.frG g as))
def abB(as:List Addr)(fa:List He.Fa)(fn:List He.DefD)(tb:List He.Tab)(ex:aqe->Bool):PySem.W.Hook where
 α:=He.AlX
 obs:=λs=>abq as fa fn tb ex s.heap.get?
 val:=λw=>He.valX fn tb w
 says:=λw h=>∃K:aqe,K.In h/\Mf fa fn tb ex w K
 of:=λw s e=>⟨_,He.frG_in,⟨congrArg (λz:He.AlX=>z.1) e,congrArg (λz:He.AlX=>z.2) e⟩⟩
 keeps:=λ_ _ _ ⟨K,hK,c⟩ k=>⟨K,PySem.W.Frag.In.keeps hK k,c⟩
theorem agL{as:List Addr}{fa:List He.Fa}{fn:List He.DefD}{tb:List He.Tab}{ex:aqe->Bool}{g:Addr->Option Obj}{s:Shared}(h:∀a,g a=s.heap.get? a):abq as fa fn tb ex g=(abB as fa fn tb ex).obs s:=by rw[show g=s.heap.get? from funext h];rfl
def Ju(K:aqe)(ft:Ft):Bool:=ft.all λp=>(He.Fa.cls p.1).ok K&&p.2.all λf=>(He.Fa.noat p.1 f).ok K
def xmB(K:aqe)(xm:List (Str×List (Str×Bool))):Bool:=xm.all λp=>p.2.all λq=>(He.Fa.exm q.1 p.1 q.2).ok K
def Xv(K:aqe)(a:Addr):Bool:=match K.lookup a with
 |some o=>(match o.cls with
  |.type c=>decide (c="tuple")
  |_=>false)&&o.dict.isNone
 |none=>false
def aiq(K:aqe)(C:Addr):Bool:=(match K.lookup C with
 |some ⟨.type t,_,.cls cd,sl⟩=>decide (t="type")&&(match cd.mro,sl.toList with
  |.ref C'::bm,[_,_,_,_,some (.builtin n),_]=>decide (C'=C)&&(decide (n="ValueError.__new__")&&(!cd.hasDel&&(cd.hasDict&&PySem.HandSPX.refsVE bm)))
  |_,_=>false)
 |_=>false)&&(He.eqO (PySem.W.findIn K (.ref C) "__setattr__") (some (some (.builtin "object.__setattr__")))&&(decide (PySem.W.subIn K (.ref C) (.type "BaseException")=some true)&&(decide (PySem.W.typeIn K (.ref C)=some (.type "type"))&&PySem.W.keepIn K (.ref C))))
def TX(K:aqe)(x:Str)(fs:List Str):Bool:=aiq K (He.ga K x)&&(He.eqO (PySem.W.findIn K (.ref (He.ga K x)) "__init__") (some (some (.ref (He.ma K (He.ga K x) "__init__"))))&&(decide (PySem.W.typeIn K (.ref (He.ma K (He.ga K x) "__init__"))=some (.type "function"))&&(xfB K (He.ga K x)&&fs.all λf=>He.eqO (PySem.W.findIn K (.ref (He.ga K x)) f) (some none))))
def WK(K:aqe)(a:Addr)(xs:List Str):Bool:=match K.lookup a with
 |some ⟨.type c,_,.seq its _,_⟩=>decide (c="tuple")&&(decide (its.size<=sizeLine)&&He.relAll (xs.map V.str) its.toList)
 |_=>false
def ae1(K:aqe)(x:Str)(kvs:List (Str×List Str)):Bool:=(match K.lookup (He.ga K x) with
 |some ⟨_,_,.dict es _,_⟩=>es.toList.all (λe=>(match e.key with
   |.str y _=>(kvs.map (·.1)).contains y
   |_=>false)&&!e.refKey)
 |_=>false)&&(decide ((kvs.map (·.1)).Nodup)&&kvs.all λq=>match PySem.W.nsIn K (He.ga K x) q.1 with
  |some (some (.ref a))=>WK K a q.2
  |_=>false)
section
open PySem.W PySem.Calls
noncomputable abbrev aiZ (r:PySem.W.OpenRow) (M:Nat) (w:World) (os:PySem.OsState):Option PySem.W.SharedT:=endF (stepQ (denQ tabQ) r.prog w) M r.prog w os
def afr(r:PySem.W.OpenRow)(q:Program)(as:List Addr)(ex:aqe->Bool)(M:Nat)(loose:List Str)(w:World):Prop:=∀os,(aiZ r M w os).map (λs=>(looksF r.prog (boot_heap w.params) s.abs,HandSHeadRun.seenQ q loose (importedModules r.prog.main.body) (λs=>PySem.W.xlAt q [] s&&PySem.W.recOk r.toRowW.records s) s.abs,ex (He.frG (getT s) as)))=some (true,PySem.W.openGood q loose,true)
def aeE(r:PySem.W.OpenRow)(as:List Addr)(fa:List He.Fa)(fn:List He.DefD)(tb:List He.Tab)(M:Nat)(w:World):Prop:=∀os,(aiZ r M w os).map (λs=>He.obsT fa fn tb (He.frG (getT s) as))=some (He.valT fn tb w)
theorem Uw{r:PySem.W.OpenRow}{q:Program}{as:List Addr}{fa:List He.Fa}{fn:List He.DefD}{tb:List He.Tab}{ex:aqe->Bool}{M:Nat}{loose:List Str}{w:World}
  (a:afr r q as ex M loose w) (c:aeE r as fa fn tb M w):RunEq r q (abB as fa fn tb ex) (λs=>abq as fa fn tb ex (getT s)) M loose w:=λos=>by
 obtain⟨s,hs,h1⟩:=aq1.mp (a os);obtain⟨h1,h2⟩:=Prod.mk.inj h1;obtain⟨h2,h4⟩:=Prod.mk.inj h2;have h3:=c os;have hs':endF (stepQ (denQ tabQ) r.prog w) M r.prog w os=some s:=hs;rw[hs,Option.map_some]at h3;have h3:=aqC h3;rw[hs',Option.map_some];exact congrArg some (Prod.ext h1 (Prod.ext h2 (Prod.ext h3 h4)))
end
end Rf
namespace Pr
open PySem PySem.Spec PyProof.Rows L2 Evl Rf
def cR:Dat:=.int 9
def iU:Dat:=.int 1
def j7:Dat:=.int 3
def gK:Dat:=.int 9
def iQ:Dat:=.tuple [.str "lt",.str "lf",.str "lh",.str "rt",.str "rf",.str "rh"]
def ju:Dat:=.tuple [.int 0,.int 0,.int 0,.int 0,.int 0,.int 0]
def nZ:Dat:=.int 999999999
def yu:List (Str×List Str):=[("owner",[]),("ground",["number"]),("enrol",["number","number","ear"]),("leave",["number","number"]),("bring",["number","number","ear"]),("bear",["number"]),("cut",["number"]),("tear",["number","place"]),("sell",["number","number"]),("move",["number","number"]),("die",["number"]),("unite",["number","number"]),("part",["number"]),("pass",["number","number"]),("heir",["number","number","number"])]
def jQ:Ft:=[("Beast",["story","mother","owner","ground","due","ear","alive"]),("Herd",["beasts"]),("Grounds",["allowances","circles"]),("Rights",["held"]),("Commons",["owner_count","holders","grounds","rights","herd"])]
def Hf:List (Str×Bool):=[("NoGround",false),("NoOwner",false),("NoRight",false),("HasRight",false),("NoneFree",false),("BadExtra",false),("BadAllowance",false),("Clash",true),("BadEar",false),("Bare",false),("StillThere",false),("NoBeast",false),("Dead",false),("Unmarked",false),("Deepest",false),("NoPlace",false),("SameOwner",false),("SameGround",false),("Together",false),("Alone",false),("BadDeed",false)]
def uo:List (Str×Bool):=[("NoGround",true),("NoOwner",true),("NoRight",true),("HasRight",true),("NoneFree",true),("BadExtra",true),("BadAllowance",true),("Clash",true),("BadEar",true),("Bare",true),("StillThere",true),("NoBeast",true),("Dead",true),("Unmarked",true),("Deepest",true),("NoPlace",true),("SameOwner",true),("SameGround",true),("Together",true),("Alone",true),("BadDeed",true)]
def xmH:List (Str×List (Str×Bool)):=[("Clash",Hf),("CommonError",uo)]
def dfH:List (Str×Bool):=[("held",true),("holders",false)]
def Vs:List (Str×List Str):=[("Clash",["ones","others","ear"])]
def aX(i:Nat):Stmt:=PySem.Challenge.pw_earmarks_k55_whole_clash_is_shown.main.body.getD i (.Pass ⟨0,0,0,0⟩)
abbrev Gj:Stmt:=inClass (aX 50) 0
abbrev Iv:Stmt:=inClass (aX 55) 0
abbrev M7:Stmt:=inClass (aX 35) 0
abbrev Gm:Stmt:=inClass (aX 66) 0
abbrev s_row:Stmt:=aX 75
abbrev Yb:Stmt:=aX 76
abbrev afV:Stmt:=aX 77
abbrev M5:Stmt:=aX 78
abbrev VH:Stmt:=aX 79
abbrev acj:Stmt:=aX 80
abbrev UJ:Stmt:=aX 81
abbrev afA:Stmt:=aX 82
abbrev ab1:Stmt:=aX 83
abbrev acw:Stmt:=aX 84
abbrev Jd:Stmt:=inClass (aX 34) 2
abbrev JN:Stmt:=inClass (aX 34) 4
abbrev CK:Stmt:=inClass (aX 66) 17
abbrev Bf:Stmt:=inClass (aX 55) 1
abbrev Gu:Stmt:=inClass (aX 50) 3
abbrev Iu:Stmt:=inClass (aX 50) 2
abbrev FW:Stmt:=inClass (aX 50) 4
abbrev xU:Stmt:=inClass (aX 50) 5
abbrev zE:Stmt:=inClass (aX 50) 6
abbrev z7:Stmt:=inClass (aX 66) 19
abbrev FZ:Stmt:=inClass (aX 66) 32
abbrev wY:Stmt:=inClass (aX 66) 33
abbrev FT:Stmt:=inClass (aX 55) 3
abbrev z8:Stmt:=inClass (aX 55) 4
abbrev wg:Stmt:=inClass (aX 66) 34
abbrev xV:Stmt:=inClass (aX 66) 1
abbrev zB:Stmt:=inClass (aX 55) 2
abbrev adN:Stmt:=aX 47
abbrev aaI:Stmt:=aX 44
abbrev MJ:Stmt:=aX 52
abbrev aaC:Stmt:=aX 45
abbrev acg:Stmt:=aX 46
abbrev Ke:Stmt:=aX 53
abbrev wD:Stmt:=inClass (aX 66) 35
abbrev Zq:Stmt:=aX 57
abbrev Ay:Stmt:=inClass (aX 35) 5
abbrev Fw:Stmt:=inClass (aX 35) 6
abbrev xP:Stmt:=inClass (aX 55) 7
abbrev uQ:Stmt:=inClass (aX 66) 22
abbrev zq:Stmt:=inClass (aX 66) 21
abbrev Fb:Stmt:=inClass (aX 50) 7
abbrev Ep:Stmt:=inClass (aX 66) 18
abbrev zJ:Stmt:=inClass (aX 66) 15
abbrev wH:Stmt:=inClass (aX 50) 1
abbrev wV:Stmt:=inClass (aX 66) 2
abbrev Vq:Stmt:=aX 58
abbrev aaB:Stmt:=aX 43
abbrev Qm:Stmt:=aX 59
abbrev xJ:Stmt:=inClass (aX 66) 36
abbrev Yg:Stmt:=aX 28
abbrev Qu:Stmt:=aX 65
abbrev Dr:Stmt:=inClass (aX 66) 3
abbrev IW:Stmt:=inClass (aX 55) 5
abbrev Dh:Stmt:=inClass (aX 66) 4
abbrev Ce:Stmt:=inClass (aX 34) 1
abbrev Z7:Stmt:=aX 30
abbrev JB:Stmt:=inClass (aX 34) 0
abbrev BZ:Stmt:=inClass (aX 35) 1
abbrev Dk:Stmt:=inClass (aX 66) 5
abbrev Km:Stmt:=inClass (aX 35) 2
abbrev IV:Stmt:=inClass (aX 35) 3
abbrev Jb:Stmt:=inClass (aX 35) 4
abbrev Ey:Stmt:=inClass (aX 66) 6
abbrev Q7:Stmt:=aX 32
abbrev Vu:Stmt:=aX 31
abbrev Gf:Stmt:=inClass (aX 34) 3
abbrev Je:Stmt:=inClass (aX 66) 7
abbrev FP:Stmt:=inClass (aX 66) 8
abbrev Ja:Stmt:=inClass (aX 35) 8
abbrev zU:Stmt:=inClass (aX 35) 9
abbrev Eu:Stmt:=inClass (aX 66) 9
abbrev Gi:Stmt:=inClass (aX 66) 10
abbrev Ir:Stmt:=inClass (aX 66) 11
abbrev Qp:Stmt:=aX 60
abbrev zY:Stmt:=inClass (aX 66) 24
abbrev Bc:Stmt:=inClass (aX 50) 10
abbrev CQ:Stmt:=inClass (aX 50) 8
abbrev Ds:Stmt:=inClass (aX 66) 12
abbrev Gg:Stmt:=inClass (aX 50) 9
abbrev Fx:Stmt:=inClass (aX 66) 13
abbrev zA:Stmt:=inClass (aX 55) 6
abbrev JF:Stmt:=inClass (aX 35) 7
abbrev Ba:Stmt:=inClass (aX 66) 14
abbrev MK:Stmt:=aX 40
abbrev acC:Stmt:=aX 39
abbrev Jw:Stmt:=inClass (aX 66) 16
abbrev Xn:Stmt:=aX 86
abbrev acV:Stmt:=aX 85
abbrev VG:Stmt:=aX 87
abbrev aaT:Stmt:=aX 71
abbrev Rm:Stmt:=aX 72
abbrev Us:Stmt:=aX 68
abbrev adQ:Stmt:=aX 69
abbrev Vb:Stmt:=aX 70
abbrev afJ:Stmt:=aX 73
abbrev aaQ:Stmt:=aX 74
abbrev aaU:Stmt:=aX 88
abbrev Lr:Stmt:=aX 89
abbrev Jr:Stmt:=inClass (aX 23) 0
abbrev dM(c m q:Str)(s:Stmt):He.DefD:=⟨(c,some m),m,q,defArgs s,defBody s,defScope s,[],[]⟩
abbrev dF(x:Str)(s:Stmt):He.DefD:=⟨(x,none),x,x,defArgs s,defBody s,defScope s,[],[]⟩
def xsH:List Str:=["Grounds","Rights","Herd","Commons","Beast","NoGround","NoOwner","NoRight","HasRight","NoneFree","BadExtra","BadAllowance","Clash","BadEar","Bare","StillThere","NoBeast","Dead","Unmarked","Deepest","NoPlace","SameOwner","SameGround","Together","Alone","BadDeed","CommonError"]
def tbs:List He.Tab:=[(λK=>He.ga K "SHAPES",["owner","ground","enrol","leave","bring","bear","cut","tear","sell","move","die","unite","part","pass","heir"])]
def nm0:List PySem.Str:=["_wall","CommonError","BadEar","Bare","BadAllowance","BadExtra","NoPlace","Deepest","NoOwner","NoGround","NoBeast","NoRight"]
def nm1:List PySem.Str:=["HasRight","StillThere","Dead","Unmarked","SameOwner","SameGround","Together","Alone","NoneFree","BadDeed","Clash","PLACES"]
def nm2:List PySem.Str:=["GREATEST_DEPTH","BARE_EAR","is_ear","begun","gone_on","deepened","Beast","Herd","SHAPES","GREATEST_PART","fits","part_fits"]
def nm3:List PySem.Str:=["deeper","joint","lacks","apart","meet","torn","GREATEST_ALLOWANCE","Grounds","offspring","first_free","Rights","tidied"]
def nm4:List PySem.Str:=["barring","ask_room","clashing","owners_of","FEWEST_EXTRA","MOST_EXTRA","need_ear","Commons","_law_room_of","_law_once","_law_rows_of","_law_whole"]
def nm5:List PySem.Str:=["_law_like","_law_top","_law_tears","_law_row","_law_ear_by","_law_ear","_law_begun","_law_word_by","_law_near","_law_mark_by","_law_ref","_law_deed"]
def nm6:List PySem.Str:=["_law_plan","_law_cell","_law_wanted","_law_grounds","_law_shown"]
def nm:List PySem.Str:=nm0++nm1++nm2++nm3++nm4++nm5++nm6
def fa0:List He.Fa:=[.mkr "Grounds",.mkr "Rights",.mkr "Herd",.mkr "Commons",.glo "_law_row",.glo "_law_ear_by",.glo "_law_ear",.glo "_law_begun",.glo "_law_word_by",.glo "_law_near",.glo "_law_mark_by",.glo "_law_ref"]
def fa1:List He.Fa:=[.glo "_law_deed",.glo "_law_plan",.meth "Beast" "stand",.meth "Beast" "told",.meth "Commons" "owners",.meth "Rights" "all_rows",.meth "Grounds" "many",.meth "Grounds" "has",.meth "Grounds" "need",.meth "Grounds" "allowance",.meth "Grounds" "together",.meth "Commons" "together"]
def fa2:List He.Fa:=[.meth "Commons" "look",.meth "Commons" "need_owner",.meth "Rights" "marks",.meth "Rights" "has_right",.meth "Commons" "need_right",.meth "Commons" "new_owner",.meth "Rights" "add_right",.glo "torn",.glo "lacks",.glo "offspring",.glo "apart",.glo "meet"]
def fa3:List He.Fa:=[.glo "first_free",.meth "Commons" "first_mark",.glo "tidied",.meth "Herd" "all_living",.meth "Herd" "grazing",.meth "Rights" "in_grounds",.meth "Commons" "standing_but",.meth "Commons" "standing",.meth "Grounds" "room",.meth "Commons" "room",.meth "Commons" "new_heir",.meth "Grounds" "add_ground"]
def fa4:List He.Fa:=[.meth "Commons" "new_ground",.glo "barring",.glo "joint",.glo "ask_room",.meth "Commons" "ask_ground",.glo "is_ear",.glo "need_ear",.meth "Commons" "enrol",.meth "Rights" "drop",.meth "Commons" "leave",.meth "Beast" "stand_so",.glo "begun"]
def fa5:List He.Fa:=[.mkr "Beast",.meth "Herd" "add_beast",.meth "Commons" "bring",.meth "Herd" "known",.meth "Herd" "living",.meth "Herd" "marked",.meth "Commons" "bear",.glo "deepened",.glo "gone_on",.meth "Beast" "befall",.meth "Commons" "cut",.meth "Commons" "tear"]
def fa6:List He.Fa:=[.meth "Herd" "calves",.meth "Herd" "lead_calves",.meth "Commons" "sell",.meth "Commons" "move",.meth "Commons" "die",.glo "clashing",.meth "Commons" "quarrels",.meth "Grounds" "enclose",.meth "Grounds" "unite",.meth "Commons" "unite",.meth "Grounds" "part",.meth "Commons" "part"]
def fa7:List He.Fa:=[.meth "Rights" "hand_over",.meth "Herd" "owned",.meth "Commons" "pass_on",.glo "part_fits",.glo "fits",.meth "Commons" "do",.glo "_law_wanted",.glo "_law_cell",.glo "_law_grounds",.glo "_law_whole",.glo "_law_like",.glo "_law_room_of"]
def fa8:List He.Fa:=[.glo "_law_once",.glo "_law_rows_of",.glo "_law_top",.glo "_law_tears",.glo "_law_shown",.glo "law",.glo "Grounds",.glo "Rights",.glo "Herd",.glo "Commons",.glo "Beast",.glo "NoGround"]
def fa9:List He.Fa:=[.exc "NoGround",.glo "NoOwner",.exc "NoOwner",.glo "NoRight",.exc "NoRight",.glo "HasRight",.exc "HasRight",.glo "NoneFree",.exc "NoneFree",.glo "BadExtra",.exc "BadExtra",.glo "BadAllowance"]
def amh:List He.Fa:=[.exc "BadAllowance",.glo "Clash",.glo "BadEar",.exc "BadEar",.glo "Bare",.exc "Bare",.glo "StillThere",.exc "StillThere",.glo "NoBeast",.exc "NoBeast",.glo "Dead",.exc "Dead"]
def amL:List He.Fa:=[.glo "Unmarked",.exc "Unmarked",.glo "Deepest",.exc "Deepest",.glo "NoPlace",.exc "NoPlace",.glo "SameOwner",.exc "SameOwner",.glo "SameGround",.exc "SameGround",.glo "Together",.exc "Together"]
def al5:List He.Fa:=[.glo "Alone",.exc "Alone",.glo "BadDeed",.exc "BadDeed",.glo "CommonError",.exc "CommonError",.glo "SHAPES",.int "GREATEST_DEPTH" 9,.int "FEWEST_EXTRA" 1,.int "MOST_EXTRA" 3,.int "GREATEST_ALLOWANCE" 9,.glo "PLACES"]
def amQ:List He.Fa:=[.glo "BARE_EAR",.int "GREATEST_PART" 999999999,.free "range",.free "abs",.free "tuple",.free "max",.free "zip",.free "min",.free "int",.free "enumerate",.free "len",.free "list"]
def amK:List He.Fa:=[.free "sum",.free "any",.free "sorted",.free "set",.free "all",.free "isinstance",.free "bool",.free "str"]
def fa:List He.Fa:=fa0++fa1++fa2++fa3++fa4++fa5++fa6++fa7++fa8++fa9++amh++amL++al5++amQ++amK
def fn0:List He.DefD:=[dM "Grounds" "__init__" "Grounds.__init__" Gj,dM "Rights" "__init__" "Rights.__init__" Iv,dM "Herd" "__init__" "Herd.__init__" M7,dM "Commons" "__init__" "Commons.__init__" Gm,dF "_law_row" s_row,dF "_law_ear_by" Yb,dF "_law_ear" afV,dF "_law_begun" M5,dF "_law_word_by" VH,dF "_law_near" acj,dF "_law_mark_by" UJ,dF "_law_ref" afA]
def fn1:List He.DefD:=[dF "_law_deed" ab1,dF "_law_plan" acw,dM "Beast" "stand" "Beast.stand" Jd,dM "Beast" "told" "Beast.told" JN,dM "Commons" "owners" "Commons.owners" CK,dM "Rights" "all_rows" "Rights.all_rows" Bf,dM "Grounds" "many" "Grounds.many" Gu,dM "Grounds" "has" "Grounds.has" Iu,dM "Grounds" "need" "Grounds.need" FW,dM "Grounds" "allowance" "Grounds.allowance" xU,dM "Grounds" "together" "Grounds.together" zE,dM "Commons" "together" "Commons.together" z7]
def fn2:List He.DefD:=[dM "Commons" "look" "Commons.look" FZ,dM "Commons" "need_owner" "Commons.need_owner" wY,dM "Rights" "marks" "Rights.marks" FT,dM "Rights" "has_right" "Rights.has_right" z8,dM "Commons" "need_right" "Commons.need_right" wg,dM "Commons" "new_owner" "Commons.new_owner" xV,dM "Rights" "add_right" "Rights.add_right" zB,dF "torn" adN,dF "lacks" aaI,dF "offspring" MJ,dF "apart" aaC,dF "meet" acg]
def fn3:List He.DefD:=[dF "first_free" Ke,dM "Commons" "first_mark" "Commons.first_mark" wD,dF "tidied" Zq,dM "Herd" "all_living" "Herd.all_living" Ay,dM "Herd" "grazing" "Herd.grazing" Fw,dM "Rights" "in_grounds" "Rights.in_grounds" xP,dM "Commons" "standing_but" "Commons.standing_but" uQ,dM "Commons" "standing" "Commons.standing" zq,dM "Grounds" "room" "Grounds.room" Fb,dM "Commons" "room" "Commons.room" Ep,dM "Commons" "new_heir" "Commons.new_heir" zJ,dM "Grounds" "add_ground" "Grounds.add_ground" wH]
def fn4:List He.DefD:=[dM "Commons" "new_ground" "Commons.new_ground" wV,dF "barring" Vq,dF "joint" aaB,dF "ask_room" Qm,dM "Commons" "ask_ground" "Commons.ask_ground" xJ,dF "is_ear" Yg,dF "need_ear" Qu,dM "Commons" "enrol" "Commons.enrol" Dr,dM "Rights" "drop" "Rights.drop" IW,dM "Commons" "leave" "Commons.leave" Dh,dM "Beast" "stand_so" "Beast.stand_so" Ce,dF "begun" Z7]
def fn5:List He.DefD:=[dM "Beast" "__init__" "Beast.__init__" JB,dM "Herd" "add_beast" "Herd.add_beast" BZ,dM "Commons" "bring" "Commons.bring" Dk,dM "Herd" "known" "Herd.known" Km,dM "Herd" "living" "Herd.living" IV,dM "Herd" "marked" "Herd.marked" Jb,dM "Commons" "bear" "Commons.bear" Ey,dF "deepened" Q7,dF "gone_on" Vu,dM "Beast" "befall" "Beast.befall" Gf,dM "Commons" "cut" "Commons.cut" Je,dM "Commons" "tear" "Commons.tear" FP]
def fn6:List He.DefD:=[dM "Herd" "calves" "Herd.calves" Ja,dM "Herd" "lead_calves" "Herd.lead_calves" zU,dM "Commons" "sell" "Commons.sell" Eu,dM "Commons" "move" "Commons.move" Gi,dM "Commons" "die" "Commons.die" Ir,dF "clashing" Qp,dM "Commons" "quarrels" "Commons.quarrels" zY,dM "Grounds" "enclose" "Grounds.enclose" Bc,dM "Grounds" "unite" "Grounds.unite" CQ,dM "Commons" "unite" "Commons.unite" Ds,dM "Grounds" "part" "Grounds.part" Gg,dM "Commons" "part" "Commons.part" Fx]
def fn7:List He.DefD:=[dM "Rights" "hand_over" "Rights.hand_over" zA,dM "Herd" "owned" "Herd.owned" JF,dM "Commons" "pass_on" "Commons.pass_on" Ba,dF "part_fits" MK,dF "fits" acC,dM "Commons" "do" "Commons.do" Jw,dF "_law_wanted" Xn,dF "_law_cell" acV,dF "_law_grounds" VG,dF "_law_whole" aaT,dF "_law_like" Rm,dF "_law_room_of" Us]
def fn8:List He.DefD:=[dF "_law_once" adQ,dF "_law_rows_of" Vb,dF "_law_top" afJ,dF "_law_tears" aaQ,dF "_law_shown" aaU,dF "law" Lr,dM "Clash" "__init__" "Clash.__init__" Jr]
def fn:List He.DefD:=fn0++fn1++fn2++fn3++fn4++fn5++fn6++fn7++fn8
def exB(K:aqe):Bool:=true&&Ju K jQ&&xmB K xmH&&(Vs.all λp=>xsH.contains p.1&&TX K p.1 p.2)&&ae1 K "SHAPES" yu&&He.tupB K "PLACES" [.str "lt",.str "lf",.str "lh",.str "rt",.str "rf",.str "rh"]&&Xv K (He.ga K "PLACES")&&He.tupB K "BARE_EAR" [.int 0,.int 0,.int 0,.int 0,.int 0,.int 0]&&Xv K (He.ga K "BARE_EAR")
def ad0:List Addr:=[3,31,44,56,68,80,92,104,116,128,140,152,164,176,188,200,212,224,236,248,260,272,291,294]
def ad1:List Addr:=[295,300,307,314,319,364,447,452,472,479,484,489,494,501,508,513,596,605,610,670,681,686,693,698]
def ad2:List Addr:=[703,710,969,978,985,990,997,1004,1009,1014,1021,1026,1033,1040,1047,1054,1061,1068,1075,1082,1089,1096,1103,1108]
def ad3:List Addr:=[1115,30,43,55,67,79,91,103,115,127,139,151,163,175,187,199,211,223,235,247,259,271,290,299]
def ad4:List Addr:=[306,313,318,363,446,453,454,455,456,457,458,459,460,461,462,463,464,465,466,467,471,478,483,488]
def ad5:List Addr:=[493,500,507,512,595,604,609,669,680,685,692,697,702,709,968,977,984,989,996,1003,1008,1013,1020,1025]
def ad6:List Addr:=[1032,1039,1046,1053,1060,1067,1074,1081,1088,1095,1102,1107,1114,29,32,42,54,66,78,90,102,114,126,138]
def ad7:List Addr:=[150,162,174,186,198,210,222,234,246,258,270,288,289,333,340,347,354,361,362,365,366,382,389,396]
def ad8:List Addr:=[403,410,415,420,425,430,437,444,445,448,449,527,534,541,548,555,562,569,574,581,586,593,594,597]
def ad9:List Addr:=[598,624,631,638,643,650,657,662,667,668,671,672,724,731,738,745,750,757,764,771,778,785,792,799]
def amb:List Addr:=[806,813,818,825,832,839,846,853,860,867,872,879,886,893,900,907,914,919,926,933,938,945,952,959]
def al4:List Addr:=[966,967,970,971,287,332,339,346,353,360,381,388,395,402,409,414,419,424,429,436,443,526,533,540]
def amo:List Addr:=[547,554,561,568,573,580,585,592,623,630,637,642,649,656,661,666,723,730,737,744,749,756,763,770]
def amJ:List Addr:=[777,784,791,798,805,812,817,824,831,838,845,852,859,866,871,878,885,892,899,906,913,918,925,932]
def al2:List Addr:=[937,944,951,958,965]
def ad:List Addr:=ad0++ad1++ad2++ad3++ad4++ad5++ad6++ad7++ad8++ad9++amb++al4++amo++amJ++al2
abbrev R:PySem.W.OpenRow:=PySem.W.OpenLaw.row PySem.Challenge.rw_earmarks_k55_whole_clash_is_shown
abbrev hkE:PySem.W.Hook:=abB ad fa fn tbs exB
def obE(s:PySem.W.SharedT):He.AlX:=abq ad fa fn tbs exB (HandSHeadRun.getT s)
theorem ajl(s:PySem.W.SharedT):obE s=hkE.obs s.abs:=agL (HandSHeadRun.getT_eq s)
abbrev wR(w:World)(b:Bool):World:=w.withFollow "special-get-raises" b
theorem ald(w:World):afr R (PySem.W.view R.prog [89]) ad exB 40000 nm (wR w false):=by
 intro os
 kernel_rfl
theorem ak1(w:World):aeE R ad fa fn tbs 40000 (wR w false):=by
 intro os
 kernel_rfl
theorem runAt(w:World):afr R (PySem.W.view R.prog [89]) ad exB 40000 nm (wR w true):=by
 intro os
 kernel_rfl
theorem alf(w:World):aeE R ad fa fn tbs 40000 (wR w true):=by
 intro os
 kernel_rfl
theorem run(w:World):HandSHeadRun.RunEq R (PySem.W.view R.prog [89]) hkE obE 40000 nm w:=PySem.W.byRow2 "special-get-raises" (P:=λw=>HandSHeadRun.RunEq R (PySem.W.view R.prog [89]) hkE obE 40000 nm w) (λw=>Uw (ald w) (ak1 w)) (λw=>Uw (runAt w) (alf w)) w
end Pr
namespace Ear
open PySem PySem.Spec PyProof.Rows L2 Evl RZ
section
variable{X:Cx}{C:Addr}{bmB:List Value}{B newId initId:String}
theorem aes{x:Str}{p pos:Pos}(F:ExcBaseFacts B newId initId bmB)(q:PySem.W.excIn X.K C bmB newId=true)(gC:X.mg x=some (.ref C))(kC:PySem.W.keepIn X.K (.ref C)=true)(r:Raises X (.ref C))(hg:Gl X x)
  (hn:(x==("__debug__" : Str))=false:=by decide):PMk X (.Call (.Name x p) [] [] pos) (λ_ H Q=>Q (.ref C) none H):=by
 intro pins s σ H Q I h;refine wpAny_Call_Name_kw (ld_glob I hg gC ?_ hn);refine PySem.W.callWith_K0 I.kIn kC ?_;show wpAny _ _ (call (.ref C) []) _ _ _;obtain⟨bm,N,nm,qn,bs,hdct,sn,sub,ab,col,dd,k0,k1,k2,k3,k5,mN,hC,hN,hni,T⟩:=exc_obj I.kIn q;refine wpAny_call_exc_subT F T hC hN hni (λh' e hm=>?_) (aqT _);exact mk_of I hm r h (I.hok.gone hm.new)
end
theorem exm_one{K:aqe}{S:Addr}(h1:PySem.W.subIn K (.ref S) (.type "BaseException")=some true)(h2:PySem.W.isClsIn K S=true)(h3:PySem.W.typeIn K (.ref S)=some (.type "type"))(h4:PySem.W.subIn K (.ref S) (.ref S)=some true) :
  PySem.W.exmOne K (.ref S) (.ref S)=some true:=by
 have e1:(PySem.W.subIn K (.ref S) (.type "BaseException")==some true)=true:=by rw[h1]<;>rfl
 have e2:((PySem.W.clsIn K S).isSome&&PySem.W.typeIn K (.ref S)==some (.type "type"))=true:=by rw[h3,aqf];exact⟨h2,rfl⟩
 show(if (PySem.W.subIn K (.ref S) (.type "BaseException")==some true)=true then(if ((PySem.W.clsIn K S).isSome&&PySem.W.typeIn K (.ref S)==some (.type "type"))=true then PySem.W.subIn K (.ref S) (.ref S) else none) else none)=some true
 rw[if_pos e1,if_pos e2];exact h4
def al6(xs:List Int):Prop:=xs.length=6/\∀x∈xs,0<=x/\x<=9
section
variable{K:aqe}{σ:L2.St}{H:Hp}{te tl:TE}{tt:TT}{vs:List Nat}
def EvS(te:TE)(σ:L2.St)(H:Hp)(P:V->Hp->Prop):Prop:=∀H1,Ex H H1->∀Q:VK,(∀v H2,Ex H1 H2->P v H2->Q v H2)->te σ H1 Q
end
section
variable{K:aqe}{σ:L2.St}{H H':Hp}{te ta tb:TE}{t:TT}{P R:V->Hp->Prop}{v:V}
theorem EvS.mono(e:Ex H H')(h:EvS te σ H P):EvS te σ H' P:=λH1 a Q q=>h H1 (e.trans a) Q q
theorem EvS.imp(h:EvS te σ H P)(k:∀v H',P v H'->R v H'):EvS te σ H R:=λH1 e Q q=>h H1 e Q λv H2 e2 p=>q v H2 e2 (k v H2 p)
end
end Ear
namespace Ear
open PySem PySem.Spec PyProof.Rows L2 Evl RZ
def fj{α:Type}(R:V->α->Prop)(ws:List V)(L:List α):Prop:=ws.length=L.length/\∀(i:Nat) (v:V) (x:α),ws[i]?=some v->L[i]?=some x->R v x
theorem fj.imp{α:Type}{R S:V->α->Prop}{ws:List V}{L:List α}(h:fj R ws L)(k:∀v x,R v x->S v x):fj S ws L:=⟨h.1,λi v x a b=>k v x (h.2 i v x a b)⟩
theorem fj.nil{α:Type}{R:V->α->Prop}:fj R [] []:=⟨rfl,λi v x a _=>by simp at a⟩
theorem fj.snoc{α:Type}{R:V->α->Prop}{ws:List V}{L:List α}{v:V}{x:α}(h:fj R ws L)(k:R v x):fj R (ws++[v]) (L++[x]):=by
 refine⟨by rw[aqO,aqO,h.1];rfl,λi u y a b=>?_⟩;by_cases hi:i < ws.length
 ·rw[aqr hi]at a;rw[aqr (by rw[←h.1];exact hi)]at b;exact h.2 i u y a b
 ·rw[aqy (by omega)]at a;rw[aqy (by rw[←h.1];omega),←h.1]at b;have hj:i - ws.length=0:=by
   have:=(aqg.mp a).1;simp only[aqu,List.length_nil]at this;omega
  rw[hj]at a b;cases a;cases b;exact k
def Hq(H:Hp)(v:V)(l:List Int):Prop:=∃h:Addr,v=.ref h/\H h=some (.tup (l.map V.int))
theorem Hq.mono{H H':Hp}(e:Ex H H'){v:V}{l:List Int}(h:Hq H v l):Hq H' v l:=by obtain⟨a,e1,h1⟩:=h;exact⟨a,e1,e _ _ h1⟩
theorem Hq.upd{H:Hp}{D:Addr}{acc:List V}{o:HO}(hD:H D=some (.lst acc)){v:V}{l:List Int}(h:Hq H v l):Hq (upd H D o) v l:=by obtain⟨a,e1,h1⟩:=h;refine⟨a,e1,?_⟩;rw[upd_ne (λz=>by rw[z,hD]at h1;cases h1)];exact h1
abbrev Rw:Type:=Int×List Int
def Lg(H:Hp)(v:V)(r:Rw):Prop:=∃t m:Addr,v=.ref t/\H t=some (.tup [.int r.1,.ref m])/\H m=some (.tup (r.2.map V.int))
theorem Lg.mono{H H':Hp}(e:Ex H H'){v:V}{r:Rw}(h:Lg H v r):Lg H' v r:=by obtain⟨t,m,e1,h1,h2⟩:=h;exact⟨t,m,e1,e _ _ h1,e _ _ h2⟩
theorem Lg.upd{H:Hp}{D:Addr}{acc:List V}{o:HO}(hD:H D=some (.lst acc)){v:V}{r:Rw}(h:Lg H v r):Lg (upd H D o) v r:=by
 obtain⟨t,m,e1,h1,h2⟩:=h;refine⟨t,m,e1,?_,?_⟩
 ·rw[upd_ne (λz=>by rw[z,hD]at h1;cases h1)];exact h1
 ·rw[upd_ne (λz=>by rw[z,hD]at h2;cases h2)];exact h2
def alm(r:Rw):Prop:=1<=r.1/\al6 r.2
structure Tab(R:List Rw):Prop where
 len:R.length<=128
 ok:∀r∈R,alm r
 few:∃D:List Rw,D.length<=64/\∀r∈R,r∈D
theorem Tab.sub{R S:List Rw}(h:Tab R)(hs:∀r∈S,r∈R)(hl:S.length<=128):Tab S:=by obtain⟨D,d1,d2⟩:=h.few;exact⟨hl,λr hr=>h.ok r (hs r hr),D,d1,λr hr=>d2 r (hs r hr)⟩
theorem fj.get{α:Type}{R:V->α->Prop}{ws:List V}{L:List α}(h:fj R ws L){i:Nat}{v:V}(g:ws[i]?=some v):∃x,L[i]?=some x/\R v x:=by
 have hi:=(aqg.mp g).1;have hi':i < L.length:=by rw[←h.1];exact hi
 exact⟨L[i],aqi hi',h.2 i v _ g (aqi hi')⟩
theorem fj.mem{α:Type}{R:V->α->Prop}{ws:List V}{L:List α}(h:fj R ws L){v:V}(m:v∈ws):∃x,x∈L/\R v x:=by obtain⟨i,hi,e⟩:=List.getElem_of_mem m;obtain⟨x,g,r⟩:=h.get (aqg.mpr ⟨hi,e⟩);exact⟨x,aqm g,r⟩
theorem fj.take{α:Type}{R:V->α->Prop}{ws:List V}{L:List α}(h:fj R ws L)(n:Nat):fj R (ws.take n) (L.take n):=by
 refine⟨by rw[List.length_take,List.length_take,h.1],λi v x a b=>?_⟩;rw[List.getElem?_take]at a b;by_cases c:i < n
 ·rw[if_pos c]at a b;exact h.2 i v x a b
 ·rw[if_neg c]at a;cases a
theorem fj.drop{α:Type}{R:V->α->Prop}{ws:List V}{L:List α}(h:fj R ws L)(n:Nat):fj R (ws.drop n) (L.drop n):=by refine⟨by rw[arh,arh,h.1],λi v x a b=>?_⟩;rw[List.getElem?_drop]at a b;exact h.2 _ v x a b
section
variable{X:Cx}
def aeg(xs:List V)(ds:List PyData)(x:V)(d:PyData):Prop:=∃i:Nat,xs[i]?=some x/\ds[i]?=some d
@[irreducible]def HF (K:aqe):List V->Hp->VK->Prop:=λvs H Q=>∃(a:Addr) (xs:List V) (ds:List PyData),vs=[V.ref a]/\SqL K H a xs/\DpAll K H xs ds/\PySem.W.AllAlike ds/\PySem.W.Sortable ds/\(∀d∈ds,d.depth<=60)/\
 ∀(ys:List V) (p:Addr),fj (aeg xs ds) ys (ds.mergeSort (PySem.W.dataLe false id))->H p=none->Q (.ref p) (upd H p (.lst ys))
theorem Zo:∀(xs:List V) (ds:List PyData) (its:List Value) (P:Value->PyData->Prop),Vals xs its->PySem.W.EachIs P its ds->
  PySem.W.EachIs (λv d=>∃(i:Nat) (x:V),RelV x v/\xs[i]?=some x/\ds[i]?=some d) its ds
 |[],_,_,_,.nil,.nil=>.nil
 |_::_,[],_,_,.cons _ _,k=>nomatch k
 |x::xs,d::ds,u::us,P,.cons r t,.cons _ k=>.cons ⟨0,x,r,rfl,rfl⟩ ((Zo xs ds us P t k).mono λv d ⟨i,y,a,b,c⟩=>⟨i+1,y,a,b,c⟩)
theorem Uq{xs:List V}{ds:List PyData}:∀(out:List Value) (L:List PyData),PySem.W.EachIs (λv d=>∃(i:Nat) (x:V),RelV x v/\xs[i]?=some x/\ds[i]?=some d) out L->∃ys,Vals ys out/\fj (aeg xs ds) ys L
 |[],[],.nil=>⟨[],.nil,fj.nil⟩
 |v::out,d::L,.cons ⟨i,x,r,a,b⟩ k=>by
  obtain⟨ys,h1,h2⟩:=Uq out L k;refine⟨x::ys,.cons r h1,by rw[aqu,aqu,h2.1],λj u y g1 g2=>?_⟩;cases j with
  |zero=>
   cases g1;cases g2;exact⟨i,a,b⟩
  |succ j=>exact h2.2 j u y g1 g2
theorem aa5(hu:X.A.units+65 < cLine):CallR X (.builtin "sorted") (HF X.K):=by
 intro pins s σ H vs us Q I r h;unfold HF at h;obtain⟨a,xs,ds,rfl,hs,hd,hal,hk,hz,q⟩:=h;obtain⟨u,rfl,ru⟩:=vals1 r
 obtain rfl:u=Value.ref a:=ru
 obtain⟨its,rv,hl,hsz⟩:=I.list hs;obtain⟨as,hr⟩:=Dp.readsAll I ds xs its hd rv;have er:PySem.W.EachIs (λv d=>∃as,Reads s.heap v (id d) as) its ds:=PySem.W.readsAll_each id (by rw[List.map_id];exact hr);have hn:=SeqAt.ReadsAll.length ds its as hr;have hl2:=rv.length;refine PySem.W.sorted_data (enc:=id) hl.isList (Zo xs ds its _ rv er) er (by rw[List.map_id];exact hal) (by rw[List.map_id];exact hk) (by omega) (λd m=>?_) λout hlen hout=>?_
 ·have:=hz d m;show X.A.units+2+d.depth < cLine;omega
 ·obtain⟨ys,v1,v2⟩:=Uq out _ hout;obtain⟨ep,he'⟩:=PyProof.Rows.sortedAll_at s.heap its out.toArray;have hy:ys.length=ds.length:=by
   rw[v2.1,List.length_mergeSort]
  refine⟨.ref _,upd H (s.heap.objs.size+1) (.lst ys),I.laid (t':=s.toks) (λ_ _=>PyProof.Rows.sortedAll_old) (Nat.le_succ _) ⟨by omega,out,ep,v1,by simpa using he'⟩,rfl,q ys _ v2 (I.hok.fresh (Nat.le_succ _))⟩
end
@[irreducible]def QV (K:aqe):R2:=λx y H Q=>∃d e:PyData,Dp K H x d/\Dp K H y e/\PySem.W.alike d e=true/\d≠.none/\d.depth<=60/\Q (.bl (PySem.W.dataLt d e)) H
theorem aeH{X:Cx}(hu:X.A.units+65 < cLine):OpR X (compareOp .Lt) (QV X.K):=by intro pins s σ H x y v u Q I rx ry h;unfold QV at h;obtain⟨d,e,hd,he,ha,hn,hz,q⟩:=h;obtain⟨as,r1⟩:=Dp.reads I d x v hd rx;obtain⟨bs,r2⟩:=Dp.reads I e y u he ry;exact PySem.W.lt_data r1 r2 ha hn (by omega) ⟨.bl _,H,I,rfl,q⟩
def EvR(te:TE)(σ:L2.St)(H:Hp)(P:List V->Hp->Prop):Prop:=∀H1,Ex H H1->∀Q:VK,(∀p H2 us,Ex H1 H2->H2 p=some (.lst us)->P us H2->Q (.ref p) H2)->te σ H1 Q
def EvM(te:TE)(σ:L2.St)(H:Hp)(P:List V->Hp->Prop):Prop:=∀H1,Ex H H1->∀Q:VK,(∀p H2 us,H1 p=none->Ex H1 H2->H2 p=some (.lst us)->P us H2->Q (.ref p) H2)->te σ H1 Q
structure ajR{α:Type}(Rel:Hp->V->α->Prop):Prop where
 mono:∀{H H':Hp} {v:V} {x:α},Ex H H'->Rel H v x->Rel H' v x
 upd:∀{H:Hp} {D:Addr} {acc:List V} {o:HO} {v:V} {x:α},H D=some (.lst acc)->Rel H v x->Rel (upd H D o) v x
theorem fj.mono{α:Type}{Rel:Hp->V->α->Prop}(S:ajR Rel){H H':Hp}(e:Ex H H'){ws:List V}{L:List α}(h:fj (Rel H) ws L):fj (Rel H') ws L:=h.imp λ_ _ r=>S.mono e r
theorem fj.upd{α:Type}{Rel:Hp->V->α->Prop}(S:ajR Rel){H:Hp}{D:Addr}{acc:List V}{o:HO}(hD:H D=some (.lst acc)){ws:List V}{L:List α}(h:fj (Rel H) ws L):fj (Rel (upd H D o)) ws L:=h.imp λ_ _ r=>S.upd hD r
section
variable{K:aqe}{σ:L2.St}{H:Hp}{te tl:TE}{tt:TT}{vs:List Nat}{α:Type}
theorem EvM.r{P:List V->Hp->Prop}(h:EvM te σ H P):EvR te σ H P:=λH1 e Q q=>h H1 e Q λp H2 us _ a b c=>q p H2 us a b c
theorem EvM.imp{P R:List V->Hp->Prop}(h:EvM te σ H P)(k:∀us H',P us H'->R us H'):EvM te σ H R:=λH1 e Q q=>h H1 e Q λp H2 us n a b c=>q p H2 us n a b (k us H2 c)
end
theorem YM:∀a b:List Int,PyData.eqvAll (a.map PyData.int) (b.map PyData.int)=decide (a=b)
 |[],[]=>by rw[aq4,PyData.eqvAll];rfl
 |[],y::ys=>by rw[aq4,aqh,PyData.eqvAll];rfl
 |x::xs,[]=>by rw[aq4,aqh,PyData.eqvAll];rfl
 |x::xs,y::ys=>by
  rw[aqh,aqh,PyData.eqvAll,YM xs ys,PyData.eqv,aqX];simp
def dT(l:List Int):PyData:=.tuple (l.map PyData.int)
theorem lay_ints:∀l:List Int,PyData.canLayAll0 (l.map PyData.int)=true/\PyData.depthAll (l.map PyData.int)=0
 |[]=>⟨by rw[aq4,PyData.canLayAll0],by rw[aq4,PyData.depthAll]⟩
 |x::xs=>by
  have ih:=lay_ints xs;refine⟨?_,?_⟩
  ·rw[aqh,PyData.canLayAll0,PyData.canLay0,ih.1];rfl
  ·rw[aqh,PyData.depthAll,PyData.depth,ih.2];rfl
def rD(r:Rw):PyData:=.tuple [.int r.1,dT r.2]
theorem adf(r:Rw):(rD r).canLay0=true/\(rD r).depth=2:=by
 have h:=lay_ints r.2;unfold rD dT;refine⟨?_,?_⟩
 ·rw[PyData.canLay0,PyData.canLayAll0,PyData.canLayAll0,PyData.canLayAll0,PyData.canLay0,PyData.canLay0,h.1];rfl
 ·rw[PyData.depth,PyData.depthAll,PyData.depthAll,PyData.depthAll,PyData.depth,PyData.depth,h.2];rfl
def rk(r:Rw):List Int:=r.1::r.2
theorem adI:PySem.W.rowLt [] []=false:=PyProof.Rows.lex_irrefl _
theorem agu(l m:List Int):PySem.W.rowLt [dT l] [dT m]=decide (l < m):=by
 have al:PySem.W.alike (dT l) (dT m)=true:=by unfold dT;rw[PySem.W.alike];exact PySem.W.alike_ints l m
 have ev:PyData.eqv (dT l) (dT m)=decide (l=m):=by unfold dT;rw[PyData.eqv,YM]
 have h:PySem.W.rowLt [dT l] [dT m]=if PyData.eqv (dT l) (dT m)=true then PySem.W.rowLt [] [] else PySem.W.dataLt (dT l) (dT m):=PySem.W.dataLt_cons al [] []
 rw[h,ev,adI];by_cases c:l=m
 ·rw[if_pos (decide_eq_true c),c];exact(decide_eq_false (List.lt_irrefl _)).symm
 ·rw[if_neg (by rw[ars];exact c)];show PySem.W.dataLt (.tuple (l.map PyData.int)) (.tuple (m.map PyData.int))=_;rw[PySem.W.dataLt_tuple];exact PySem.W.dataLt_ints l m
theorem Zy(x y:Int)(ds es:List PyData)(l m:List Int)(h:PySem.W.rowLt ds es=decide (l < m)):PySem.W.rowLt (.int x::ds) (.int y::es)=decide (x::l < y::m):=by
 have al:PySem.W.alike (.int x) (.int y)=true:=by rw[PySem.W.alike]
 have h2:PySem.W.rowLt (.int x::ds) (.int y::es)=if PyData.eqv (.int x) (.int y)=true then PySem.W.rowLt ds es else PySem.W.dataLt (.int x) (.int y):=PySem.W.dataLt_cons al ds es
 rw[h2,h,PySem.W.dataLt_int,PyData.eqv];by_cases c:x=y
 ·subst c;rw[if_pos (by simp),aqX,ars,ars,List.cons_lt_cons_iff];constructor
  ·exact λk=>Or.inr ⟨rfl,k⟩
  ·rintro(k|k)
   ·omega
   ·exact k.2
 ·rw[if_neg (by simpa using c),aqX,ars,ars,List.cons_lt_cons_iff];constructor
  ·exact Or.inl
  ·rintro(k|k)
   ·exact k
   ·exact absurd k.1 c
theorem ahN(a b:Rw):PySem.W.dataLt (rD a) (rD b)=decide (rk a < rk b):=by unfold rD;rw[PySem.W.dataLt_tuple];exact Zy _ _ _ _ _ _ (agu a.2 b.2)
theorem Ur(a b:Rw):PySem.W.alike (rD a) (rD b)=true:=by unfold rD dT;rw[PySem.W.alike,PySem.W.alikeAll,PySem.W.alikeAll,PySem.W.alike,PySem.W.alike,PySem.W.alike_ints,PySem.W.alikeAll];rfl
theorem fj.map{α β:Type}{P:V->β->Prop}(f:α->β){ws:List V}{L:List α}(h:fj (λv x=>P v (f x)) ws L):fj P ws (L.map f):=by refine⟨by rw[aqo,h.1],λi v x a b=>?_⟩;rw[aqs]at b;obtain⟨y,hy,e⟩:=aq1.mp b;rw[←e];exact h.2 i v y a hy
theorem XS{a b:Rw}(h:rk a=rk b):a=b:=by unfold rk at h;injection h with h1 h2;exact Prod.ext h1 h2
def Gk(S:List Rw):Prop:=S.Pairwise λa b=>rk a < rk b
theorem acW:∀{S T:List Rw},Gk S->Gk T->(∀r,r∈S↔r∈T)->S=T
 |[],[],_,_,_=>rfl
 |[],t::T,_,_,h=>absurd ((h t).mpr aqj) (by simp)
 |s::S,[],_,_,h=>absurd ((h s).mp aqj) (by simp)
 |s::S,t::T,hs,ht,h=>by
  obtain⟨hs1,hs2⟩:=List.pairwise_cons.mp hs;obtain⟨ht1,ht2⟩:=List.pairwise_cons.mp ht;have e:s=t:=by
   rcases aqt.mp ((h s).mp aqj) with e|m
   ·exact e
   ·rcases aqt.mp ((h t).mpr aqj) with e2|m2
    ·exact e2.symm
    ·exact absurd (ht1 s m) (List.lt_asymm (hs1 t m2))
  subst e;have hn:∀{L:List Rw},(∀r∈L,rk s < rk r)->s∉L:=λhL m=>List.lt_irrefl _ (hL s m);rw[acW hs2 ht2 λr=>?_];constructor
  ·intro m;rcases aqt.mp ((h r).mp (aqk _ m)) with e|m2
   ·rw[e]at m;exact absurd m (hn hs1)
   ·exact m2
  ·intro m;rcases aqt.mp ((h r).mpr (aqk _ m)) with e|m2
   ·rw[e]at m;exact absurd m (hn ht1)
   ·exact m2
theorem JV(a b:Rw):PySem.W.dataLe false rD a b=decide (rk a<=rk b):=by
 show(!PySem.W.dataLt (rD b) (rD a))=_
 rw[ahN,aqX,aqx,decide_eq_false_iff_not,ars];exact List.not_lt
theorem adS{α β:Type}{R:α->β->Prop}{as cs:List α}(p:as.Perm cs):∀{bs:List β},PySem.W.EachIs R as bs->∃ds,ds.Perm bs/\PySem.W.EachIs R cs ds:=by
 induction p with
 |nil=>
  intro bs h;cases h;exact⟨[],List.Perm.refl _,.nil⟩
 |cons x _ ih=>
  intro bs h;cases h with
  |cons r t=>
   obtain⟨ds,h1,h2⟩:=ih t;exact⟨_::ds,h1.cons _,.cons r h2⟩
 |swap x y l=>
  intro bs h;cases h with
  |cons r t=>
   cases t with
   |cons r2 t2=>exact⟨_,List.Perm.swap _ _ _,.cons r2 (.cons r t2)⟩
 |trans _ _ ih1 ih2=>
  intro bs h;obtain⟨ds,a1,a2⟩:=ih1 h;obtain⟨es,b1,b2⟩:=ih2 a2;exact⟨es,b1.trans a1,b2⟩
section
variable{P:Program}{w:World}{A:Around}{E:Value->Shared->Prop}{s:Shared}
theorem ZG{β:Type}{a:Addr}{es:Array (Int×Value)}{ep:Nat}{t:SetTable}{enc:β->PyData}{bs:List β}{R:Value->β->Prop}{Q:Value->Shared->Prop}(hh:A.handled=none)(ha:SetAt s.heap a es ep t)(hf:t.fits es.size=true)(hsz:es.size < scanBound)(hr:Ris t.place.toList)
  (hl:w.params.followText "set-order"=true∨t.led=true) (e:PySem.W.EachIs (λv b=>R v b/\∃as,Reads s.heap v (enc b) as) (es.toList.map (·.2)) bs) (hal:PySem.W.AllAlike (bs.map enc)) (hk:PySem.W.Sortable (bs.map enc)) (hu:∀b∈bs,A.units+2+(enc b).depth < cLine)
  (hQ:∀(s':Shared) (p:Addr) (out:List Value) (c:Nat) (cs:List β),(∀b o,s.heap.get? b=some o->s'.heap.get? b=some o)->s'.gens=s.gens->s'.os=s.os->s.heap.objs.size<=p->s'.heap.get? p=some (seqObj "list" out.toArray c)->
   cs.Perm bs->PySem.W.EachIs R out (cs.mergeSort (PySem.W.dataLe false enc))->Q (.ref p) s') :
  wpAny (model P w) A (call (.builtin "sorted") [.ref a]) Q E s:=by
 refine Calls.call_function_entry kind_sorted plain_sorted entry_sorted (args_sorted1 _) ?_;unfold Builtin.«sorted»;refine wpAny_bind (m:=checkCount "sorted" 1 1 _) (wpAny_pure ?_)
 refine wpAny_bind (collect_set (A:=A.in1) hh ha hf hsz hr hl λt1 vals kept grown g1 o1 pm=>?_);obtain⟨cs,pc,ec⟩:=adS pm.symm e;have lc:vals.length=cs.length:=ec.length;have lb:cs.length=bs.length:=pc.length_eq;have lz:vals.length<=sizeLine:=by rw[pm.length_eq,aqo,aqN,sizeLine_eq];unfold scanBound at hsz;omega
 refine wpAny_bind (wpAny_newList ?_ lz);have here:(t1.heap.push (seqObj "list" vals.toArray 0)).get? t1.heap.objs.size=some (seqObj "list" vals.toArray 0):=Heap.get?_push_size _ rfl
 have stays:∀b o,s.heap.get? b=some o->(t1.heap.push (seqObj "list" vals.toArray 0)).get? b=some o:=λb o q=>Heap.get?_push_of_some _ (kept b o q)
 have al:PySem.W.AllAlike (cs.map enc):=λd hd d' hd'=>hal d ((pc.map enc).mem_iff.mp hd) d' ((pc.map enc).mem_iff.mp hd');have sk:PySem.W.Sortable (cs.map enc):=by
  rcases hk with k|k
  ·exact .inl λd hd=>k d ((pc.map enc).mem_iff.mp hd)
  ·exact .inr λd hd=>k d ((pc.map enc).mem_iff.mp hd)
 refine wpAny_bind (wpAny_holding (PySem.W.list_sort_data (s:={ t1 with heap:=t1.heap.push (seqObj "list" vals.toArray 0) }) (enc:=enc) here (ec.mono λv b h=>h.1) (ec.mono λv b ⟨_,as,r⟩=>⟨as,PySem.W.reads_keeps stays r,λm=>?rd⟩) al sk (by omega) (λb hb=>?un) λout lo eo=>?fin))
 case rd=>
  obtain⟨o,q⟩:=PyProof.On.reads_mem_get r _ m;have hlt:t1.heap.objs.size < s.heap.objs.size:=Heap.lt_size q;exact absurd grown (Nat.not_le_of_lt hlt)
 case fin=>
  obtain⟨c,hc⟩:=sortedHeap_at (vs:=vals) (out:=out.toArray) here;refine wpAny_pure ⟨_,rfl,hQ _ t1.heap.objs.size out c cs (λb o q=>?_) g1 o1 grown hc pc eo⟩;have hlt:=Heap.lt_size (kept b o q)
  show(sortedHeap (t1.heap.push (seqObj "list" vals.toArray 0)) t1.heap.objs.size vals out.toArray).get? b=some o
  rw[sortedHeap_old (aqL hlt) (by rw[size_push'];exact aq9 hlt)];exact stays b o q
 case un=>
  have:=hu b (pc.mem_iff.mp hb);show A.in1.units+1+_ < _;have e1:A.in1.units=A.units+1:=rfl;omega
end
section
variable{P:Program}{w:World}{A:Around}{E:Value->Shared->Prop}{s:Shared}
def nk(r:Rw):NestedKey:=.tup [.num r.1,.tup (r.2.map .num)]
theorem YG:∀a b:List Int,a.map NestedKey.num=b.map NestedKey.num->a=b
 |[],[],_=>rfl
 |[],_::_,h=>by cases h
 |_::_,[],h=>by cases h
 |x::a,y::b,h=>by
  rw[aqh,aqh]at h;injection h with h1 h2;injection h1 with h1;rw[h1,YG a b h2]
theorem acD{a b:Rw}(h:nk a=nk b):a=b:=by unfold nk at h;injection h with h;injection h with h1 h;injection h with h2 _;injection h1 with h1;injection h2 with h2;exact Prod.ext h1 (YG _ _ h2)
theorem Qt:∀l:List Int,NestedKey.depthAll (l.map .num)=0
 |[]=>by rw[aq4,NestedKey.depthAll]
 |x::l=>by
  rw[aqh,NestedKey.depthAll,NestedKey.depth,Qt l];rfl
theorem aei(r:Rw):(nk r).depth=2:=by unfold nk;rw[NestedKey.depth,NestedKey.depthAll,NestedKey.depthAll,NestedKey.depthAll,NestedKey.depth,NestedKey.depth,Qt];rfl
def mX(P:Program)(w:World):HeapKind P w Rw where
 is:=λh r a=>(nestedKind P w).is h (nk r) a
 hash:=λr=>(nestedKind P w).hash (nk r)
 draws:=λr=>(nestedKind P w).draws (nk r)
 room:=(nestedKind P w).room
 inj:=λhx hy=>acD ((nestedKind P w).inj hx hy)
 keeps:=λx ho hd hs=>(nestedKind P w).keeps x ho hd hs
 pyHash:=λhu hk h=>(nestedKind P w).pyHash hu hk h
 eqBool:=λ{A E s x y a b Q} hu hx hy h=>(nestedKind P w).eqBool hu hx hy (by
  have e:decide (nk x=nk y)=decide (x=y):=by rw[decide_eq_decide];exact⟨acD,λh=>by rw[h]⟩
  rw[e];exact h)
 quiet:=λhk h=>(nestedKind P w).quiet hk h
abbrev RI(h:Heap)(r:Rw)(a:Addr):Prop:=NestedIs h (nk r) (.ref a)/\(nk r).depth<=8
theorem RL{h h':Heap}{r:Rw}{a:Addr}(x:RI h r a)(k:∀c o,h.get? c=some o->h'.get? c=some o):RI h' r a:=⟨NestedIs.at (λb o _ _ e _=>k b o e) _ _ x.1,x.2⟩
theorem Xg{h h':Heap}{r:Rw}{a d:Addr}{o:Obj}{es:Array (Int×Value)}{ep:Nat}{t:SetTable}(x:RI h r a)(ho:h.get? d=some o)(hd:o.data=.set es ep t)(sb:Heap.SameBut d h h'):RI h' r a:=by
 refine⟨NestedIs.at (λb ob vs n hb hc=>(sb.2 b λe=>?_).trans hb) _ _ x.1,x.2⟩;subst e
 obtain rfl:ob=o:=aqC (hb.symm.trans ho)
 rw[hd]at hc;cases hc
theorem Io{h:Heap}{i:Int}{v:Value}(x:NestedIs h (.num i) v)(n:Nat):ofAClassStatement n v=pure false/\hashByValue n v=pure true:=by
 cases x with
 |bool _=>cases n<;>exact⟨rfl,rfl⟩
 |int _ t=>cases n<;>exact⟨rfl,rfl⟩
theorem W0{h:Heap}:∀(l:List Int) (vs:List Value),NestedAll h (l.map .num) vs->∀v∈vs,∃i,NestedIs h (.num i) v
 |[],_,x,v,hv=>by
  cases x;cases hv
 |i::l,_,x,v,hv=>by
  rw[aqh]at x;cases x with
  |cons x1 x2=>
   rcases aqt.mp hv with e|hv
   ·exact⟨i,by rw[e];exact x1⟩
   ·exact W0 l _ x2 v hv
theorem aaG{n:Nat}{a:Addr}{o:Obj}{vs:Array Value}{m:Nat}(ho:s.heap.get? a=some o)(hc:o.cls=.type "tuple")(hd:o.data=.seq vs m)(hq:∀v∈vs.toList,∀(E:Value->Shared->Prop) (Q:Bool->Shared->Prop),Q false s->wpAny (model P w) A (ofAClassStatement n v) Q E s){Q:Bool->Shared->Prop}(q:Q false s) :
  wpAny (model P w) A (ofAClassStatement (n+1) (.ref a)) Q E s:=by
 have hT:s.TypeIs (.ref a) "tuple":=⟨o,ho,hc⟩
 unfold ofAClassStatement;refine wpAny_bind (wpAny_typeOf hT ?_)
 dsimp only
 have eq1:(("tuple" : String)=="tuple")=true:=by decide
 simp only[eq1,if_true,Bool.not_true,aqI,if_false]
 try refine wpAny_bind (wpAny_pure ?_)
 try simp only[Bool.not_true,aqI,if_false]
 refine wpAny_bind (wpAny_seqItems ho hd ?_)
 dsimp only
 refine wpAny_bind ?_;rw[←Array.forIn_toList];refine wpAny_forIn_list _ (λleft r u=>r.1=none/\u=s/\∀v∈left,v∈vs.toList) _ ?_ ?_ _ _ ⟨rfl,rfl,λv hv=>hv⟩
 ·rintro v left r u ⟨hr,rfl,hall⟩;refine wpAny_bind (hq v (hall v aqj) _ _ ?_);simp only[aqI,if_false];exact wpAny_pure ⟨rfl,rfl,λy hy=>hall y (aqk _ hy)⟩
 ·rintro⟨r1,r2⟩ u ⟨hr,rfl,_⟩;simp only at hr;subst hr;exact wpAny_pure q
theorem Xm{n:Nat}{a:Addr}{o:Obj}{vs:Array Value}{m:Nat}(ho:s.heap.get? a=some o)(hc:o.cls=.type "tuple")(hd:o.data=.seq vs m)(hq:∀v∈vs.toList,∀(E:Value->Shared->Prop) (Q:Bool->Shared->Prop),Q true s->wpAny (model P w) A (hashByValue n v) Q E s){Q:Bool->Shared->Prop}(q:Q true s) :
  wpAny (model P w) A (hashByValue (n+1) (.ref a)) Q E s:=by
 have hT:s.TypeIs (.ref a) "tuple":=⟨o,ho,hc⟩
 unfold hashByValue;refine wpAny_bind (wpAny_specialOf hT PySem.F.slot_tuple_hash.lookup ?_);show wpAny _ _ (seqItems? (.ref a) >>= _) _ _ s;refine wpAny_bind (wpAny_seqItems ho hd ?_);refine wpAny_bind ?_;show wpAny _ _ (forIn vs _ _) _ _ s;rw[←Array.forIn_toList];refine wpAny_forIn_list _ (λleft r u=>r.1=none/\u=s/\∀v∈left,v∈vs.toList) _ ?_ ?_ _ _ ⟨rfl,rfl,λv hv=>hv⟩
 ·rintro v left r u ⟨hr,rfl,hall⟩;refine wpAny_bind (hq v (hall v aqj) _ _ ?_);simp only[Bool.not_true,aqI,if_false];exact wpAny_pure ⟨rfl,rfl,λy hy=>hall y (aqk _ hy)⟩
 ·rintro⟨r1,r2⟩ u ⟨hr,rfl,_⟩;simp only at hr;subst hr;exact wpAny_pure q
theorem Ig{r:Rw}{a:Addr}(x:RI s.heap r a):(∀{Q:Bool->Shared->Prop},Q false s->wpAny (model P w) A (ofAClassStatement 8 (.ref a)) Q E s)/\∀{Q:Bool->Shared->Prop},Q true s->wpAny (model P w) A (hashByValue 8 (.ref a)) Q E s:=by
 obtain⟨x,_⟩:=x;unfold nk at x;cases x with
 | @tup _ o vs m _ ho hc hd x=>
  have items:∀v∈vs.toList,(∃i,NestedIs s.heap (.num i) v)∨∃b,v=.ref b/\∃o us k,s.heap.get? b=some o/\o.cls=.type "tuple"/\o.data=.seq us k/\∀u∈us.toList,∃i,NestedIs s.heap (.num i) u:=by
   generalize vs.toList=l at x;cases x with
   |cons x1 x=>
    cases x with
    |cons x2 x=>
     cases x;intro v hv;rcases aqt.mp hv with e|hv
     ·exact Or.inl ⟨_,by rw[e];exact x1⟩
     ·have e:=aql.mp hv;cases x2 with
      |tup k1 k2 k3 k4=>exact Or.inr ⟨_,e,_,_,_,k1,k2,k3,W0 _ _ k4⟩
  refine⟨λq=>aaG ho hc hd (λv hv E' Q' q'=>?_) q,λq=>Xm ho hc hd (λv hv E' Q' q'=>?_) q⟩
  ·rcases items v hv with⟨i,y⟩|⟨b,rfl,o',us,k,k1,k2,k3,k4⟩
   ·rw[(Io y 7).1];exact wpAny_pure q'
   ·refine aaG k1 k2 k3 (λu hu E2 Q2 q2=>?_) q';obtain⟨i,y⟩:=k4 u hu;rw[(Io y 6).1];exact wpAny_pure q2
  ·rcases items v hv with⟨i,y⟩|⟨b,rfl,o',us,k,k1,k2,k3,k4⟩
   ·rw[(Io y 7).2];exact wpAny_pure q'
   ·refine Xm k1 k2 k3 (λu hu E2 Q2 q2=>?_) q';obtain⟨i,y⟩:=k4 u hu;rw[(Io y 6).2];exact wpAny_pure q2
end
abbrev Ent:Type:=Addr×Rw
section
variable{P:Program}{w:World}{A:Around}{E:Value->Shared->Prop}{s:Shared}
def ents(hf:Rw->Int)(L:List Ent):List (Int×Value):=L.map λp=>(hf p.2,Value.ref p.1)
structure qD(hf:Rw->Int)(w:World)(h:Heap)(a:Addr)(L:List Ent)(es:Array (Int×Value))(ep:Nat)(t:SetTable):Prop where
 ob:∃o,h.get? a=some o/\o.ExactSet/\o.data=.set es ep t
 en:es.toList=ents hf L
 tab:TabOk t (L.map λp=>hf p.2)
 nd:(L.map Prod.snd).Nodup
 ky:∀p∈L,RI h p.2 p.1
 pl:t.plain=true
 ld:w.params.followText "set-order"=true∨t.led=true
 free:L.length * 5 < t.mask * 3
 few:L.length<=76
variable{hf:Rw->Int}{a:Addr}{L:List Ent}{es:Array (Int×Value)}{ep:Nat}{t:SetTable}
theorem yE(h:es.toList=ents hf L):es.size=L.length:=by rw[←aqN,h];exact aqo _
theorem LK(h:es.toList=ents hf L){i:Nat}{p:Ent}(g:L[i]?=some p):es[i]?=some (hf p.2,Value.ref p.1):=by rw[←aqU,h];unfold ents;rw[aqs,g];rfl
theorem fits_of(h1:t.place.size=es.size)(h2:t.dummies=#[])(h3:es.size<=t.mask):t.fits es.size=true:=by unfold SetTable.fits SetTable.fill;rw[h2,aqf,beq_iff_eq,ars];exact⟨h1,by show t.place.size+0<=t.mask;omega⟩
theorem qD.fits(R:qD hf w s.heap a L es ep t):t.fits es.size=true:=by have l1:=yE R.en;have l2:=R.tab.sz;rw[aqo]at l2;have l3:=R.free;exact fits_of (by omega) R.tab.dm (by omega)
theorem qD.sound(R:qD hf w s.heap a L es ep t):¬t.gaveWay=true:=by unfold SetTable.gaveWay;rw[mask_odd R.tab.mok];decide
theorem akf{r:Rw}{b:Addr}{Q:Bool->Shared->Prop}(hx:RI s.heap r b){ys:List Value}(hy:∀y∈ys,∃q c,y=Value.ref c/\RI s.heap q c)(q:Q false s):wpAny (model P w) A (searchCouldBeSeen (.ref b) ys) Q E s:=by
 unfold searchCouldBeSeen;refine wpAny_bind ?_;refine wpAny_forIn_list _ (λleft r u=>r.1=none/\u=s/\∀y∈left,∃q c,y=Value.ref c/\RI s.heap q c) _ ?_ ?_ _ _ ⟨rfl,rfl,hy⟩
 ·rintro v left r u ⟨hr,rfl,hall⟩;obtain⟨q',c,rfl,hc⟩:=hall v aqj;have more:∀y∈left,∃q c,y=Value.ref c/\RI u.heap q c:=λy m=>hall y (aqk _ m)
  dsimp only
  by_cases hv:(b==c || (carriedByValue (.ref b)&&carriedByValue (.ref c)))=true
  ·exact wp_if_pos hv (wpAny_pure ⟨rfl,rfl,more⟩)
  ·refine wp_if_neg hv ?_;refine wpAny_bind ((mX P w).quiet hx ?_);simp only[Bool.not_true,aqI,if_false];refine wpAny_bind ((mX P w).quiet hc ?_);simp only[Bool.not_true,aqI,if_false];refine wpAny_bind ((Ig hx).1 ?_);simp only[aqI,if_false];refine wpAny_bind ((Ig hc).1 ?_);simp only[aqI,if_false];exact wpAny_pure ⟨rfl,rfl,more⟩
 ·rintro⟨r1,r2⟩ u ⟨hr,rfl,_⟩;simp only at hr;subst hr;exact wpAny_pure q
abbrev tX(m:Nat)(h:Int)(c:Nat):SetTable.Probe:=nth m (runAt m (SetTable.bits h % (m+1)) (SetTable.bits h)) c
theorem ZW(m:Nat)(h:Int)(c:Nat):(tX m h c).dummy=none:=by
 have all:∀(n:Nat) (p:SetTable.Probe),p.dummy=none->(nth m p n).dummy=none:=by
  intro n
  induction n with
  |zero=>exact λp k=>k
  |succ n ih=>
   intro p k;refine ih (adv m p) ?_;unfold adv
   split<;>exact k
 exact all c _ rfl
theorem Vn(m:Nat)(h:Int)(c d:Nat):nth m (tX m h c) d=tX m h (c+d):=(nth_add m c _ d).symm
theorem seek(R:qD hf w s.heap a L es ep t){x:Addr}{r:Rw}(hx:RI s.heap r x){h:Int}(hh:hf r=h)(hu:(mX P w).room A){N:Nat}(hN:N < 10 * SetTable.turns t.mask)(out:way t.mask (h) N∉t.place.toList)(inn:∀c,c < N->way t.mask (h) c∈t.place.toList){Q:SetFound->Shared->Prop}
  (yes:r∈L.map Prod.snd->Q (.there none) s) (no:r∉L.map Prod.snd->Q (.free (way t.mask (h) N) false) s) :
  ∀(f c:Nat) (st:Option SetTable.Probe),st.getD (t.probeStart (h))=tX t.mask (h) c->c<=N->N - c < f->
   (∀(i:Nat) (p:Ent),L[i]?=some p->p.2=r->∃d,c<=d/\d < N/\t.place.toList[i]?=some (way t.mask (h) d))->
   wpAny (model P w) A (setSearchFrom a (.ref x) (h) true f st) Q E s:=by
 intro f
 induction f with
 |zero=>exact λ_ _ _ _ hfl _=>absurd hfl (Nat.not_lt_zero _)
 |succ f ih=>
  intro c st hst hc hfl left;obtain⟨o,ho,hex,hd⟩:=R.ob;rw[setSearchFrom_succ];refine wpAny_bind (wpAny_setState_of ho hd R.fits ?_)
  dsimp only
  refine wp_if_neg R.sound ?_
  try refine wpAny_bind (wpAny_pure ?_)
  have jAt:∀d,(nth t.mask (tX t.mask h c) d).j=way t.mask h (c+d):=λd=>congrArg SetTable.Probe.j (Vn t.mask h c d);have hashOf:∀(i:Nat) (p:Ent),L[i]?=some p->(es[i]?.map (·.1)).getD 0=hf p.2:=λi p g=>by
   rw[LK R.en g];rfl
  have spec:=go_spec t R.tab.ris R.tab.dm (λi=>(es[i]?.map (·.1)).getD 0) h (10 * SetTable.turns t.mask) (N - c) (tX t.mask h c) (ZW _ _ _) (by omega) (λd hdn=>by rw[jAt];exact inn (c+d) (by omega)) (by rw[jAt,ari hc];exact out);rcases spec with⟨d,i,hdn,hi,hhi,hno,hpr⟩|⟨hno,hpr⟩
  ·have hpr':t.probe (λi=>(es[i]?.map (·.1)).getD 0) h (st.getD (t.probeStart h))=some (.candidate (way t.mask h (c+d)) i (tX t.mask h (c+(d+1)))):=by
    rw[hst,←jAt,←Vn];exact hpr
   rw[hpr']
   dsimp only
   rw[jAt]at hi;have hil:i < L.length:=by have k1:=(aqg.mp hi).1;have k2:=R.tab.sz;rw[aqo]at k2;rw[aqN]at k1;omega
   obtain⟨p,hp⟩:∃p,L[i]?=some p:=⟨_,aqi hil⟩;have pm:=aqm hp;have go:wpAny (model P w) A (searchRest a (.ref x) h true f es t (way t.mask h (c+d)) i (tX t.mask h (c+(d+1)))) Q E s:=by
    unfold searchRest;rw[LK R.en hp]
    dsimp only
    refine wpAny_bind (wpAny_holding ((mX P w).eqBool hu (R.ky p pm) hx ?_));refine wpAny_bind (wpAny_setState_of ho hd R.fits ?_)
    dsimp only
    by_cases same:p.2=r
    ·exact wp_if_pos (by simp[same]) (wpAny_pure (yes (aqp.mpr ⟨p,pm,same⟩)))
    ·refine wp_if_neg (by simp[same]) ?_
     try refine wpAny_bind (wpAny_pure ?_)
     rw[sameMem]
     dsimp only
     have live:t.slot (way t.mask h (c+d))=.live i:=slot_live R.tab.ris hi;simp only[if_true,live,LK R.en hp];refine wpAny_bind (wpAny_isSame_ref_self (wpAny_bind (wpAny_pure ?_)));simp only[if_true];refine wp_if_neg (by simp[same]) ?_;refine ih (c+(d+1)) _ rfl (by omega) (by omega) λi0 p0 g0 e0=>?_;obtain⟨d0,a1,a2,a3⟩:=left i0 p0 g0 e0;refine⟨d0,?_,a2,a3⟩;by_cases c1:d0 < c+d
     ·exact absurd ((hashOf i0 p0 g0).trans ((congrArg hf e0).trans hh)) (hno (d0 - c) i0 (by omega) (by rw[jAt,ari a1];exact a3))
     ·by_cases c2:d0=c+d
      ·rw[c2]at a3;have live0:=slot_live R.tab.ris a3;rw[live]at live0;injection live0 with ei;rw[←ei,hp]at g0;exact absurd ((congrArg Prod.snd (aqC g0)).trans e0) same
      ·omega
   by_cases hl:t.led=true
   ·refine wp_if_neg (by simp[hl]) ?_
    try refine wpAny_bind (wpAny_pure ?_)
    exact go
   ·refine wp_if_pos (by simp[hl]) ?_;refine wpAny_bind (akf hx (λy hy=>?_) ?_)
    ·obtain⟨e,he,ee⟩:=aqp.mp hy;have h1:e∈es/\e.1=h:=by simpa using he
     have h2:e∈es.toList:=by simpa using h1.1
     rw[R.en]at h2;obtain⟨p2,hp2,e2⟩:=aqp.mp h2;exact⟨p2.2,p2.1,by rw[←ee,←e2],R.ky p2 hp2⟩
    ·refine wp_if_neg (by decide) ?_
     try refine wpAny_bind (wpAny_pure ?_)
     exact go
  ·have hpr':t.probe (λi=>(es[i]?.map (·.1)).getD 0) h (st.getD (t.probeStart h))=some (.empty (way t.mask h N) none):=by
    have e2:way t.mask h N=(nth t.mask (tX t.mask h c) (N - c)).j:=by rw[jAt,ari hc]
    rw[hst,e2];exact hpr
   rw[hpr']
   dsimp only
   refine wpAny_pure (no λhm=>?_);obtain⟨p0,m0,e0⟩:=aqp.mp hm;obtain⟨i0,hi0,e1⟩:=List.getElem_of_mem m0;have g0:L[i0]?=some p0:=by rw[aqi hi0,e1]
   obtain⟨d0,a1,a2,a3⟩:=left i0 p0 g0 e0;exact hno (d0 - c) i0 (by omega) (by rw[jAt,ari a1];exact a3) ((hashOf i0 p0 g0).trans ((congrArg hf e0).trans hh))
theorem look(R:qD hf w s.heap a L es ep t){x:Addr}{r:Rw}(hx:RI s.heap r x)(hu:(mX P w).room A){Q:SetFound->Shared->Prop}(yes:r∈L.map Prod.snd->Q (.there none) s)
  (no:∀N,r∉L.map Prod.snd->way t.mask (hf r) N∉t.place.toList->(∀c,c < N->way t.mask (hf r) c∈t.place.toList)->Q (.free (way t.mask (hf r) N) false) s):wpAny (model P w) A (setSearch a (.ref x) (hf r) true) Q E s:=by
 have hfree:=R.free;obtain⟨N,hN,out,inn⟩:=R.tab.first (by rw[aqo];omega) (hf r);have small:N < 100000:=by
  have:10 * SetTable.turns t.mask<=1420:=by unfold SetTable.turns;rcases R.tab.mok with e|e|e<;>omega
  omega
 unfold setSearch;refine seek R hx rfl hu hN out inn yes (λhn=>no N hn out inn) 100000 0 none rfl (aqT _) (by omega) λi p g e=>?_;have hi:(L.map λp=>hf p.2)[i]?=some (hf r):=by rw[aqs,g,←e];rfl
 have hil:i < t.place.toList.length:=by have k1:=(aqg.mp g).1;have k2:=R.tab.sz;rw[aqo]at k2;rw[aqN];omega
 obtain⟨c,hc,ec⟩:=R.tab.before out hi (aqi hil);exact⟨c,aqT _,hc,by rw[aqi hil,ec]⟩
end
section
variable{P:Program}{w:World}{A:Around}{E:Value->Shared->Prop}{s:Shared}{hf:Rw->Int}{a:Addr}{L:List Ent}{es:Array (Int×Value)}{ep:Nat}{t:SetTable}
theorem aez(L:List Ent)(n:Nat)(x:Addr)(r:Rw):ents hf (L.take n++(x,r)::L.drop n)=(ents hf L).take n++(hf r,Value.ref x)::(ents hf L).drop n:=by unfold ents;rw[List.map_append,aqh,List.map_take,List.map_drop]
theorem range_all(L:List Ent):(List.range L.length).filterMap (λi=>L[i]?)=L:=by
 have part:∀n,n<=L.length->(List.range n).filterMap (λi=>L[i]?)=L.take n:=by
  intro n
  induction n with
  |zero=>exact λ_=>rfl
  |succ n ih=>
   intro hn;rw[List.range_succ,List.filterMap_append,ih (by omega),List.take_add_one,aqi (show n < L.length by omega)];congr 1;rw[List.filterMap_cons_some (aqi (show n < L.length by omega))];rfl
 rw[part _ (aqF _),List.take_length]
theorem adM(h:es.toList=ents hf L){order:Array Nat}(hp:order.toList.Perm (List.range L.length)) :
  ∃M:List Ent,(order.filterMap (es[·]?)).toList=ents hf M/\M.Perm L/\(M.map λp=>hf p.2)=order.toList.map λi=>(es.map (·.1)).getD i 0:=by
 have inside:∀i∈order.toList,i < L.length:=λi hi=>List.mem_range.mp (hp.mem_iff.mp hi);refine⟨order.toList.filterMap (λi=>L[i]?),?_,?_,?_⟩
 ·have e1:(order.filterMap (es[·]?)).toList=order.toList.filterMap (λi=>es[i]?):=by
   first | rw[Array.toList_filterMap] | simp
  rw[e1];unfold ents;rw[List.map_filterMap];congr 1;funext i;rw[←aqU,h];unfold ents;rw[aqs]
 ·have:=hp.filterMap (λi=>L[i]?);rw[range_all]at this;exact this
 ·generalize order.toList=l at inside
  induction l with
  |nil=>rfl
  |cons i l ih=>
   have hi:=inside i aqj;have e5:(es.map (·.1))[i]?=some (hf (L[i]).2):=by rw[Array.getElem?_map,LK h (aqi hi)];rfl
   rw[List.filterMap_cons_some (aqi hi),aqh,aqh,ih λj hj=>inside j (aqk _ hj),Array.getD_eq_getD_getElem?,e5];rfl
theorem akz{o:Obj}(ho:s.heap.get? a=some o)(hex:o.ExactSet)(hd:o.data=.set es ep t)(he:es.toList=ents hf L)(hsz:t.place.size=es.size)(hdm:t.dummies=#[])(hfl:es.size<=t.mask)(nd:(L.map Prod.snd).Nodup)(ky:∀p∈L,RI s.heap p.2 p.1)(pl:t.plain=true)
  (ld:w.params.followText "set-order"=true∨t.led=true) (few:L.length<=76) {wanted M:Nat} (hw:SetTable.sizeAbove wanted - 1=M) (hM:MaskOk M) (hw2:SetTable.sizeAbove wanted<=128) (hn:L.length * 5 < M * 3) {Q:Unit->Shared->Prop}
  (q:∀h' K es' ep' t',Heap.SameBut a s.heap h'->qD hf w h' a K es' ep' t'->K.Perm L->Q () { s with heap:=h' }):wpAny (model P w) A (setRelay a wanted) Q E s:=by
 have len:=yE he;obtain⟨t',order,e,hp,T,em,el,epl,ed⟩:=relaid_ok t (hs:=es.map (·.1)) (wanted:=wanted) hw hM (by rw[Array.size_map,len];omega);rw[Array.size_map,len]at hp;obtain⟨K,k1,k2,k3⟩:=adM he hp;rw[←k3]at T;have ks:(order.filterMap (es[·]?)).size=es.size:=by rw[yE k1,k2.length_eq,len]
 rw[setRelay_eq];refine wpAny_bind (wpAny_setState_of ho hd (fits_of hsz hdm hfl) ?_)
 dsimp only
 refine wp_if_neg (by rw[sizeLine_eq];omega) ?_
 try refine wpAny_bind (wpAny_pure ?_)
 rw[e]
 dsimp only
 refine wpAny_bind ?_;refine wp_if_neg (by rw[ks];simp) ?_
 try refine wpAny_bind (wpAny_pure ?_)
 refine wpAny_pure ?_
 dsimp only
 refine wpAny_storeSet_of ho hd ?_ (by rw[ks,len,sizeLine_eq];omega);have sb:Heap.SameBut a s.heap (s.heap.update a (Obj.putSet (order.filterMap (es[·]?)) t')):=Heap.SameBut.update ..;refine q _ K (order.filterMap (es[·]?)) (ep+1) t' sb ⟨⟨_,store_at ho hd,⟨hex.1,hex.2.1,hex.2.2⟩,rfl⟩,k1,T,(k2.map Prod.snd).nodup_iff.mpr nd,λp hp=>Xg (ky p (k2.mem_iff.mp hp)) ho hd sb,by rw[epl];exact pl,by rw[el];exact ld,?_,by rw[k2.length_eq];exact few⟩ k2;rw[k2.length_eq,em];exact hn
theorem aj5(R:qD hf w s.heap a L es ep t){x:Addr}{r:Rw}(hx:RI s.heap r x)(hu:(mX P w).room A)(hfew:r∉L.map Prod.snd->L.length+1<=76){Q:Bool->Shared->Prop}
  (q:∀b h' K es' ep' t',Heap.SameBut a s.heap h'->qD hf w h' a K es' ep' t'->(r∈L.map Prod.snd->K=L)->(r∉L.map Prod.snd->K.Perm ((x,r)::L))->Q b { s with heap:=h' }):wpAny (model P w) A (setAddHashed a (.ref x) (hf r)) Q E s:=by
 obtain⟨o,ho,hex,hd⟩:=R.ob;have len:=yE R.en;have hfree:=R.free;unfold setAddHashed;refine wpAny_holding ?_;rw[show(100000:Nat)=99999+1 from rfl,setAddHashedIn_succ];refine wpAny_bind (wpAny_setState_of ho hd R.fits ?_)
 dsimp only
 refine wp_if_neg (by simp[byScan,Value.scannable]) ?_
 try refine wpAny_bind (wpAny_pure ?_)
 refine wpAny_bind (look R hx hu (λhm=>?_) λN hm out inn=>?_)
 ·dsimp only
  exact wpAny_pure (q false s.heap L es ep t (Heap.SameBut.refl a s.heap) R (λ_=>rfl) λz=>absurd hm z)
 have few1:=hfew hm
 dsimp only
 refine wpAny_bind (wpAny_setState_of ho hd R.fits ?_)
 dsimp only
 obtain⟨q1,q2,q3,q4,q5,q6,q7,q8,q9⟩:=R.tab.put out inn;have pl1:(t.put (way t.mask (hf r) N)).1.plain=true:=by rw[q6];exact R.pl
 generalize hpt:t.put (way t.mask (hf r) N)=pt at q1 q3 q4 q5 q6 q7 q8 q9 pl1 ⊢;obtain⟨t1,n⟩:=pt
 dsimp only at q1 q3 q4 q5 q6 q7 q8 q9 pl1 ⊢
 subst q1
 first
  |(refine wpAny_bind ?_;refine wp_if_pos pl1 ?_;refine(Ig hx).2 ?_)
  |refine wp_if_pos pl1 (wpAny_bind ((Ig hx).2 ?_))
 simp only[if_true];have ein:(SetTable.insertAt es (SetTable.below t.place (way t.mask (hf r) N)) (hf r,Value.ref x)).toList=ents hf (L.take (SetTable.below t.place (way t.mask (hf r) N))++(x,r)::L.drop (SetTable.below t.place (way t.mask (hf r) N))):=by rw[SetTable.toList_insertAt,aez,R.en]
 generalize hnn:SetTable.below t.place (way t.mask (hf r) N)=n at q2 q3 ein ⊢;have pm:=put_perm L n (x,r);have hs1:(L.take n++(x,r)::L.drop n).map (λp=>hf p.2)=(L.map λp=>hf p.2).take n++hf r::(L.map λp=>hf p.2).drop n:=by rw[List.map_append,aqh,List.map_take,List.map_drop]
 rw[←hs1]at q3;have nd1:((L.take n++(x,r)::L.drop n).map Prod.snd).Nodup:=by refine(pm.map Prod.snd).nodup_iff.mpr ?_;rw[aqh];exact ark.mpr ⟨hm,R.nd⟩
 have len1:(SetTable.insertAt es n (hf r,Value.ref x)).size=L.length+1:=by rw[yE ein,pm.length_eq];rfl
 generalize SetTable.insertAt es n (hf r,Value.ref x)=es1 at ein len1 ⊢;have lenM:(L.take n++(x,r)::L.drop n).length=L.length+1:=pm.length_eq;generalize L.take n++(x,r)::L.drop n=M at pm q3 nd1 ein lenM;refine wpAny_bind (wpAny_storeSet_of ho hd ?_ (by rw[len1,sizeLine_eq];omega));have sb:Heap.SameBut a s.heap (s.heap.update a (Obj.putSet es1 t1)):=Heap.SameBut.update ..;have ho1:=store_at (es':=es1) (t':=t1) ho hd;generalize s.heap.update a (Obj.putSet es1 t1)=h1 at sb ho1 ⊢;have ky1:∀p∈M,RI h1 p.2 p.1:=λp hp=>by
  rcases aqt.mp (pm.mem_iff.mp hp) with e|m
  ·rw[e];exact Xg hx ho hd sb
  ·exact Xg (R.ky p m) ho hd sb
 have ld1:w.params.followText "set-order"=true∨t1.led=true:=by rw[q5];exact R.ld
 have full:t1.tooFull=true↔(L.length+1) * 5 ≥ t1.mask * 3:=by unfold SetTable.tooFull;rw[ars,q9,aqo]
 by_cases hfu:t1.tooFull=true
 ·first
   |(refine wpAny_bind ?_;refine wp_if_pos (by simp[hfu]) ?_)
   |(refine wp_if_pos (by simp[hfu]) ?_;refine wpAny_bind ?_)
  have over:=full.mp hfu;rw[len];have psz:t1.place.size=es1.size:=by have:=q3.sz;rw[aqo,lenM]at this;rw[this,len1]
  have which:(t.mask=7/\L.length=4)∨(t.mask=31/\L.length=18):=by
   rcases R.tab.mok with e|e|e
   ·rw[q4,e]at over;rw[e]at hfree;exact Or.inl ⟨e,by omega⟩
   ·rw[q4,e]at over;rw[e]at hfree;exact Or.inr ⟨e,by omega⟩
   ·rw[q4,e]at over;omega
  have go:∀m,SetTable.sizeAbove (SetTable.grown (L.length+1)) - 1=m->MaskOk m->SetTable.sizeAbove (SetTable.grown (L.length+1))<=128->(L.length+1) * 5 < m * 3->
    wpAny (model P w) A (setRelay a (SetTable.grown (L.length+1))) (λ_ u=>wpAny (model P w) A (pure true) Q E u) E { s with heap:=h1 }:=λm g1 g2 g3 g4=>
   akz (s:={ s with heap:=h1 }) ho1 ⟨hex.1,hex.2.1,hex.2.2⟩ rfl ein psz q3.dm (by rw[len1,q4];rcases which with⟨e,e2⟩|⟨e,e2⟩<;>omega) nd1 ky1 pl1 ld1 (by rw[lenM];exact few1) g1 g2 g3 (by rw[lenM];exact g4)
    λh2 K es2 ep2 t2 sb2 R2 pm2=>wpAny_pure (q true h2 K es2 ep2 t2 (sb.trans sb2) R2 (λz=>absurd z hm) λ_=>pm2.trans pm)
  rcases which with⟨_,e2⟩|⟨_,e2⟩
  ·exact go 31 (by rw[e2,size_20]) (.inr (.inl rfl)) (by rw[e2,size_20];decide) (by omega)
  ·exact go 127 (by rw[e2,size_76]) (.inr (.inr rfl)) (by rw[e2,size_76];decide) (by omega)
 ·first
   |refine wp_if_neg (by simp[hfu]) ?_
   |(refine wpAny_bind ?_;refine wp_if_neg (by simp[hfu]) ?_;refine wpAny_pure ?_)
  have under:¬(L.length+1) * 5 ≥ t1.mask * 3:=λz=>hfu (full.mpr z);exact wpAny_pure (q true h1 M es1 (ep+1) t1 sb ⟨⟨_,ho1,⟨hex.1,hex.2.1,hex.2.2⟩,rfl⟩,ein,q3,nd1,ky1,pl1,ld1,by rw[lenM];omega,by rw[lenM];exact few1⟩ (λz=>absurd z hm) λ_=>pm)
end
theorem Cv{α:Type}[DecidableEq α]:∀(l D:List α),l.Nodup->(∀x∈l,x∈D)->l.length<=D.length
 |[],_,_,_=>aqT _
 |x::l,D,hn,hs=>by
  obtain⟨h1,h2⟩:=ark.mp hn;have mx:=hs x aqj;have ih:=Cv l (D.erase x) h2 λy hy=>(List.mem_erase_of_ne (λe=>h1 (by rw[←e];exact hy))).2 (hs y (aqk _ hy));have e:=List.length_erase_of_mem mx;have hp:=List.length_pos_of_mem mx;rw[aqu];omega
structure Has(ks:List Ent)(i:Nat)(L:List Ent):Prop where
 sub:∀p∈L,p∈ks.take i
 all:∀p∈ks.take i,p.2∈L.map Prod.snd
theorem CT{α:Type}{l:List α}{i:Nat}{x:α}(h:l[i]?=some x):l.take (i+1)=l.take i++[x]:=by rw[List.take_add_one,h];rfl
theorem Has.next{ks L K:List Ent}{i:Nat}{x:Ent}(g:Has ks i L)(h:ks[i]?=some x)(h1:x.2∈L.map Prod.snd->K=L)(h2:x.2∉L.map Prod.snd->K.Perm (x::L)):Has ks (i+1) K:=by
 by_cases c:x.2∈L.map Prod.snd
 ·rw[h1 c];refine⟨λp hp=>?_,λp hp=>?_⟩
  ·rw[CT h];exact aqP _ (g.sub p hp)
  ·rw[CT h]at hp;rcases aqq.mp hp with m|m
   ·exact g.all p m
   ·rw[aql.mp m];exact c
 ·have pm:=h2 c;refine⟨λp hp=>?_,λp hp=>?_⟩
  ·rw[CT h];rcases aqt.mp (pm.mem_iff.mp hp) with e|m
   ·exact aqZ _ (aql.mpr e)
   ·exact aqP _ (g.sub p m)
  ·rw[(pm.map Prod.snd).mem_iff,aqh];rw[CT h]at hp;rcases aqq.mp hp with m|m
   ·exact aqk _ (g.all p m)
   ·rw[aql.mp m];exact aqj
def za(w:World):Obj:={ cls:=.type "set",dict:=none,data:=.set #[] 0 (.fresh 0 0 (!w.params.followText "set-order")) }
section
variable{P:Program}{w:World}{A:Around}{E:Value->Shared->Prop}{s:Shared}{hf:Rw->Int}
theorem qD.stay{h h':Heap}{a:Addr}{L:List Ent}{es:Array (Int×Value)}{ep:Nat}{t:SetTable}(R:qD hf w h a L es ep t)(ha:∀o,h.get? a=some o->h'.get? a=some o)(hk:∀p∈L,RI h' p.2 p.1):qD hf w h' a L es ep t:=by obtain⟨o,ho,r⟩:=R.ob;exact⟨⟨o,ha o ho,r⟩,R.en,R.tab,R.nd,hk,R.pl,R.ld,R.free,R.few⟩
theorem aeQ{h:Heap}{a:Addr}(ho:h.get? a=some (za w)):qD hf w h a [] #[] 0 (.fresh 0 0 (!w.params.followText "set-order")):=by
 refine⟨⟨_,ho,⟨rfl,rfl,rfl⟩,rfl⟩,rfl,⟨List.Pairwise.nil,rfl,rfl,.inl rfl,λx hx=>(by cases hx),λi h j hi=>(by simp at hi)⟩,List.nodup_nil,λp hp=>(by cases hp),rfl,?_,(show 0 * 5 < 7 * 3 by decide),aqT _⟩;show _∨(!w.params.followText "set-order")=true
 cases w.params.followText "set-order"
 ·exact .inr rfl
 ·exact .inl rfl
theorem ahn(hhf:∀r,(mX P w).hash r=hf r){I:Addr}{fp wr:List Addr}{G:Array GenState->Array GenState->Prop}{n:Nat}{Pv:Nat->Value->Prop}{St:Nat->Shared->Prop}{R:Result->Shared->Prop}(W:WalksS P w A.in1 I fp wr G n Pv St)(S:Addr)(hSf:S∉fp)(ks:List Ent)(hn:n=ks.length)
  (D:List Rw) (hD:D.length<=76) (hkD:∀p∈ks,p.2∈D) (hval:∀i v,Pv i v->∃p,ks[i]?=some p/\v=.ref p.1) (h0:Heap) (hk:∀p∈ks,RI h0 p.2 p.1) (hS0:h0.get? S=none) (hw0:∀b∈wr,h0.get? b=none) (hu:(mX P w).room A.in1) :
  ∀(m i:Nat) (s:Shared),n - i=m->i<=n->St i s->(∀b o,h0.get? b=some o->s.heap.get? b=some o)->(∃L es ep t,qD hf w s.heap S L es ep t/\Has ks i L)->
   (∀u L es ep t,Moved (S::wr) G s u->qD hf w u.heap S L es ep t->Has ks n L->(∀b o,h0.get? b=some o->u.heap.get? b=some o)->R (.ok (.ret .none)) u)->
   codeAny (model P w) A (.builtin "set.update.loop" ⟨[.ref S,.ref I],[]⟩) R s:=by
 have Sw:S∉wr:=λh=>hSf (W.sub _ h);have wS:∀b∈wr,b∈S::wr:=λb hb=>aqk _ hb;have old:∀{s u:Shared},Moved wr G s u->(∀b o,h0.get? b=some o->s.heap.get? b=some o)->∀b o,h0.get? b=some o->u.heap.get? b=some o:=λhm hkp b o e=>hm.heap b o (λhb=>by rw[hw0 b hb]at e;cases e) (hkp b o e);intro m
 induction m with
 |zero=>
  intro i s hm0 hi hst hkp ⟨L,es,ep,t,hS,g⟩ hR
  obtain rfl:i=n:=by omega
  refine codeAny_builtin PyProof.Rows.F.entry_set_update_loop ?_;rw[Around.under_plainId PyProof.Rows.F.plain_set_update_loop _];refine wpAny_bind (W.done s _ _ hst λu hm=>?_);have kept:=old hm hkp;exact wpAny_pure (hR u L es ep t (hm.mono wS) (hS.stay (λo e=>hm.heap S o Sw e) λp hp=>RL (hk p (ara (g.sub p hp))) kept) g kept)
 |succ m ih=>
  intro i s hm0 hi hst hkp ⟨L,es,ep,t,hS,g⟩ hR;have hlt:i < n:=by omega
  refine codeAny_builtin PyProof.Rows.F.entry_set_update_loop ?_;rw[Around.under_plainId PyProof.Rows.F.plain_set_update_loop _];refine wpAny_bind (W.item i s _ _ hlt hst λv u hP hst' hm=>?_);obtain⟨p,hp,rfl⟩:=hval i v hP;have kept:=old hm hkp;have hS':qD hf w u.heap S L es ep t:=hS.stay (λo e=>hm.heap S o Sw e) λq hq=>RL (hk q (ara (g.sub q hq))) kept;have hx:RI u.heap p.2 p.1:=RL (hk p (aqm hp)) kept;refine wpAny_bind (wpAny_holding ?_);unfold setAdd;refine wpAny_holding ?_;refine wpAny_bind ((mX P w).pyHash hu hx ?_);rw[hhf];have inD:∀y∈L.map Prod.snd,y∈D:=λy hy=>by
   obtain⟨q,hq,e⟩:=aqp.mp hy;rw[←e];exact hkD q (ara (g.sub q hq))
  refine aj5 (s:={ u with toks:=u.toks+(mX P w).draws p.2 }) hS' hx hu (λhnew=>?_) λb h' K es' ep' t' sb hS2 c1 c2=>?_
  ·have:=Cv (p.2::L.map Prod.snd) D (ark.mpr ⟨hnew,hS.nd⟩) λy hy=>by
    rcases aqt.mp hy with e|hy
    ·rw[e];exact hkD p (aqm hp)
    ·exact inD y hy
   rw[aqu,aqo]at this;omega
  have kept2:∀b o,h0.get? b=some o->h'.get? b=some o:=λb o e=>(sb.2 b (λz=>by rw[z,hS0]at e;cases e)).trans (kept b o e);refine wpAny_pure ⟨plainId_quiet PyProof.Rows.F.plain_set_update_loop _,ih (i+1) _ (by omega) hlt (W.frame _ u _ _ hst' (Nat.le_add_right _ _) λb hb o e=>?_) kept2 ⟨K,es',ep',t',hS2,g.next hp c1 c2⟩ λv L2 es2 ep2 t2 hm2 hS3 g3 k3=>?_⟩
  ·rw[sb.2 b (λh:b=S=>hSf (by rw[←h];exact hb))];exact e
  ·refine hR v L2 es2 ep2 t2 (Moved.trans W.gtrans ((hm.mono wS).then_heap (Nat.le_add_right _ _) λb o hb e=>?_) hm2) hS3 g3 k3;rw[sb.2 b (λh:b=S=>hb (by rw[h];exact aqj))];exact e
set_option maxHeartbeats 4000000 in
theorem Zz(hhf:∀r,(mX P w).hash r=hf r){l:Addr}{items:Array Value}(ks:List Ent)(D:List Rw)(hD:D.length<=76)(hkD:∀p∈ks,p.2∈D){Q:Value->Shared->Prop}(hh:A.handled=none)(hl:s.heap.IsList l items)(hit:items.toList=ks.map λp=>Value.ref p.1)
  (hk:∀p∈ks,RI s.heap p.2 p.1) (hu:A.units+3+8 < cLine)
  (h:∀(h':Heap) (tk:Nat) L es ep t,qD hf w h' s.heap.objs.size L es ep t->Has ks ks.length L->(∀b o,s.heap.get? b=some o->h'.get? b=some o)->Q (.ref s.heap.objs.size) { s with heap:=h',toks:=tk }) :
  wpAny (model P w) A (call (.type "set") [.ref l]) Q E s:=by
 have isz:items.size=ks.length:=by rw[←aqN,hit,aqo]
 obtain⟨cc,tl,hmro⟩:=PySem.F.called_set.mro;have hmade:=PySem.F.called_set.made;have hsub:=PySem.F.called_set.sub;refine wpAny_call (codeAny_of_tree ?_);show wpAny _ _ (callAny (.type "set") _) _ _ _
 refine wpAny_pure ⟨Code.quiet_builtin _ (by decide +kernel),codeAny_builtin PySem.F.entry_type_call ?_⟩;rw[Around.under_plain (weight_type_call_type "set" [.ref l] []) rfl]
 have nt:=PySem.F.called_set.notType;have cr:=PySem.F.called_set.canCreate;have hct:=PySem.F.typeCall_set_1 (.ref l)
 (repeat (any_goals first | assumption | wp_step))
 refine codeAny_mono (code_set_led1 (.ref l) (E:=E) (Q₁:=λv u=>v=.ref s.heap.objs.size/\u={ s with heap:=s.heap.push (za w) }) ⟨rfl,rfl⟩) λr u hr=>?_;cases r with
 |error e=>exact hr
 |ok fl=>
  cases fl with
  |ret v=>
   obtain⟨rfl,rfl⟩:=hr;have hS:(s.heap.push (za w)).get? s.heap.objs.size=some (za w):=Heap.get?_push_size _ rfl;have hT:Shared.TypeIs { s with heap:=s.heap.push (za w) } (.ref s.heap.objs.size) "set":=⟨_,hS,rfl⟩
   have hli:=PySem.F.called_set.init.lookup;have hbi:=PySem.F.called_set.init.bind (.ref s.heap.objs.size)
   (repeat (any_goals first | assumption | wp_step))
   refine codeAny_mono (codeAny_call_builtin (R:=wants (λr u=>r=.none/\∃h' tk L es ep t,u={ s with heap:=h',toks:=tk }/\qD hf w h' s.heap.objs.size L es ep t/\Has ks ks.length L/\∀b o,s.heap.get? b=some o->h'.get? b=some o) E) PySem.F.called_set.init.plain PySem.F.entry_set_init (check_set_init_1 hT ?_)) λr₂ u₂ hr₂=>?_
   ·obtain⟨ol,hol,hcl,nl,hdl⟩:=hl;obtain⟨ocls,odict,odata,oslots⟩:=ol;simp only at hcl hdl;subst hcl;subst hdl;have hol':(s.heap.push (za w)).get? l=some { cls:=.type "list",dict:=odict,data:=.seq items nl,slots:=oslots }:=Heap.get?_push_of_some _ hol
    have sl1:=PySem.F.sub_list_set;have sl2:=PySem.F.sub_list_frozenset;have nd:(Value.type "list"==Value.type "dict")=false:=by decide
    have hl1:(s.heap.push (za w)).IsList l items:=⟨_,hol',rfl,nl,rfl⟩;unfold Builtin.«set.__init__» noKeywords Builtin.Frozenset.updateFrom;generalize hPI:pyIter=PI
    wp_walk
    subst hPI;refine wpAny_pyIter_list hl1 ?_;refine wpAny_bind (wpAny_runValue ?_);have lS:l < s.heap.objs.size:=Heap.lt_size hol;have h3:A.in1.in1.in1.handled=none:=by simp[hh]
    have sz1:(s.heap.push (za w)).objs.size=s.heap.objs.size+1:=Heap.size_push ..;have lI:l≠(s.heap.push (za w)).objs.size:=by rw[sz1];exact aqL (aq9 lS)
    have Sf:s.heap.objs.size∉[(s.heap.push (za w)).objs.size,l]:=by rw[sz1];simp only[aqt,aqM,or_false,not_or];exact⟨aqL (Nat.lt_succ_self _),Nat.ne_of_gt lS⟩
    have hval:∀(i:Nat) (v:Value),items[i]?=some v->∃p,ks[i]?=some p/\v=.ref p.1:=λi v hv=>by
     rw[←aqU,hit,aqs]at hv;obtain⟨p,g1,g2⟩:=aq1.mp hv;exact⟨p,g1,g2.symm⟩
    have fresh:∀b,s.heap.objs.size<=b->s.heap.get? b=none:=λb hb=>by
     cases q:s.heap.get? b with
     |none=>rfl
     |some o=>exact absurd (Heap.lt_size q) (Nat.not_lt_of_le hb)
    refine ahn hhf ((Walks.list h3 _ l lI items).toS) s.heap.objs.size Sf ks isz D hD hkD hval s.heap hk (fresh _ (aqF _)) (λb hb=>fresh b (by rw[aql.mp hb,sz1];exact Nat.le_succ _)) hu (items.size - 0) 0 _ (by omega) (aqT _)
     ⟨⟨_,Heap.get?_push_size _ rfl,rfl,rfl⟩,(hl1.push _)⟩ (λb o e=>Heap.get?_push_of_some _ (Heap.get?_push_of_some _ e)) ⟨[],#[],0,_,aeQ (Heap.get?_push_of_some _ hS),⟨λp hp=>(by cases hp),λp hp=>(by simp at hp)⟩⟩ λu L es ep t hm hS' g' kp=>?_
    obtain⟨h',g2,d',tk',os'⟩:=u;have eg:g2=s.gens:=hm.gens;have ed:d'=s.drawn:=hm.drawn;have eo:os'=s.os:=hm.os;subst eg;subst ed;subst eo;refine wpAny_pure ?_;rw[isz]at g';exact wpAny_pure ⟨rfl,h',tk',L,es,ep,t,rfl,hS',g',kp⟩
   ·cases r₂ with
    |error e=>exact hr₂
    |ok fl₂=>
     cases fl₂ with
     |ret r=>
      obtain⟨rfl,h',tk,L,es,ep,t,rfl,hS',g',hk'⟩:=hr₂
      (repeat (any_goals first | assumption | wp_step))
      exact h _ _ _ _ _ _ hS' g' hk'
     |_=>exact hr₂.elim
  |_=>exact hr.elim
end
def abt(w:World)(h:Heap)(a:Addr)(L:List Ent):Prop:=∃(hf:Rw->Int) (es:Array (Int×Value)) (ep:Nat) (t:SetTable),(∃o,h.get? a=some o/\o.ExactSet/\o.data=.set es ep t)/\es.toList=ents hf L/\t.fits es.size=true/\Ris t.place.toList/\(w.params.followText "set-order"=true∨t.led=true)
def Lk(w:World)(a:Addr)(L:List Ent):HO:=.ext λh=>abt w h a L
section
variable{X:Cx}
theorem Ux{P:Program}{w:World}{h:Heap}:∀(l:List Int) (us:List Value),Vals (l.map V.int) us->NestedAll h (l.map .num) us
 |[],_,.nil=>.nil
 |i::l,_,.cons r t=>by
  obtain⟨tk,rfl⟩:=r;exact .cons (.int i tk) (Ux (P:=P) (w:=w) l _ t)
theorem Vi:∀{ks:List Ent} {us:List Value},Vals (ks.map λp=>V.ref p.1) us->us=ks.map λp=>Value.ref p.1
 |[],_,.nil=>rfl
 |p::ks,_,.cons r t=>by
  cases r;rw[Vi t];rfl
theorem Um{L:List Ent}:∀(out:List Value) (M:List Rw),PySem.W.EachIs (λv (r:Rw)=>∃p∈L,v=Value.ref p.1/\r=p.2) out M->∃ys:List V,Vals ys out/\fj (λv (r:Rw)=>∃p∈L,v=V.ref p.1/\r=p.2) ys M
 |[],[],.nil=>⟨[],.nil,fj.nil⟩
 |_::out,_::M,.cons ⟨p,hp,e1,e2⟩ k=>by
  obtain⟨ys,h1,h2⟩:=Um out M k;subst e1 e2;refine⟨.ref p.1::ys,.cons rfl h1,by rw[aqu,aqu,h2.1],λj u y g1 g2=>?_⟩;cases j with
  |zero=>
   cases g1;cases g2;exact⟨p,hp,rfl,rfl⟩
  |succ j=>exact h2.2 j u y g1 g2
end
def gF(da dc:Addr):List (Str×V):=putF ("circles" : Str) (.ref dc) (putF ("allowances" : Str) (.ref da) [])
structure aeF(C:Addr)(H:Hp)(p da dc:Addr)(al:List Int)(ci:List (List Int)):Prop where
 ob:∃dx,H p=some (.ins C dx (gF da dc))
 la:H da=some (.lst (al.map V.int))
 lc:∃us,H dc=some (.lst us)/\fj (Hq H) us ci
 ne:da≠dc
theorem aeF.mono{C:Addr}{H H':Hp}(e:Ex H H'){p da dc:Addr}{al:List Int}{ci:List (List Int)}(g:aeF C H p da dc al ci):aeF C H' p da dc al ci:=by obtain⟨⟨dx,ob⟩,la,⟨us,h1,h2⟩,ne⟩:=g;exact⟨⟨dx,e _ _ ob⟩,e _ _ la,⟨us,e _ _ h1,h2.imp λ_ _ r=>r.mono e⟩,ne⟩
end Ear
namespace Rf
open PySem PySem.Spec PyProof.Rows L2 Evl
abbrev obj(h:Nat):Dat:=PyData.dict [(PyData.none,PyData.int (Int.ofNat h))]
inductive iV where
 |dat (d:Dat)|lst (n:Nat) (xs:List Dat)|dic (n:Bool) (kvs:List (Dat×Dat))
structure aQ where
 f:Str->Option Addr
 fl:Str->List Str
 w:World
instance:CoeFun aQ λ_=>Str->Option Addr:=⟨aQ.f⟩
structure Inst where
 cls:Str
 fs:List (Str×iV)
abbrev Mo:=List Inst
inductive Cell where
 |dat (d:Dat)|mut (xs:List Dat)
abbrev Env:=List (Option Cell)
structure cY where
 cls:Str
 fs:List (Str×Dat)
inductive Out(α:Type) where
 |ok (a:α)|exc (x:cY)|bad
inductive bB(α:Type) where
 |ok (a:α) (M:Mo)|exc (x:cY) (M:Mo)|bad
inductive uM where
 |next (Z:Env) (M:Mo)|ret (d:Dat) (M:Mo)|brk (Z:Env) (M:Mo)|cont (Z:Env) (M:Mo)|exc (x:cY) (Z:Env) (M:Mo)|bad
structure Gh where
 tbl:List Addr
 ow:Addr->Option (Nat×Str)
 Lc:Addr->Prop
 Lo:Addr->Prop
def Gh.W(g:Gh)(a:Addr):Prop:=a∈g.tbl∨g.ow a≠none
def Gh.A(g:Gh)(a:Addr):Prop:=g.W a∨g.Lc a∨g.Lo a
def Ij:HO->Prop
 |.tup _=>False
 |.frz _ _=>False
 |_=>True
def amt(K:aqe)(a:Addr)(xs:List V):Prop:=∃(o:Obj) (its:Array Value) (n:Nat),K.lookup a=some o/\o.cls=.type "list"/\o.dict=none/\o.data=.seq its n/\its.size<=sizeLine/\Vals xs its.toList
def OD(K:aqe)(g:Gh)(H:Hp)(a:Addr)(xs:List V):Prop:=(Rd H a (.lst xs)/\¬g.A a)∨amt K a xs
theorem OD.sq{K:aqe}{g:Gh}{H:Hp}{a:Addr}{xs:List V}(h:OD K g H a xs):SqL K H a xs:=h.elim (λz=>.inl z.1) .inr
mutual
inductive Rep(K:aqe)(g:Gh)(H:Hp):V->Dat->Prop
 |non:Rep K g H .non .none
 |bl (b:Bool):Rep K g H (.bl b) (.bool b)
 |int (i:Int):Rep K g H (.int i) (.int i)
 |str (x:Str):Rep K g H (.str x) (.str x)
 |tup {a:Addr} {xs:List V} {ds:List Dat}:SqT K H a xs->aJ K g H xs ds->Rep K g H (.ref a) (.tuple ds)
 |lst {a:Addr} {xs:List V} {ds:List Dat}:OD K g H a xs->aJ K g H xs ds->Rep K g H (.ref a) (.list ds)
 |obj {a:Addr} {h:Nat}:g.tbl[h]?=some a->Rep K g H (.ref a) (obj h)
inductive aJ(K:aqe)(g:Gh)(H:Hp):List V->List Dat->Prop
 |nil:aJ K g H [] []
 |cons {v:V} {vs:List V} {d:Dat} {ds:List Dat}:Rep K g H v d->aJ K g H vs ds->aJ K g H (v::vs) (d::ds)
end
structure Kd(g:Gh)(H:Hp):Prop where
 ob:∀a,g.A a->∃o,H a=some o/\Ij o
 lo:∀a,g.Lo a->¬g.W a
 lc:∀a,g.Lc a->¬g.W a/\¬g.Lo a
structure Gr(q:Bool)(g g':Gh)(H H':Hp):Prop where
 keep:∀a o,H a=some o->¬g.W a->¬g.Lo a->H' a=some o
 keepW:q=true->∀a o,H a=some o->g.W a->H' a=some o
 dom:∀a,H' a=none->H a=none
 tbl:∃more,g'.tbl=g.tbl++more
 W:∀a,g.W a->g'.W a
 nW:∀a,g'.W a->g.W a∨H a=none
 qg:q=true->g'.tbl=g.tbl/\g'.ow=g.ow
 Lc:g'.Lc=g.Lc
 Lo:∀a,g.Lo a->g'.Lo a
 nLo:∀a,g'.Lo a->g.Lo a∨H a=none
section
variable{K:aqe}{q:Bool}{g g' g2:Gh}{H H' H2:Hp}{v:V}{d:Dat}
theorem Gr.refl:Gr q g g H H:=⟨λ_ _ h _ _=>h,λ_ _ _ h _=>h,λ_ h=>h,⟨[],by simp⟩,λ_ h=>h,λ_ h=>.inl h,λ_=>⟨rfl,rfl⟩,rfl,λ_ h=>h,λ_ h=>.inl h⟩
theorem Cq(e:Ex H H'):∀a,H' a=none->H a=none:=λa h=>by
 cases h1:H a with
 |none=>rfl
 |some o=>
  rw[e a o h1]at h;cases h
theorem Gr.ex(e:Ex H H'):Gr q g g H H':=⟨λa o h _ _=>e a o h,λ_ a o h _=>e a o h,Cq e,⟨[],by simp⟩,λ_ h=>h,λ_ h=>.inl h,λ_=>⟨rfl,rfl⟩,rfl,λ_ h=>h,λ_ h=>.inl h⟩
theorem Gr.trans(a:Gr q g g' H H')(b:Gr q g' g2 H' H2):Gr q g g2 H H2 where
 keep:=λx o h nw nl=>by
  have h1:=a.keep x o h nw nl;refine b.keep x o h1 (λz=>?_) (λz=>?_)
  ·rcases a.nW x z with z|z
   ·exact nw z
   ·rw[h]at z;cases z
  ·rcases a.nLo x z with z|z
   ·exact nl z
   ·rw[h]at z;cases z
 keepW:=λhq x o h w=>b.keepW hq x o (a.keepW hq x o h w) (a.W x w)
 dom:=λx h=>a.dom x (b.dom x h)
 tbl:=by obtain⟨m1,e1⟩:=a.tbl;obtain⟨m2,e2⟩:=b.tbl;exact⟨m1++m2,by rw[e2,e1,List.append_assoc]⟩
 W:=λx h=>b.W x (a.W x h)
 nW:=λx h=>by
  rcases b.nW x h with z|z
  ·exact a.nW x z
  ·exact .inr (a.dom x z)
 qg:=λhq=>by
  obtain⟨e1,e2⟩:=a.qg hq;obtain⟨f1,f2⟩:=b.qg hq;exact⟨f1.trans e1,f2.trans e2⟩
 Lc:=b.Lc.trans a.Lc
 Lo:=λx h=>b.Lo x (a.Lo x h)
 nLo:=λx h=>by
  rcases b.nLo x h with z|z
  ·exact a.nLo x z
  ·exact .inr (a.dom x z)
theorem Gr.loud(a:Gr q g g' H H'):Gr false g g' H H':=⟨a.keep,(λh=>nomatch h),a.dom,a.tbl,a.W,a.nW,(λh=>nomatch h),a.Lc,a.Lo,a.nLo⟩
theorem Gr.nA(r:Gr q g g' H H'){a:Addr}{o:HO}(h:H a=some o)(n:¬g.A a):¬g'.A a:=λz=>by
 rcases z with z|z|z
 ·rcases r.nW a z with z|z
  ·exact n (.inl z)
  ·rw[h]at z;cases z
 ·rw[r.Lc]at z;exact n (.inr (.inl z))
 ·rcases r.nLo a z with z|z
  ·exact n (.inr (.inr z))
  ·rw[h]at z;cases z
theorem Gr.rd(r:Gr q g g' H H'){a:Addr}{o:HO}(h:Rd H a o)(n:¬g.A a):Rd H' a o/\¬g'.A a:=by
 rcases h with h|⟨z,h⟩
 ·exact⟨.inl (r.keep a _ h (λw=>n (.inl w)) λw=>n (.inr (.inr w))),r.nA h n⟩
 ·exact⟨.inr ⟨z,r.keep a _ h (λw=>n (.inl w)) λw=>n (.inr (.inr w))⟩,r.nA h n⟩
theorem Kd.tup(k:Kd g H){a:Addr}{xs:List V}(h:Rd H a (.tup xs)):¬g.A a:=λz=>by
 obtain⟨o,e,m⟩:=k.ob a z;rcases h with h|⟨y,h⟩<;>(rw[h]at e;cases e;exact m)
theorem Gr.sqT(r:Gr q g g' H H')(k:Kd g H){a:Addr}{xs:List V}(h:SqT K H a xs):SqT K H' a xs:=by
 rcases h with h|h
 ·exact .inl (r.rd h (k.tup h)).1
 ·exact .inr h
theorem Gr.ls(r:Gr q g g' H H'){a:Addr}{xs:List V}(h:OD K g H a xs):OD K g' H' a xs:=by
 rcases h with⟨h,n⟩|h
 ·exact .inl (r.rd h n)
 ·exact .inr h
theorem Gr.tb(r:Gr q g g' H H'){h:Nat}{a:Addr}(e:g.tbl[h]?=some a):g'.tbl[h]?=some a:=by obtain⟨m,em⟩:=r.tbl;rw[em,aqr (aqg.mp e).1];exact e
mutual
theorem Rep.gr(r:Gr q g g' H H')(k:Kd g H):∀{v:V} {d:Dat},Rep K g H v d->Rep K g' H' v d
 |_,_,.non=>.non
 |_,_,.bl b=>.bl b
 |_,_,.int i=>.int i
 |_,_,.str x=>.str x
 |_,_,.tup h t=>.tup (r.sqT k h) (aJ.gr r k t)
 |_,_,.lst h t=>.lst (r.ls h) (aJ.gr r k t)
 |_,_,.obj h=>.obj (r.tb h)
theorem aJ.gr(r:Gr q g g' H H')(k:Kd g H):∀{vs:List V} {ds:List Dat},aJ K g H vs ds->aJ K g' H' vs ds
 |_,_,.nil=>.nil
 |_,_,.cons h t=>.cons (Rep.gr r k h) (aJ.gr r k t)
end
mutual
theorem Rep.less(e:g'.tbl=g.tbl)(n:∀a,g'.A a->g.A a):∀{v:V} {d:Dat},Rep K g H v d->Rep K g' H v d
 |_,_,.non=>.non
 |_,_,.bl b=>.bl b
 |_,_,.int i=>.int i
 |_,_,.str x=>.str x
 |_,_,.tup h t=>.tup h (aJ.less e n t)
 |_,_,.lst h t=>.lst (h.elim (λz=>.inl ⟨z.1,λy=>z.2 (n _ y)⟩) .inr) (aJ.less e n t)
 |_,_,.obj h=>.obj (by rw[e];exact h)
theorem aJ.less(e:g'.tbl=g.tbl)(n:∀a,g'.A a->g.A a):∀{vs:List V} {ds:List Dat},aJ K g H vs ds->aJ K g' H vs ds
 |_,_,.nil=>.nil
 |_,_,.cons h t=>.cons (Rep.less e n h) (aJ.less e n t)
end
mutual
def lf:Dat->Bool
 |.list _=>false
 |.tuple ds=>MF ds
 |.dict _=>true
 |.none=>true
 |.bool _=>true
 |.int _=>true
 |.str _=>true
def MF:List Dat->Bool
 |[]=>true
 |d::ds=>lf d&&MF ds
end
mutual
theorem Rep.free(e:g'.tbl=g.tbl):∀{v:V} {d:Dat},lf d=true->Rep K g H v d->Rep K g' H v d
 |_,_,_,.non=>.non
 |_,_,_,.bl b=>.bl b
 |_,_,_,.int i=>.int i
 |_,_,_,.str x=>.str x
 |_,_,f,.tup h t=>.tup h (aJ.free e (by rw[lf]at f;exact f) t)
 |_,_,f,.lst h t=>by rw[lf]at f;cases f
 |_,_,_,.obj h=>.obj (by rw[e];exact h)
theorem aJ.free(e:g'.tbl=g.tbl):∀{vs:List V} {ds:List Dat},MF ds=true->aJ K g H vs ds->aJ K g' H vs ds
 |_,_,_,.nil=>.nil
 |_,_,f,.cons h t=>.cons (Rep.free e (by rw[MF,aqf]at f;exact f.1) h) (aJ.free e (by rw[MF,aqf]at f;exact f.2) t)
end
theorem aJ.length:∀{vs:List V} {ds:List Dat},aJ K g H vs ds->vs.length=ds.length
 |_,_,.nil=>rfl
 |_,_,.cons _ t=>congrArg (· + 1) t.length
theorem aJ.get:∀{vs:List V} {ds:List Dat} {i:Nat} {d:Dat},aJ K g H vs ds->ds[i]?=some d->∃v,vs[i]?=some v/\Rep K g H v d
 |_,_,_,_,.nil,e=>by simp at e
 |_,_,0,_,.cons h _,e=>by simp at e;subst e;exact⟨_,rfl,h⟩
 |_,_,i+1,_,.cons _ t,e=>by simpa using t.get (i:=i) (by simpa using e)
theorem aJ.get':∀{vs:List V} {ds:List Dat} {i:Nat} {v:V},aJ K g H vs ds->vs[i]?=some v->∃d,ds[i]?=some d/\Rep K g H v d
 |_,_,_,_,.nil,e=>by simp at e
 |_,_,0,_,.cons h _,e=>by simp at e;subst e;exact⟨_,rfl,h⟩
 |_,_,i+1,_,.cons _ t,e=>by simpa using t.get' (i:=i) (by simpa using e)
theorem aJ.append:∀{vs ws:List V} {ds es:List Dat},aJ K g H vs ds->aJ K g H ws es->aJ K g H (vs++ws) (ds++es)
 |_,_,_,_,.nil,t=>t
 |_,_,_,_,.cons h r,t=>.cons h (r.append t)
theorem aJ.take:∀{vs:List V} {ds:List Dat} (n:Nat),aJ K g H vs ds->aJ K g H (vs.take n) (ds.take n)
 |_,_,0,_=>.nil
 |_,_,_+1,.nil=>.nil
 |_,_,n+1,.cons h t=>.cons h (t.take n)
theorem aJ.drop:∀{vs:List V} {ds:List Dat} (n:Nat),aJ K g H vs ds->aJ K g H (vs.drop n) (ds.drop n)
 |_,_,0,t=>t
 |_,_,_+1,.nil=>.nil
 |_,_,n+1,.cons _ t=>t.drop n
theorem aJ.set{v:V}{d:Dat}(r:Rep K g H v d):∀{vs:List V} {ds:List Dat} (i:Nat),aJ K g H vs ds->aJ K g H (vs.set i v) (ds.set i d)
 |_,_,_,.nil=>.nil
 |_,_,0,.cons _ t=>.cons r t
 |_,_,i+1,.cons h t=>.cons h (t.set r i)
theorem Gr.upd{l:Addr}{o o':HO}(k:Kd g H)(h:H l=some o)(w:(g.W l/\q=false)∨g.Lo l):Gr q g g H (L2.upd H l o') where
 keep:=λa u e nw nl=>by
  rw[upd_ne (λz=>by subst z;exact w.elim (λw=>nw w.1) nl)];exact e
 keepW:=λhq a u e wa=>by
  rcases w with w|w
  ·rw[hq]at w;cases w.2
  ·rw[upd_ne (λz=>by subst z;exact k.lo _ w wa)];exact e
 dom:=λa e=>by
  by_cases z:a=l
  ·subst z;rw[upd_same]at e;cases e
  ·rw[upd_ne z]at e;exact e
 tbl:=⟨[],by simp⟩
 W:=λ_ h=>h
 nW:=λ_ h=>.inl h
 qg:=λ_=>⟨rfl,rfl⟩
 Lc:=rfl
 Lo:=λ_ h=>h
 nLo:=λ_ h=>.inl h
theorem Kd.ex(k:Kd g H)(e:Ex H H'):Kd g H':=⟨λa z=>let ⟨o,h,m⟩:=k.ob a z;⟨o,e a o h,m⟩,k.lo,k.lc⟩
theorem Kd.upd(k:Kd g H){l:Addr}{o:HO}(m:Ij o):Kd g (L2.upd H l o):=⟨λa z=>by
 by_cases e:a=l
 ·subst e;exact⟨o,upd_same,m⟩
 ·rw[upd_ne e];exact k.ob a z,k.lo,k.lc⟩
theorem Rep.ex(e:Ex H H')(k:Kd g H)(h:Rep K g H v d):Rep K g H' v d:=h.gr (Gr.ex (q:=true) e) k
theorem aJ.ex{vs:List V}{ds:List Dat}(e:Ex H H')(k:Kd g H)(h:aJ K g H vs ds):aJ K g H' vs ds:=h.gr (Gr.ex (q:=true) e) k
end
def keyD:Key->Dat
 |.inl i=>.int i
 |.inr x=>.str x
def iG(l:Addr)(o:Obj):HO:=.ext λh=>h.get? l=some o
abbrev lZ:Type:=NestedKey×Addr×Value
def adk(w:World)(x:lZ):DictEntry:=⟨x.1.hash w,.ref x.2.1,x.2.2⟩
structure lg(w:World)(l:Addr)(o:Obj)(xs:List lZ):Prop where
 sys:(l==sysModules)=false
 ex:o.ExactDict
 ent:∃es ep,o.data=.dict es ep/\es.toList=xs.map (adk w)
 nd:(xs.map (·.1)).Nodup
 len:xs.length<=sizeLine
 dep:∀x∈xs,x.1.depth<=8
def ji(K:aqe)(aj:aQ)(g:Gh)(H:Hp)(l:Addr):Bool->List (Dat×Dat)->Prop
 |false,kvs=>∃kv:List (Key×V),H l=some (.dK kv)/\kvs.map (·.1)=kv.map (λp=>keyD p.1)/\aJ K g H (kv.map (·.2)) (kvs.map (·.2))
 |true,kvs=>∃(o:Obj) (xs:List lZ) (vs:List V),H l=some (iG l o)/\lg aj.w l o xs/\kvs.map (·.1)=xs.map (λx=>x.1.data)/\aJ K g H (xs.map λx=>V.ref x.2.1) (kvs.map (·.1))/\Vals vs (xs.map (·.2.2))/\aJ K g H vs (kvs.map (·.2))
def dO(K:aqe)(aj:aQ)(g:Gh)(H:Hp)(h:Nat)(f:Str)(v:V):iV->Prop
 |.dat d=>Rep K g H v d
 |.lst n xs=>∃l us,v=.ref l/\H l=some (.lst us)/\g.ow l=some (h,f)/\aJ K g H us xs/\g.tbl[n]?=some l
 |.dic n kvs=>∃l,v=.ref l/\g.ow l=some (h,f)/\ji K aj g H l n kvs
inductive cM(K:aqe)(aj:aQ)(g:Gh)(H:Hp)(h:Nat):List (Str×V)->List (Str×iV)->Prop
 |nil:cM K aj g H h [] []
 |cons {f:Str} {v:V} {fl:iV} {fs:List (Str×V)} {gs:List (Str×iV)}:dO K aj g H h f v fl->cM K aj g H h fs gs->cM K aj g H h ((f,v)::fs) ((f,fl)::gs)
structure fU(K:aqe)(aj:aQ)(g:Gh)(H:Hp)(M:Mo):Prop where
 len:g.tbl.length=M.length
 inj:∀(h k:Nat) (a:Addr),g.tbl[h]?=some a->g.tbl[k]?=some a->h=k
 ins:∀(h:Nat) (a:Addr) (i:Inst),g.tbl[h]?=some a->M[h]?=some i->i.cls≠""->∃C dx fs,aj i.cls=some C/\H a=some (.ins C dx fs)/\cM K aj g H h fs i.fs
 nd:∀(h:Nat) (i:Inst),M[h]?=some i->(i.fs.map (·.1)).Nodup
 fd:∀(h:Nat) (i:Inst),M[h]?=some i->∀f∈i.fs.map (·.1),f∈aj.fl i.cls
 tw:∀(h:Nat) (a:Addr) (i:Inst),g.tbl[h]?=some a->M[h]?=some i->i.cls≠""->g.ow a=none
 dm:∀(h:Nat) (i:Inst),M[h]?=some i->i.cls=""->i.fs=[]
 nc:aj ""=none
structure SInv(K:aqe)(aj:aQ)(σ:L2.St)(H:Hp)(g:Gh)(Z:Env)(M:Mo):Prop where
 kd:Kd g H
 wok:fU K aj g H M
 len:σ.length=Z.length
 dat:∀(i:Nat) (d:Dat),Z[i]?=some (some (.dat d))->∃v,σ[i]?=some (some v)/\Rep K g H v d
 own:∀(i:Nat) (xs:List Dat),Z[i]?=some (some (.mut xs))->∃l us,σ[i]?=some (some (.ref l))/\H l=some (.lst us)/\g.Lo l/\aJ K g H us xs
 sep:∀(i j:Nat) (xs ys:List Dat) (l:Addr),i≠j->Z[i]?=some (some (.mut xs))->Z[j]?=some (some (.mut ys))->σ[i]?=some (some (.ref l))->σ[j]?≠some (some (.ref l))
section
variable{K:aqe}{aj:aQ}{q:Bool}{g g' g2:Gh}{H H' H2:Hp}{v:V}{d:Dat}{σ:L2.St}{Z:Env}{M:Mo}
theorem ji.ex{l:Addr}:∀{n:Bool} {kvs:List (Dat×Dat)} (e:Ex H H') (k:Kd g H) (h:ji K aj g H l n kvs),ji K aj g H' l n kvs
 |false,_,e,k,⟨kv,h1,h2,h3⟩=>⟨kv,e _ _ h1,h2,h3.ex e k⟩
 |true,_,e,k,⟨o,xs,vs,h1,h2,h3,h4,h5,h6⟩=>⟨o,xs,vs,e _ _ h1,h2,h3,h4.ex e k,h5,h6.ex e k⟩
theorem dO.ex{h:Nat}{f:Str}(e:Ex H H')(k:Kd g H):∀{fl:iV},dO K aj g H h f v fl->dO K aj g H' h f v fl
 |.dat _,r=>Rep.ex e k r
 |.lst _ _,⟨l,us,h1,h2,h3,h4,h5⟩=>⟨l,us,h1,e _ _ h2,h3,h4.ex e k,h5⟩
 |.dic _ _,⟨l,h1,h2,h3⟩=>⟨l,h1,h2,h3.ex e k⟩
theorem cM.ex{h:Nat}(e:Ex H H')(k:Kd g H):∀{fs:List (Str×V)} {gs:List (Str×iV)},cM K aj g H h fs gs->cM K aj g H' h fs gs
 |_,_,.nil=>.nil
 |_,_,.cons r t=>.cons (dO.ex e k r) (cM.ex e k t)
theorem fU.ex(e:Ex H H')(k:Kd g H)(w:fU K aj g H M):fU K aj g H' M:=⟨w.len,w.inj,λh a i ha hi hc=>by
 obtain⟨C,dx,fs,c1,c2,c3⟩:=w.ins h a i ha hi hc;exact⟨C,dx,fs,c1,e _ _ c2,c3.ex e k⟩,w.nd,w.fd,w.tw,w.dm,w.nc⟩
theorem SInv.ex(e:Ex H H')(I:SInv K aj σ H g Z M):SInv K aj σ H' g Z M:=⟨I.kd.ex e,I.wok.ex e I.kd,I.len,λi d h=>by
 obtain⟨v,h1,h2⟩:=I.dat i d h;exact⟨v,h1,h2.ex e I.kd⟩,λi xs h=>by
 obtain⟨l,us,h1,h2,h3,h4⟩:=I.own i xs h;exact⟨l,us,h1,e _ _ h2,h3,h4.ex e I.kd⟩,I.sep⟩
theorem cM.get{h:Nat}{f:Str}{fl:iV}:∀{fs:List (Str×V)} {gs:List (Str×iV)},cM K aj g H h fs gs->gs.lookup f=some fl->∃v,fs.lookup f=some v/\dO K aj g H h f v fl
 |_,_,.nil,e=>nomatch e
 |_,_,.cons (f:=f') (v:=v) (fl:=fl') r t,e=>by
  rw[aqG]at e;rw[aqG];cases hb:f==f' with
  |true=>
   rw[hb]at e;cases e;have ef:f=f':=by simpa using hb
   subst ef;exact⟨v,rfl,r⟩
  |false=>
   rw[hb]at e;exact t.get e
theorem cM.no{h:Nat}{f:Str}:∀{fs:List (Str×V)} {gs:List (Str×iV)},cM K aj g H h fs gs->gs.lookup f=none->fs.lookup f=none
 |_,_,.nil,_=>rfl
 |_,_,.cons (f:=f') (v:=v) (fl:=fl') r t,e=>by
  rw[aqG]at e;rw[aqG];cases hb:f==f' with
  |true=>
   rw[hb]at e;cases e
  |false=>
   rw[hb]at e;exact t.no e
end
def Out.bind{α β:Type}(o:Out α)(k:α->Out β):Out β:=
 match o with
 |.ok a=>k a
 |.exc x=>.exc x
 |.bad=>.bad
def Out.sat{α:Type}(o:Out α)(P:α->Prop)(E:cY->Prop):Prop:=
 match o with
 |.ok a=>P a
 |.exc x=>E x
 |.bad=>False
@[simp]theorem Out.yt {α β:Type} (a:α) (k:α->Out β):(Out.ok a).bind k=k a:=rfl
@[simp]theorem Out.adX {α β:Type} (x:cY) (k:α->Out β):(Out.exc x:Out α).bind k=.exc x:=rfl
@[simp]theorem Out.aeh {α β:Type} (k:α->Out β):(Out.bad:Out α).bind k=.bad:=rfl
theorem Out.sat.bnd{α β:Type}{o:Out α}{k:α->Out β}{P:β->Prop}{E:cY->Prop}(h:(o.bind k).sat P E):o.sat (λa=>(k a).sat P E) E:=by cases o<;>exact h
theorem Out.sat.mono{α:Type}{o:Out α}{P P':α->Prop}{E E':cY->Prop}(h:o.sat P E)(hp:∀a,P a->P' a)(he:∀x,E x->E' x):o.sat P' E':=by
 cases o
 ·exact hp _ h
 ·exact he _ h
 ·exact h
def Out.when{α:Type}(b:Bool)(o:Out α):Out α:=if b=true then o else .bad
@[simp]theorem Out.U6 {α:Type} (o:Out α):Out.when true o=o:=rfl
@[simp]theorem Out.akC {α:Type} (o:Out α):Out.when false o=.bad:=rfl
theorem Out.sat.pP{α:Type}{b:Bool}{o:Out α}{P:α->Prop}{E:cY->Prop}(h:(Out.when b o).sat P E):b=true/\o.sat P E:=by
 cases b
 ·exact arq h
 ·exact⟨rfl,h⟩
inductive kE(K:aqe)(g:Gh)(H:Hp):List (Str×V)->List (Str×Dat)->Prop
 |nil:kE K g H [] []
 |cons {f:Str} {v:V} {d:Dat} {fs:List (Str×V)} {gs:List (Str×Dat)}:Rep K g H v d->kE K g H fs gs->kE K g H ((f,v)::fs) ((f,d)::gs)
def pU(K:aqe)(aj:aQ)(g:Gh)(H:Hp)(x:cY)(c:Value)(dd:Option Addr):Prop:=
 ∃C,aj x.cls=some C/\c=.ref C/\((x.fs=[]/\dd=none)∨∃a fs,dd=some a/\H a=some (.xd fs)/\kE K g H fs x.fs)
abbrev QF:=Mo->Env->Out Dat
abbrev QT:=Mo->Env->Out Bool
abbrev QA:=Mo->Env->Out (List Dat)
section
variable(K:aqe)(aj:aQ)(W:WX)
def qG(g:Gh)(H:Hp)(σ:L2.St)(x:cY):Prop:=∀H' c dd,Ex H H'->pU K aj g H' x c dd->W c dd σ H'
def tQ(f:QF):TE:=λσ H Q=>∃g Z M,SInv K aj σ H g Z M/\(f M Z).sat (λd=>∀v H',Ex H H'->Rep K g H' v d->Q v H') (qG K aj W g H σ)
def jW(f:QT):TT:=λσ H Q=>∃g Z M,SInv K aj σ H g Z M/\(f M Z).sat (λb=>∀H',Ex H H'->Q b H') (qG K aj W g H σ)
def M6(f:QA):TA:=λσ H Q=>∃g Z M,SInv K aj σ H g Z M/\(f M Z).sat (λds=>∀vs H',Ex H H'->aJ K g H' vs ds->Q vs H') (qG K aj W g H σ)
end
section
variable{K:aqe}{aj:aQ}{W:WX}{g:Gh}{H H1:Hp}{σ:L2.St}{Z:Env}{M:Mo}
theorem qG.ex{x:cY}(e:Ex H H1)(h:qG K aj W g H σ x):qG K aj W g H1 σ x:=λH' c dd e' r=>h H' c dd (e.trans e') r
theorem tQ.go{f:QF}{k:Dat->Prop}{Q:VK}(I:SInv K aj σ H g Z M)(h:(f M Z).sat k (qG K aj W g H σ))(hk:∀d v H',k d->Ex H H'->Rep K g H' v d->Q v H'):tQ K aj W f σ H Q:=
 ⟨g,Z,M,I,h.mono (λd hd v H' e r=>hk d v H' hd e r) λ_ z=>z⟩
theorem jW.go{f:QT}{k:Bool->Prop}{Q:Bool->Hp->Prop}(I:SInv K aj σ H g Z M)(h:(f M Z).sat k (qG K aj W g H σ))(hk:∀b H',k b->Ex H H'->Q b H'):jW K aj W f σ H Q:=
 ⟨g,Z,M,I,h.mono (λd hd H' e=>hk d H' hd e) λ_ z=>z⟩
theorem M6.go{f:QA}{k:List Dat->Prop}{Q:List V->Hp->Prop}(I:SInv K aj σ H g Z M)(h:(f M Z).sat k (qG K aj W g H σ))(hk:∀ds vs H',k ds->Ex H H'->aJ K g H' vs ds->Q vs H'):M6 K aj W f σ H Q:=
 ⟨g,Z,M,I,h.mono (λd hd v H' e r=>hk d v H' hd e r) λ_ z=>z⟩
end
def QE(aj:aQ)(X:Cx)(W:WX)(e:Expr)(f:QF):Prop:=PE X e (tQ X.K aj W f)
def rH(aj:aQ)(X:Cx)(W:WX)(e:Expr)(f:QT):Prop:=PT X e (jW X.K aj W f)
def Fe(aj:aQ)(X:Cx)(W:WX)(es:List Expr)(f:QA):Prop:=PA X es (M6 X.K aj W f)
theorem PE.weak{X:Cx}{e:Expr}{t t':TE}(h:PE X e t)(k:∀σ H Q,t' σ H Q->t σ H Q):PE X e t':=⟨λpins s σ H Q I q=>h.run pins s σ H Q I (k σ H Q q)⟩
theorem PT.weak{X:Cx}{e:Expr}{t t':TT}(h:PT X e t)(k:∀σ H Q,t' σ H Q->t σ H Q):PT X e t':=⟨λpins s σ H Q I q=>h.run pins s σ H Q I (k σ H Q q)⟩
theorem PA.weak{X:Cx}{e:List Expr}{t t':TA}(h:PA X e t)(k:∀σ H Q,t' σ H Q->t σ H Q):PA X e t':=⟨λpos pins s σ H Q I q=>h.run pos pins s σ H Q I (k σ H Q q)⟩
def aq(i:Nat):QF:=λ_ Z=>match Z[i]? with
 |some (some (.dat d))=>.ok d
 |_=>.bad
def qC(d:Dat):QF:=λ_ _=>.ok d
def aA(o:Dat->Dat->Out Dat)(a b:QF):QF:=λM Z=>(a M Z).bind λx=>(b M Z).bind λy=>o x y
def eO(o:Dat->Out Dat)(a:QF):QF:=λM Z=>(a M Z).bind o
def au:QA:=λ_ _=>.ok []
def ak(a:QF)(r:QA):QA:=λM Z=>(a M Z).bind λx=>(r M Z).bind λxs=>.ok (x::xs)
def bK(r:QA):QF:=λM Z=>(r M Z).bind λxs=>Out.when (decide (xs.length<=100000)) (.ok (.tuple xs))
def uH(r:QA):QF:=λM Z=>(r M Z).bind λxs=>Out.when (decide (xs.length<=100000)) (.ok (.list xs))
section
variable{X:Cx}{aj:aQ}{W:WX}{a b:Expr}{fa fb:QF}{pos:Pos}
theorem ajh{i:Nat}{x:Str}(hN:X.N[i]?=some x)(hv:Vis X.env.scope x)(hd:(x==("__debug__" : Str))=false)(hcd:(x==("__classdict__" : Str))=false):QE aj X W (.Name x pos) (aq i):=
 PE.weak (pe_var hN hv hd hcd) λσ H Q ⟨g,Z,M,I,h⟩=>by
  unfold aq at h;split at h
  ·next d e=>
   obtain⟨v,h1,h2⟩:=I.dat i d e;exact⟨v,h1,h v H (Ex.refl H) h2⟩
  ·exact arq h
theorem ahW{i:Int}{j:Nat}:QE aj X W (.Constant (.int i) j pos) (qC (.int i)):=PE.weak pe_int λσ H Q ⟨g,Z,M,I,h⟩=>h _ H (Ex.refl H) (.int i)
theorem ah2{x:Str}{j:Nat}:QE aj X W (.Constant (.str x) j pos) (qC (.str x)):=PE.weak pe_str λσ H Q ⟨g,Z,M,I,h⟩=>h _ H (Ex.refl H) (.str x)
theorem alv{x:Bool}{j:Nat}:QE aj X W (.Constant (.bool x) j pos) (qC (.bool x)):=PE.weak pe_bl λσ H Q ⟨g,Z,M,I,h⟩=>h _ H (Ex.refl H) (.bl x)
theorem ajy{j:Nat}:QE aj X W (.Constant .none j pos) (qC .none):=PE.weak pe_non λσ H Q ⟨g,Z,M,I,h⟩=>h _ H (Ex.refl H) .non
theorem ajY:Fe aj X W [] au:=PA.weak pa_nil λσ H Q ⟨g,Z,M,I,h⟩=>h [] H (Ex.refl H) .nil
theorem afX{es:List Expr}{fr:QA}(ha:QE aj X W a fa)(hr:Fe aj X W es fr)(hs:starEach (a::es) X.env=(false,eval a X.env)::starEach es X.env):Fe aj X W (a::es) (ak fa fr):=
 PA.weak (pa_cons ha hr hs) λσ H Q ⟨g,Z,M,I,h⟩=>by
  refine tQ.go I h.bnd λd v H1 h1 e1 r1=>?_;refine M6.go (I.ex e1) (h1.bnd.mono (λ_ z=>z) λ_ z=>z.ex e1) λds vs H2 h2 e2 r2=>?_;exact h2 (v::vs) H2 (e1.trans e2) (.cons (r1.ex e2 (I.kd.ex e1)) r2)
theorem ajM{es:List Expr}{fr:QA}{k:Nat}(h:Fe aj X W es fr):QE aj X W (.Tuple es k pos) (bK fr):=
 PE.weak (pe_tup h) λσ H Q ⟨g,Z,M,I,h⟩=>by
  refine M6.go I h.bnd λds vs H1 h1 e1 r1=>?_;obtain⟨hz,h1⟩:=h1.pP;have hl:vs.length<=100000:=by rw[r1.length];exact aru hz
  refine⟨sz_of hl,λp np=>h1 (.ref p) _ (e1.trans (Ex.new np)) (.tup (st_of upd_same) (r1.ex (Ex.new np) (I.kd.ex e1)))⟩
theorem Kd.fresh{g:Gh}{H:Hp}(k:Kd g H){p:Addr}(n:H p=none):¬g.A p:=λz=>by
 obtain⟨o,e,_⟩:=k.ob p z;rw[n]at e;cases e
theorem ai1{es:List Expr}{fr:QA}(h:Fe aj X W es fr):QE aj X W (.List es pos) (uH fr):=
 PE.weak (pe_lst h) λσ H Q ⟨g,Z,M,I,h⟩=>by
  refine M6.go I h.bnd λds vs H1 h1 e1 r1=>?_;obtain⟨hz,h1⟩:=h1.pP;have hl:vs.length<=100000:=by rw[r1.length];exact aru hz
  refine⟨sz_of hl,λp np=>h1 (.ref p) _ (e1.trans (Ex.new np)) (.lst (.inl ⟨.inl upd_same,(I.kd.ex e1).fresh np⟩) (r1.ex (Ex.new np) (I.kd.ex e1)))⟩
end
def dZ(K:aqe)(g:Gh)(H:Hp)(v:V):Dat->Prop
 |.list ds=>∃a us,v=.ref a/\SqL K H a us/\aJ K g H us ds
 |d=>Rep K g H v d
section
variable{K:aqe}{g:Gh}{H H':Hp}{v:V}{d:Dat}
theorem Rep.weak(h:Rep K g H v d):dZ K g H v d:=by
 cases h with
 |lst a t=>exact⟨_,_,rfl,a.sq,t⟩
 |non=>exact .non
 |bl b=>exact .bl b
 |int i=>exact .int i
 |str x=>exact .str x
 |tup a t=>exact .tup a t
 |obj a=>exact .obj a
theorem dZ.ex(e:Ex H H')(k:Kd g H)(h:dZ K g H v d):dZ K g H' v d:=by
 cases d with
 |list ds=>
  obtain⟨a,us,h1,h2,h3⟩:=h;exact⟨a,us,h1,ex_l e h2,h3.ex e k⟩
 |_=>exact Rep.ex e k h
theorem cI{i:Int}(h:dZ K g H v (.int i)):v=.int i:=by cases h;rfl
theorem jJ{x:Str}(h:dZ K g H v (.str x)):v=.str x:=by cases h;rfl
theorem DP{b:Bool}(h:dZ K g H v (.bool b)):v=.bl b:=by cases h;rfl
theorem Fj(h:dZ K g H v .none):v=.non:=by cases h;rfl
theorem lB{ds:List Dat}(h:dZ K g H v (.tuple ds)):∃a us,v=.ref a/\SqT K H a us/\aJ K g H us ds:=by
 cases h with
 |tup a t=>exact⟨_,_,rfl,a,t⟩
theorem jf{ds:List Dat}(h:dZ K g H v (.list ds)):∃a us,v=.ref a/\SqL K H a us/\aJ K g H us ds:=h
theorem Ku{n:Nat}(h:dZ K g H v (obj n)):∃a,v=.ref a/\g.tbl[n]?=some a:=by
 cases h with
 |obj a=>exact⟨_,rfl,a⟩
end
section
variable(K:aqe)(aj:aQ)(W:WX)
def tW(f:QF):TE:=λσ H Q=>∃g Z M,SInv K aj σ H g Z M/\(f M Z).sat (λd=>∀v H',Ex H H'->dZ K g H' v d->Q v H') (qG K aj W g H σ)
end
theorem tW.go{K:aqe}{aj:aQ}{W:WX}{g:Gh}{H:Hp}{σ:L2.St}{Z:Env}{M:Mo}{f:QF}{k:Dat->Prop}{Q:VK}(I:SInv K aj σ H g Z M)(h:(f M Z).sat k (qG K aj W g H σ))(hk:∀d v H',k d->Ex H H'->dZ K g H' v d->Q v H'):tW K aj W f σ H Q:=
 ⟨g,Z,M,I,h.mono (λd hd v H' e r=>hk d v H' hd e r) λ_ z=>z⟩
def QW(aj:aQ)(X:Cx)(W:WX)(e:Expr)(f:QF):Prop:=PE X e (tW X.K aj W f)
theorem QE.w{aj:aQ}{X:Cx}{W:WX}{e:Expr}{f:QF}(h:QE aj X W e f):QW aj X W e f:=
 PE.weak h λσ H Q ⟨g,Z,M,I,z⟩=>⟨g,Z,M,I,z.mono (λ_ k v H' e r=>k v H' e r.weak) λ_ y=>y⟩
def ao(i:Nat):QF:=λ_ Z=>match Z[i]? with
 |some (some (.dat d))=>.ok d
 |some (some (.mut xs))=>.ok (.list xs)
 |_=>.bad
def pK(aj:aQ)(K:aqe)(W:WX)(o:Dat->Dat->Out Dat)(r:R2):Prop:=∀(σ:L2.St) (g:Gh) (H:Hp) (x y:V) (d e:Dat) (Q:VK),Kd g H->dZ K g H x d->dZ K g H y e->
 (o d e).sat (λz=>∀v H',Ex H H'->Rep K g H' v z->Q v H') (qG K aj W g H σ)->r x y H Q
section
variable{X:Cx}{aj:aQ}{W:WX}{a b c:Expr}{fa fb fc:QF}{pos:Pos}
theorem ajs{i:Nat}{x:Str}(hN:X.N[i]?=some x)(hv:Vis X.env.scope x)(hd:(x==("__debug__" : Str))=false)(hcd:(x==("__classdict__" : Str))=false):QW aj X W (.Name x pos) (ao i):=
 PE.weak (pe_var hN hv hd hcd) λσ H Q ⟨g,Z,M,I,h⟩=>by
  unfold ao at h;split at h
  ·next d e=>
   obtain⟨v,h1,h2⟩:=I.dat i d e;exact⟨v,h1,h v H (Ex.refl H) h2.weak⟩
  ·next xs e=>
   obtain⟨l,us,h1,h2,h3,h4⟩:=I.own i xs e;exact⟨.ref l,h1,h _ H (Ex.refl H) ⟨l,us,rfl,sq_of h2,h4⟩⟩
  ·exact arq h
theorem Qc{o:Dat->Dat->Out Dat}{r:R2}(ho:pK aj X.K W o r)(σ:L2.St)(H:Hp)(Q:VK)(h:tQ X.K aj W (aA o fa fb) σ H Q):tOp r (tW X.K aj W fa) (tW X.K aj W fb) σ H Q:=by obtain⟨g,Z,M,I,h⟩:=h;refine tW.go I h.bnd λd v H1 h1 e1 r1=>?_;refine tW.go (I.ex e1) (h1.bnd.mono (λ_ z=>z) λ_ z=>z.ex e1) λd2 v2 H2 h2 e2 r2=>?_;refine ho σ g H2 v v2 d d2 Q ((I.kd.ex e1).ex e2) (r1.ex e2 (I.kd.ex e1)) r2 (h2.mono (λz hz u H' e' r'=>hz u H' ((e1.trans e2).trans e') r') λ_ z=>(z.ex e1).ex e2)
theorem ajb{op:Operator}{r:R2}{o:Dat->Dat->Out Dat}(hr:OpR X (binaryOp op) r)(ho:pK aj X.K W o r)(ha:QW aj X W a fa)(hb:QW aj X W b fb):QE aj X W (.BinOp a op b pos) (aA o fa fb):=
 PE.weak (pe_op hr ha hb) λσ H Q h=>Qc ho σ H Q h
theorem agO{op:CmpOp}{r:R2}{o:Dat->Dat->Out Dat}(hr:OpR X (compareOp op) r)(ho:pK aj X.K W o r)(ha:QW aj X W a fa)(hb:QW aj X W b fb)(hm:behindInMarks op b=false):QE aj X W (.Compare a [op] [b] pos) (aA o fa fb):=
 PE.weak (pe_cmpR hr ha hb hm) λσ H Q h=>Qc ho σ H Q h
end
instance:DecidableRel CMul:=λi j=>by unfold CMul;infer_instance
instance:DecidableRel CDiv:=λi j=>by unfold CDiv;infer_instance
instance:DecidableRel CPow:=λi j=>by unfold CPow;infer_instance
def fG:Dat->Dat->Out Dat
 |.int i,.int j=>.ok (.int (i+j))
 |.str x,.str y=>Out.when (decide (x.length+y.length<=100000)) (.ok (.str (x++y)))
 |.list xs,.list ys=>Out.when (decide (xs.length+ys.length<=100000)) (.ok (.list (xs++ys)))
 |.tuple xs,.tuple ys=>Out.when (decide (xs.length+ys.length<=100000)) (.ok (.tuple (xs++ys)))
 |_,_=>.bad
def lE:Dat->Dat->Out Dat
 |.int i,.int j=>.ok (.int (i - j))
 |_,_=>.bad
def wO:Dat->Dat->Out Dat
 |.int i,.int j=>Out.when (decide (CMul i j)) (.ok (.int (i * j)))
 |_,_=>.bad
def Oc:Dat->Dat->Out Dat
 |.int i,.int j=>Out.when (decide (CDiv i j)) (.ok (.int (i / j)))
 |_,_=>.bad
def qu:Dat->Dat->Out Dat
 |.int i,.int j=>Out.when (decide (0 < j)) (.ok (.int (i % j)))
 |_,_=>.bad
def Yy:Dat->Dat->Out Dat
 |.int i,.int j=>Out.when (decide (CPow i j)) (.ok (.int (i ^ j.toNat)))
 |_,_=>.bad
def rCatS(K:aqe):R2:=λx y H Q=>∃l b xs zs,x=.ref l/\y=.ref b/\SqL K H l xs/\SqL K H b zs/\xs.length+zs.length<=sizeLine/\∀p,H p=none->Q (.ref p) (upd H p (.lst (xs++zs)))
theorem afY{X:Cx}:OpR X (binaryOp .Add) (rCatS X.K):=by
 intro pins s σ H x y v u Q I rx ry h;obtain⟨l,b,xs,zs,rfl,rfl,hH,hB,hz,q⟩:=h;cases rx;cases ry;obtain⟨its,r,⟨⟨c1,d1,da1,s1⟩,n,e,hc,hd,hs⟩,_⟩:=I.list hH;obtain⟨its2,r2,⟨⟨c2,d2,da2,s2⟩,n2,e2,hc2,hd2,hs2⟩,_⟩:=I.list hB;simp only at hc hd hs hc2 hd2 hs2;subst hc hd hs hc2 hd2 hs2;have l1:=r.length;have l2:=r2.length;have ea:its.toArray++its2.toArray=(its++its2).toArray:=by simp
 refine concat_meets ⟨_,e,rfl⟩ ⟨_,e2,rfl⟩ noFill_list_add seq_list_add PySem.F.slot_list_add PySem.F.entry_list_add (PySem.F.args_list_add_2 _ _) (list_addW l b its.toArray its2.toArray n n2 none none s1 s2 (by rw[List.size_toArray,List.size_toArray];omega)) ⟨e,e2,?_⟩;rw[ea];exact⟨.ref _,_,I.lnew (t':=s.toks) (r.append r2) (by rw[aqO];omega),rfl,q _ I.fresh⟩
def afx(K:aqe):R2:=λx y H Q=>rI0 (λi j=>.int (i+j)) x y H Q∨(∃i j,x=.str i/\y=.str j/\i.length+j.length<=sizeLine/\Q (.str (i++j)) H)∨rCatS K x y H Q∨rCatA K x y H Q
theorem af9{X:Cx}:OpR X (binaryOp .Add) (afx X.K):=by
 intro pins s σ H x y v u Q I rx ry h;rcases h with h|h|h|h
 ·exact op_add pins s σ H x y v u Q I rx ry h
 ·exact op_add_str pins s σ H x y v u Q I rx ry h
 ·exact afY pins s σ H x y v u Q I rx ry h
 ·exact op_catA pins s σ H x y v u Q I rx ry h
section
variable{K:aqe}{aj:aQ}{W:WX}
theorem ajj:pK aj K W fG (afx K):=λσ g H x y d e Q k rx ry h=>by
 unfold fG at h;split at h
 ·exact .inl ⟨_,_,cI rx,cI ry,h _ H (Ex.refl H) (.int _)⟩
 ·obtain⟨hz,h⟩:=h.pP;exact .inr (.inl ⟨_,_,jJ rx,jJ ry,sz_of (aru hz),h _ H (Ex.refl H) (.str _)⟩)
 ·obtain⟨hz,h⟩:=h.pP;obtain⟨l,us,e1,s1,t1⟩:=jf rx;obtain⟨l2,us2,e2,s2,t2⟩:=jf ry;have hl:=aru hz;rw[←t1.length,←t2.length]at hl;refine .inr (.inr (.inl ⟨l,l2,us,us2,e1,e2,s1,s2,sz_of hl,λp np=>h _ _ (Ex.new np) (.lst (.inl ⟨.inl upd_same,k.fresh np⟩) ((t1.append t2).ex (Ex.new np) k))⟩))
 ·obtain⟨hz,h⟩:=h.pP;obtain⟨l,us,e1,s1,t1⟩:=lB rx;obtain⟨l2,us2,e2,s2,t2⟩:=lB ry;have hl:=aru hz;rw[←t1.length,←t2.length]at hl;refine .inr (.inr (.inr ⟨l,l2,us,us2,e1,e2,s1,s2,sz_of hl,λz=>?_,λ_ z=>?_,λ_ _ p np=>h _ _ (Ex.new np) (.tup (st_of upd_same) ((t1.append t2).ex (Ex.new np) k))⟩))
  ·subst z;cases t1;exact h _ H (Ex.refl H) (.tup s2 t2)
  ·subst z;cases t2;rw[aqY]at h;exact h _ H (Ex.refl H) (.tup s1 t1)
 ·exact arq h
theorem aiS:pK aj K W lE (rI0 λi j=>.int (i - j)):=λσ g H x y d e Q k rx ry h=>by
 unfold lE at h;split at h
 ·exact⟨_,_,cI rx,cI ry,h _ H (Ex.refl H) (.int _)⟩
 ·exact arq h
theorem ajD:pK aj K W wO (rI CMul λi j=>.int (i * j)):=λσ g H x y d e Q k rx ry h=>by
 unfold wO at h;split at h
 ·obtain⟨hz,h⟩:=h.pP;exact⟨_,_,cI rx,cI ry,aru hz,h _ H (Ex.refl H) (.int _)⟩
 ·exact arq h
theorem ai7:pK aj K W Oc (rI CDiv λi j=>.int (i / j)):=λσ g H x y d e Q k rx ry h=>by
 unfold Oc at h;split at h
 ·obtain⟨hz,h⟩:=h.pP;exact⟨_,_,cI rx,cI ry,aru hz,h _ H (Ex.refl H) (.int _)⟩
 ·exact arq h
theorem ah3:pK aj K W qu (rI (λ_ j=>0 < j) λi j=>.int (i % j)):=λσ g H x y d e Q k rx ry h=>by
 unfold qu at h;split at h
 ·obtain⟨hz,h⟩:=h.pP;exact⟨_,_,cI rx,cI ry,aru hz,h _ H (Ex.refl H) (.int _)⟩
 ·exact arq h
theorem aks:pK aj K W Yy (rI CPow λi j=>.int (i ^ j.toNat)):=λσ g H x y d e Q k rx ry h=>by
 unfold Yy at h;split at h
 ·obtain⟨hz,h⟩:=h.pP;exact⟨_,_,cI rx,cI ry,aru hz,h _ H (Ex.refl H) (.int _)⟩
 ·exact arq h
end
mutual
def okd:Nat->Dat->Bool
 |_,.none=>true
 |_,.bool _=>true
 |_,.int _=>true
 |_,.str x=>PyData.strOk x
 |n+1,.list ds=>jY n ds
 |n+1,.tuple ds=>jY n ds
 |0,.list _=>false
 |0,.tuple _=>false
 |_,.dict _=>false
def jY:Nat->List Dat->Bool
 |_,[]=>true
 |n,d::ds=>okd n d&&jY n ds
end
mutual
theorem RN:∀(n:Nat) (d:Dat),okd n d=true->d.canLay0=true/\d.depth<=n
 |n,.none,_=>⟨by simp[PyData.canLay0],by simp[PyData.depth]⟩
 |n,.bool _,_=>⟨by simp[PyData.canLay0],by simp[PyData.depth]⟩
 |n,.int _,_=>⟨by simp[PyData.canLay0],by simp[PyData.depth]⟩
 |n,.str x,h=>⟨by rw[okd]at h;simp[PyData.canLay0,h],by simp[PyData.depth]⟩
 |n+1,.list ds,h=>by
  rw[okd]at h;obtain⟨h1,h2⟩:=NK n ds h;exact⟨by simp[PyData.canLay0,h1],by simp[PyData.depth];omega⟩
 |n+1,.tuple ds,h=>by
  rw[okd]at h;obtain⟨h1,h2⟩:=NK n ds h;exact⟨by simp[PyData.canLay0,h1],by simp[PyData.depth];omega⟩
 |0,.list _,h=>by rw[okd]at h;cases h
 |0,.tuple _,h=>by rw[okd]at h;cases h
 |n,.dict _,h=>by rw[okd]at h;cases h
theorem NK:∀(n:Nat) (ds:List Dat),jY n ds=true->PyData.canLayAll0 ds=true/\PyData.depthAll ds<=n
 |n,[],_=>⟨by simp[PyData.canLayAll0],by simp[PyData.depthAll]⟩
 |n,d::ds,h=>by
  rw[jY,aqf]at h;obtain⟨h1,h2⟩:=RN n d h.1;obtain⟨h3,h4⟩:=NK n ds h.2;exact⟨by simp[PyData.canLayAll0,h1,h3],by simp[PyData.depthAll];omega⟩
end
mutual
theorem Rep.dp{K:aqe}{g:Gh}{H:Hp}:∀{n:Nat} {v:V} {d:Dat},okd n d=true->Rep K g H v d->Dp K H v d
 |_,_,_,_,.non=>.non
 |_,_,_,_,.bl b=>.bl b
 |_,_,_,_,.int i=>.int i
 |_,_,_,_,.str x=>.str x
 |n+1,_,_,f,.tup h t=>.tup h (aJ.dp (n:=n) (by rw[okd]at f;exact f) t)
 |n+1,_,_,f,.lst h t=>.lst h.sq (aJ.dp (n:=n) (by rw[okd]at f;exact f) t)
 |0,_,_,f,.tup h t=>by rw[okd]at f;cases f
 |0,_,_,f,.lst h t=>by rw[okd]at f;cases f
 |_,_,_,f,.obj h=>by rw[okd]at f;cases f
theorem aJ.dp{K:aqe}{g:Gh}{H:Hp}:∀{n:Nat} {vs:List V} {ds:List Dat},jY n ds=true->aJ K g H vs ds->DpAll K H vs ds
 |_,_,_,_,.nil=>.nil
 |n,_,_,f,.cons h t=>.cons (Rep.dp (n:=n) (by rw[jY,aqf]at f;exact f.1) h) (aJ.dp (n:=n) (by rw[jY,aqf]at f;exact f.2) t)
end
theorem dZ.dp{K:aqe}{g:Gh}{H:Hp}{n:Nat}{v:V}{d:Dat}(f:okd n d=true)(h:dZ K g H v d):Dp K H v d:=by
 cases d with
 |list ds=>
  obtain⟨a,us,rfl,h2,h3⟩:=h;cases n with
  |zero=>rw[okd]at f;cases f
  |succ n=>
   rw[okd]at f;exact .lst h2 (h3.dp f)
 |_=>exact Rep.dp f h
theorem Bj{n:Nat}{d:Dat}(h:okd n d=true)(hn:n<=64):SeqAt.shaped d=true:=by obtain⟨h1,h2⟩:=RN n d h;unfold SeqAt.shaped;rw[h1,Bool.true_and];exact decide_eq_true (aqE h2 hn)
def eqB:Dat->Dat->Out Bool
 |.int i,.int j=>.ok (i==j)
 |.str x,.str y=>.ok (x==y)
 |.bool x,.bool y=>.ok (x==y)
 |.none,.none=>.ok true
 |d,e=>Out.when (okd 12 d&&okd 12 e) (.ok (PyData.eqv d e))
def bR(d e:Dat):Out Dat:=(eqB d e).bind λb=>.ok (.bool b)
def vZ(d e:Dat):Out Dat:=(eqB d e).bind λb=>.ok (.bool (!b))
def ai2(K:aqe):R2:=λx y H Q=>rEq x y H Q∨rEqD K x y H Q
def ake(K:aqe):R2:=λx y H Q=>rNe x y H Q∨rNeD K x y H Q
theorem ajH{X:Cx}(hu:X.A.units+64 < cLine):OpR X (compareOp .Eq) (ai2 X.K):=λpins s σ H x y v u Q I rx ry h=>h.elim (λh=>op_eq pins s σ H x y v u Q I rx ry h) (λh=>op_eqD hu pins s σ H x y v u Q I rx ry h)
theorem ahS{X:Cx}(hu:X.A.units+64 < cLine):OpR X (compareOp .NotEq) (ake X.K):=λpins s σ H x y v u Q I rx ry h=>h.elim (λh=>op_ne pins s σ H x y v u Q I rx ry h) (λh=>op_neD hu pins s σ H x y v u Q I rx ry h)
section
variable{K:aqe}{aj:aQ}{W:WX}{g:Gh}{H:Hp}
theorem adu{x y:V}{d e:Dat}{P:Bool->Prop}{E:cY->Prop}(rx:dZ K g H x d)(ry:dZ K g H y e)(h:(eqB d e).sat P E):(scal x y=true/\P (decide (x=y)))∨(∃d e,Dp K H x d/\Dp K H y e/\SeqAt.shaped d=true/\SeqAt.shaped e=true/\P (PyData.eqv d e)):=by
 unfold eqB at h;split at h
 ·cases cI rx;cases cI ry;rw[dec_int];exact .inl ⟨rfl,h⟩
 ·cases jJ rx;cases jJ ry;rw[dec_str];exact .inl ⟨rfl,h⟩
 ·cases DP rx;cases DP ry;rw[dec_bl];exact .inl ⟨rfl,h⟩
 ·cases Fj rx;cases Fj ry;exact .inl ⟨rfl,h⟩
 ·obtain⟨hz,h⟩:=h.pP;rw[aqf]at hz;exact .inr ⟨_,_,rx.dp hz.1,ry.dp hz.2,Bj hz.1 (by decide),Bj hz.2 (by decide),h⟩
theorem alz:pK aj K W bR (ai2 K):=λσ g H x y d e Q k rx ry h=>by
 rcases adu rx ry h.bnd with⟨h1,h2⟩|⟨d,e,h1,h2,h3,h4,h5⟩
 ·exact .inl ⟨h1,h2 _ H (Ex.refl H) (.bl _)⟩
 ·exact .inr ⟨d,e,h1,h2,h3,h4,h5 _ H (Ex.refl H) (.bl _)⟩
theorem aln:pK aj K W vZ (ake K):=λσ g H x y d e Q k rx ry h=>by
 rcases adu rx ry h.bnd with⟨h1,h2⟩|⟨d,e,h1,h2,h3,h4,h5⟩
 ·exact .inl ⟨h1,h2 _ H (Ex.refl H) (.bl _)⟩
 ·exact .inr ⟨d,e,h1,h2,h3,h4,h5 _ H (Ex.refl H) (.bl _)⟩
end
def M4:Dat->Dat->Out Dat
 |.int i,.int j=>.ok (.bool (decide (i < j)))
 |.tuple ds,.tuple es=>Out.when (okd 12 (.tuple ds)&&okd 12 (.tuple es)&&PySem.W.alike (.tuple ds) (.tuple es)) (.ok (.bool (PySem.W.dataLt (.tuple ds) (.tuple es))))
 |_,_=>.bad
def uG:Dat->Dat->Out Dat
 |.int i,.int j=>.ok (.bool (decide (i<=j)))
 |_,_=>.bad
def W8:Dat->Dat->Out Dat
 |.int i,.int j=>.ok (.bool (decide (j < i)))
 |_,_=>.bad
def geD:Dat->Dat->Out Dat
 |.int i,.int j=>.ok (.bool (decide (j<=i)))
 |_,_=>.bad
def aiX(K:aqe):R2:=λx y H Q=>rI0 (λi j=>.bl (decide (i < j))) x y H Q∨Ear.QV K x y H Q
theorem ajL{X:Cx}(hu:X.A.units+65 < cLine):OpR X (compareOp .Lt) (aiX X.K):=λpins s σ H x y v u Q I rx ry h=>h.elim (λh=>op_lt pins s σ H x y v u Q I rx ry h) (λh=>Ear.aeH hu pins s σ H x y v u Q I rx ry h)
section
variable{K:aqe}{aj:aQ}{W:WX}{g:Gh}{H:Hp}
theorem alo:pK aj K W M4 (aiX K):=λσ g H x y d e Q k rx ry h=>by
 unfold M4 at h;split at h
 ·exact .inl ⟨_,_,cI rx,cI ry,h _ H (Ex.refl H) (.bl _)⟩
 ·obtain⟨hz,h⟩:=h.pP;simp only[aqf]at hz;refine .inr ?_;unfold Ear.QV;exact⟨_,_,rx.dp hz.1.1,ry.dp hz.1.2,hz.2,(λz=>nomatch z),aqE (RN _ _ hz.1.1).2 (by decide),h _ H (Ex.refl H) (.bl _)⟩
 ·exact arq h
theorem ak9:pK aj K W uG (rI0 λi j=>.bl (decide (i<=j))):=λσ g H x y d e Q k rx ry h=>by
 unfold uG at h;split at h
 ·exact⟨_,_,cI rx,cI ry,h _ H (Ex.refl H) (.bl _)⟩
 ·exact arq h
theorem alr:pK aj K W W8 (rI0 λi j=>.bl (decide (j < i))):=λσ g H x y d e Q k rx ry h=>by
 unfold W8 at h;split at h
 ·exact⟨_,_,cI rx,cI ry,h _ H (Ex.refl H) (.bl _)⟩
 ·exact arq h
theorem akU:pK aj K W geD (rI0 λi j=>.bl (decide (j<=i))):=λσ g H x y d e Q k rx ry h=>by
 unfold geD at h;split at h
 ·exact⟨_,_,cI rx,cI ry,h _ H (Ex.refl H) (.bl _)⟩
 ·exact arq h
end
def mU(c:Dat):Dat->Bool
 |.none=>match c with
  |.none=>true
  |_=>false
 |.bool b=>match c with
  |.bool b'=>b==b'
  |_=>false
 |_=>false
def scD:Dat->Option V
 |.none=>some .non
 |.bool b=>some (.bl b)
 |_=>none
theorem aan{K:aqe}{g:Gh}{H:Hp}{x:V}{d c:Dat}{v:V}(h:dZ K g H x d)(hc:scD c=some v):decide (x=v)=mU c d:=by
 cases c with
 |none=>
  cases hc;cases d with
  |none=>cases Fj h;rfl
  |bool b=>cases DP h;rfl
  |int b=>cases cI h;rfl
  |str b=>cases jJ h;rfl
  |list b=>obtain⟨a,us,rfl,_⟩:=jf h;rfl
  |tuple b=>obtain⟨a,us,rfl,_⟩:=lB h;rfl
  |dict b=>cases h;rfl
 |bool c=>
  cases hc;cases d with
  |none=>cases Fj h;rfl
  |bool b=>cases DP h;exact dec_bl
  |int b=>cases cI h;rfl
  |str b=>cases jJ h;rfl
  |list b=>obtain⟨a,us,rfl,_⟩:=jf h;rfl
  |tuple b=>obtain⟨a,us,rfl,_⟩:=lB h;rfl
  |dict b=>cases h;rfl
 |_=>cases hc
def Zj(neg:Bool)(v:V):R2:=λx y H Q=>y=v/\Q (.bl (neg ^^ decide (x=v))) H
theorem ab5{x v:V}{u w:Value}(hv:v=.non∨∃b,v=.bl b)(rx:RelV x u)(rv:RelV v w):(u==w)=decide (x=v):=by
 rcases hv with rfl|⟨b,rfl⟩
 ·cases rv;exact rx.none_iff
 ·cases rv;rw[aqX,beq_iff_eq,ars];constructor
  ·rintro rfl;cases x with
   |bl c=>cases rx;rfl
   |non=>cases rx
   |ref _=>cases rx
   |ty _=>cases rx
   |_=>obtain⟨t,z⟩:=rx;cases z
  ·rintro rfl;exact rx
theorem UG{x v:V}{u w:Value}(hv:v=.non∨∃b,v=.bl b)(rx:RelV x u)(rv:RelV v w):plainIs u w=true:=by rcases hv with rfl | ⟨b,rfl⟩<;>(cases rv;cases x<;>first | (cases rx;rfl) | (obtain⟨t,rfl⟩:=rx;rfl))
theorem aiu{X:Cx}{v:V}(hv:v=.non∨∃b,v=.bl b):OpR X (compareOp .Is) (Zj false v):=by intro pins s σ H x y u w Q I rx ry h;obtain⟨rfl,q⟩:=h;refine wpAny_is_plain (UG hv rx ry) ?_;rw[ab5 hv rx ry];rw[Bool.false_xor]at q;exact⟨.bl _,H,I,rfl,q⟩
theorem abT{X:Cx}{v:V}(hv:v=.non∨∃b,v=.bl b):OpR X (compareOp .IsNot) (Zj true v):=by intro pins s σ H x y u w Q I rx ry h;obtain⟨rfl,q⟩:=h;refine wpAny_isNot_plain (UG hv rx ry) ?_;rw[ab5 hv rx ry];rw[Bool.true_xor]at q;exact⟨.bl _,H,I,rfl,q⟩
def xX(neg:Bool)(c:Dat)(a:QF):QF:=λM Z=>(a M Z).bind λd=>.ok (.bool (neg ^^ mU c d))
section
variable{X:Cx}{aj:aQ}{W:WX}{a b c:Expr}{fa fb fc:QF}{pos:Pos}
theorem akI{op:CmpOp}{neg:Bool}{d:Dat}{v:V}(hc:scD d=some v)(hr:OpR X (compareOp op) (Zj neg v))(ha:QW aj X W a fa)(hb:PE X b (tC v))(hm:behindInMarks op b=false):QE aj X W (.Compare a [op] [b] pos) (xX neg d fa):=
 PE.weak (pe_cmpR hr ha hb hm) λσ H Q ⟨g,Z,M,I,h⟩=>by
  refine tW.go I h.bnd λe x H1 h1 e1 r1=>?_;refine⟨rfl,?_⟩;rw[aan r1 hc];exact h1 _ H1 e1 (.bl _)
end
def Iw:Dat->Bool
 |.none=>true
 |.bool _=>true
 |.int _=>true
 |.str _=>true
 |_=>false
def inB:Dat->Dat->Out Bool
 |d,.list ds=>Out.when (okd 12 d&&jY 12 ds) (.ok (ds.any λz=>PyData.eqv z d))
 |d,.tuple ds=>Out.when (Iw d&&ds.all Iw) (.ok (ds.any λz=>PyData.eqv z d))
 |.str x,.str z=>match x.cps.toList with
  |[c]=>.ok (decide (c∈z.cps.toList))
  |_=>.bad
 |_,_=>.bad
def inD(neg:Bool)(d e:Dat):Out Dat:=(inB d e).bind λb=>.ok (.bool (neg ^^ b))
section
variable{K:aqe}{g:Gh}{H:Hp}
theorem Y8{v:V}{d:Dat}(f:Iw d=true)(h:Rep K g H v d):flatV v=true:=by
 cases h with
 |tup _ _=>cases f
 |lst _ _=>cases f
 |obj _=>cases f
 |_=>rfl
theorem Ul:∀{vs:List V} {ds:List Dat},ds.all Iw=true->aJ K g H vs ds->vs.all flatV=true
 |_,_,_,.nil=>rfl
 |_,_,f,.cons h t=>by
  rw[aqS,aqf]at f;rw[aqS,Y8 f.1 h,Ul f.2 t];rfl
theorem agX{v w:V}{d e:Dat}(f1:Iw d=true)(f2:Iw e=true)(h1:Rep K g H v d)(h2:Rep K g H w e):eqV v w=PyData.eqv d e:=by
 cases h1 with
 |tup _ _=>cases f1
 |lst _ _=>cases f1
 |obj _=>cases f1
 |non=>cases h2 with
  |tup _ _=>cases f2
  |lst _ _=>cases f2
  |obj _=>cases f2
  |_=>simp[eqV,PyData.eqv]
 |bl b=>cases h2 with
  |tup _ _=>cases f2
  |lst _ _=>cases f2
  |obj _=>cases f2
  |_=>simp[eqV,PyData.eqv]
 |int b=>cases h2 with
  |tup _ _=>cases f2
  |lst _ _=>cases f2
  |obj _=>cases f2
  |_=>simp[eqV,PyData.eqv]
 |str b=>cases h2 with
  |tup _ _=>cases f2
  |lst _ _=>cases f2
  |obj _=>cases f2
  |_=>simp[eqV,PyData.eqv]
theorem aaK{w:V}{e:Dat}(f2:Iw e=true)(h2:Rep K g H w e):∀{vs:List V} {ds:List Dat},ds.all Iw=true->aJ K g H vs ds->inV w vs=ds.any λz=>PyData.eqv z e
 |_,_,_,.nil=>rfl
 |v::vs,d::ds,f,.cons h t=>by
  rw[aqS,aqf]at f;have ih:=aaK f2 h2 f.2 t;unfold inV at ih ⊢;rw[aq8,aq8,ih,agX f.1 f2 h h2]
theorem ahv{v:V}{d:Dat}(f:Iw d=true)(h:dZ K g H v d):Rep K g H v d:=by
 cases d with
 |list _=>cases f
 |_=>exact h
end
def Xd(K:aqe)(neg:Bool):R2:=λx y H Q=>(∃d ds,Dp K H x d/\Dp K H y (.list ds)/\SeqAt.shaped d=true/\SeqAt.shaped (.list ds)=true/\Q (.bl (neg ^^ (ds.any λz=>PyData.eqv z d))) H)∨
 (∃p xs,y=.ref p/\(SqL K H p xs∨SqT K H p xs)/\flatV x=true/\xs.all flatV=true/\Q (.bl (neg ^^ inV x xs)) H)∨∃(c:Nat) (z:Str),x=.str ⟨#[c]⟩/\y=.str z/\Q (.bl (neg ^^ decide (c∈z.cps.toList))) H
theorem akj{X:Cx}(hu:X.A.units+65 < cLine):OpR X (compareOp .In) (Xd X.K false):=λpins s σ H x y v u Q I rx ry h=>by
 unfold Xd at h;simp only[Bool.false_xor]at h;rcases h with⟨d,ds,h⟩|⟨p,xs,h⟩|h
 ·exact op_inD hu pins s σ H x y v u Q I rx ry ⟨d,ds,h⟩
 ·exact op_in_seq pins s σ H x y v u Q I rx ry ⟨p,xs,h⟩
 ·exact op_in_sign pins s σ H x y v u Q I rx ry h
theorem acf{X:Cx}(hu:X.A.units+65 < cLine):OpR X (compareOp .NotIn) (Xd X.K true):=λpins s σ H x y v u Q I rx ry h=>by
 unfold Xd at h;simp only[Bool.true_xor]at h;rcases h with⟨d,ds,h⟩|⟨p,xs,h⟩|h
 ·exact op_notInD hu pins s σ H x y v u Q I rx ry ⟨d,ds,h⟩
 ·exact op_notIn_seq pins s σ H x y v u Q I rx ry ⟨p,xs,h⟩
 ·exact op_notIn_sign pins s σ H x y v u Q I rx ry h
theorem afD{K:aqe}{aj:aQ}{W:WX}{neg:Bool}:pK aj K W (inD neg) (Xd K neg):=λσ g H x y d e Q k rx ry h=>by
 replace h:=Out.sat.bnd h
 unfold inB at h;split at h
 ·next ds=>
  obtain⟨hz,h⟩:=h.pP;rw[aqf]at hz;have e2:okd 13 (.list ds)=true:=by rw[okd];exact hz.2
  exact .inl ⟨_,ds,rx.dp hz.1,ry.dp e2,Bj hz.1 (by decide),Bj e2 (by decide),h _ H (Ex.refl H) (.bl _)⟩
 ·next ds=>
  obtain⟨hz,h⟩:=h.pP;rw[aqf]at hz;obtain⟨p,us,rfl,h1,h2⟩:=lB ry;have rx':=ahv hz.1 rx;refine .inr (.inl ⟨p,us,rfl,.inr h1,Y8 hz.1 rx',Ul hz.2 h2,?_⟩);rw[aaK hz.1 rx' hz.2 h2];exact h _ H (Ex.refl H) (.bl _)
 ·next xs z=>
  split at h
  ·next c e=>
   refine .inr (.inr ⟨c,z,?_,jJ ry,h _ H (Ex.refl H) (.bl _)⟩);rw[jJ rx];congr 1;have:xs.cps=#[c]:=by apply Array.toList_inj.mp;rw[e]
   cases xs;simp only at this;rw[this]
  ·exact arq h
 ·exact arq h
def Ol:Dat->Out Dat
 |.int i=>.ok (.int (-i))
 |_=>.bad
def HX:Dat->Out Bool
 |.none=>.ok false
 |.bool b=>.ok b
 |.int i=>.ok (i != 0)
 |.str x=>Out.when (decide (x.length<=100000)) (.ok (!x.cps.toList.isEmpty))
 |.list ds=>.ok (!ds.isEmpty)
 |.tuple ds=>.ok (!ds.isEmpty)
 |_=>.bad
def iJ(a:QF):QT:=λM Z=>(a M Z).bind HX
def Ax:Dat->Out Bool
 |.bool b=>.ok b
 |_=>.bad
def aY(a:QF):QT:=λM Z=>(a M Z).bind Ax
def jU(a:QT):QT:=λM Z=>(a M Z).bind λb=>.ok (!b)
def jF(a b:QT):QT:=λM Z=>(a M Z).bind λx=>if x=true then b M Z else .ok false
def yd(a b:QT):QT:=λM Z=>(a M Z).bind λx=>if x=true then .ok true else b M Z
def Vm(a:QT):QF:=λM Z=>(a M Z).bind λb=>.ok (.bool b)
def Q6(t:QT)(a b:QF):QF:=λM Z=>(t M Z).bind λx=>if x=true then a M Z else b M Z
theorem Qx{K:aqe}{g:Gh}{H:Hp}{us:List V}{ds:List Dat}(h:aJ K g H us ds):(!ds.isEmpty)=!us.isEmpty:=by cases h<;>rfl
section
variable{X:Cx}{aj:aQ}{W:WX}{a b c:Expr}{fa fb fc:QF}{ta tb:QT}{pos:Pos}
theorem aj9(ha:QW aj X W a fa):QE aj X W (.UnaryOp .USub a pos) (eO Ol fa):=
 PE.weak (pe_un un_neg ha) λσ H Q ⟨g,Z,M,I,h⟩=>by
  refine tW.go I h.bnd λd v H1 h1 e1 r1=>?_;unfold Ol at h1;split at h1
  ·exact⟨_,cI r1,h1 _ H1 e1 (.int _)⟩
  ·exact arq h1
theorem ajz{g:Gh}{H:Hp}{v:V}{d:Dat}{P:Bool->Prop}{E:cY->Prop}(r:dZ X.K g H v d)(h:(HX d).sat P E):∃k,TruV X.K v H k/\P k:=by
 unfold HX at h;split at h
 ·cases Fj r;exact⟨_,rfl,h⟩
 ·cases DP r;exact⟨_,rfl,h⟩
 ·cases cI r;exact⟨_,rfl,h⟩
 ·next x=>
  obtain⟨hz,h⟩:=h.pP;cases jJ r;refine⟨_,⟨sz_of (aru hz),?_⟩,h⟩;have e:x.length=x.cps.toList.length:=by rw[aqN];rfl
  rw[e];cases x.cps.toList with
  |nil=>rfl
  |cons y ys=>
   refine Eq.symm (bne_iff_ne.mpr ?_);simp;omega
 ·obtain⟨p,us,rfl,h1,h2⟩:=jf r;rw[Qx h2]at h;exact⟨_,.inl ⟨us,h1,rfl⟩,h⟩
 ·obtain⟨p,us,rfl,h1,h2⟩:=lB r;rw[Qx h2]at h;exact⟨_,.inr (.inl ⟨us,h1,rfl⟩),h⟩
 ·exact arq h
theorem ajP(ha:QW aj X W a fa)(he:∀whole,isTrue a X.env whole=(do let v ←whole;standAt a.pos;holding [v] (truthy v))):rH aj X W a (iJ fa):=
 PT.weak (pt_truth ha he) λσ H Q ⟨g,Z,M,I,h⟩=>by
  refine tW.go I h.bnd λd v H1 h1 e1 r1=>?_;obtain⟨k,h2,h3⟩:=ajz r1 h1;exact⟨k,h2,h3 H1 e1⟩
theorem CZ{g:Gh}{H:Hp}{v:V}{d:Dat}{P:Bool->Prop}{E:cY->Prop}(r:dZ X.K g H v d)(h:(Ax d).sat P E):∃k,v=.bl k/\P k:=by
 unfold Ax at h;split at h
 ·cases DP r;exact⟨_,rfl,h⟩
 ·exact arq h
theorem ajt{op:CmpOp}{r:R2}{o:Dat->Dat->Out Dat}(hr:OpR X (compareOp op) r)(ho:pK aj X.K W o r)(ha:QW aj X W a fa)(hb:QW aj X W b fb)(hm:behindInMarks op b=false):rH aj X W (.Compare a [op] [b] pos) (aY (aA o fa fb)):=
 PT.weak (pt_cmpR hr ha hb hm) λσ H Q ⟨g,Z,M,I,h⟩=>by
  refine Qc ho σ H _ ⟨g,Z,M,I,h.bnd.mono (λd h1 v H' e' r'=>?_) λ_ z=>z⟩;obtain⟨k,h2,h3⟩:=CZ r'.weak h1;exact⟨k,h2,h3 H' e'⟩
theorem alu{op:CmpOp}{neg:Bool}{d:Dat}{v:V}(hc:scD d=some v)(hr:OpR X (compareOp op) (Zj neg v))(ha:QW aj X W a fa)(hb:PE X b (tC v))(hm:behindInMarks op b=false):rH aj X W (.Compare a [op] [b] pos) (aY (xX neg d fa)):=
 PT.weak (pt_cmpR hr ha hb hm) λσ H Q ⟨g,Z,M,I,h⟩=>by
  refine tW.go I h.bnd.bnd λe x H1 h1 e1 r1=>?_;refine⟨rfl,_,rfl,?_⟩;rw[aan r1 hc];exact h1 H1 e1
theorem aiQ(ha:rH aj X W a ta):rH aj X W (.UnaryOp .Not a pos) (jU ta):=
 PT.weak (pt_not ha) λσ H Q ⟨g,Z,M,I,h⟩=>jW.go I h.bnd λb H1 h1 e1=>h1 H1 e1
def QWt(aj:aQ)(X:Cx)(W:WX)(e:Expr)(f:QT):Prop:=PW X e (jW X.K aj W f)
theorem PW.weak{X:Cx}{e:Expr}{t t':TT}(h:PW X e t)(k:∀σ H Q,t' σ H Q->t σ H Q):PW X e t':=⟨λwh pins s σ H Q I q=>h.run wh pins s σ H Q I (k σ H Q q)⟩
theorem aj2{rest:List Expr}(ha:rH aj X W a ta)(hb:QWt aj X W (.BoolOp .And (b::rest) pos) tb):QWt aj X W (.BoolOp .And (a::b::rest) pos) (jF ta tb):=
 PW.weak (pw_and ha hb) λσ H Q ⟨g,Z,M,I,h⟩=>by
  refine jW.go I h.bnd λx H1 h1 e1=>?_;cases x with
  |true=>exact⟨g,Z,M,I.ex e1,h1.mono (λb k H' e'=>k H' (e1.trans e')) λ_ z=>z.ex e1⟩
  |false=>exact h1 H1 e1
theorem akH{rest:List Expr}(ha:rH aj X W a ta)(hb:QWt aj X W (.BoolOp .Or (b::rest) pos) tb):QWt aj X W (.BoolOp .Or (a::b::rest) pos) (yd ta tb):=
 PW.weak (pw_or ha hb) λσ H Q ⟨g,Z,M,I,h⟩=>by
  refine jW.go I h.bnd λx H1 h1 e1=>?_;cases x with
  |true=>exact h1 H1 e1
  |false=>exact⟨g,Z,M,I.ex e1,h1.mono (λb k H' e'=>k H' (e1.trans e')) λ_ z=>z.ex e1⟩
def QJ(a:QF):QF:=Vm (jU (aY a))
def wF(a b:QF):QF:=λM Z=>(a M Z).bind λd=>(Ax d).bind λx=>if x=true then b M Z else .ok (.bool false)
def aeB(a b:QF):QF:=λM Z=>(a M Z).bind λd=>(Ax d).bind λx=>if x=true then .ok (.bool true) else b M Z
theorem ahm(ha:QW aj X W a fa):QE aj X W (.UnaryOp .Not a pos) (QJ fa):=
 PE.weak (pe_not ha) λσ H Q ⟨g,Z,M,I,h⟩=>by
  refine tW.go I h.bnd.bnd.bnd λd v H1 h1 e1 r1=>?_;obtain⟨k,h2,h3⟩:=CZ r1 h1;exact⟨k,h2,h3 _ H1 e1 (.bl _)⟩
theorem agv{rest:List Expr}(ha:QE aj X W a fa)(hb:QE aj X W (.BoolOp .And (b::rest) pos) fb):QE aj X W (.BoolOp .And (a::b::rest) pos) (wF fa fb):=
 PE.weak (pe_and ha hb) λσ H Q ⟨g,Z,M,I,h⟩=>by
  refine tQ.go I h.bnd λd v H1 h1 e1 r1=>?_;obtain⟨k,h2,h3⟩:=CZ r1.weak h1.bnd;refine⟨k,h2,?_⟩;cases k with
  |true=>exact⟨g,Z,M,I.ex e1,h3.mono (λb k v' H' e' r'=>k v' H' (e1.trans e') r') λ_ z=>z.ex e1⟩
  |false=>exact h3 _ H1 e1 (.bl false)
theorem aki{rest:List Expr}(ha:QE aj X W a fa)(hb:QE aj X W (.BoolOp .Or (b::rest) pos) fb):QE aj X W (.BoolOp .Or (a::b::rest) pos) (aeB fa fb):=
 PE.weak (pe_or ha hb) λσ H Q ⟨g,Z,M,I,h⟩=>by
  refine tQ.go I h.bnd λd v H1 h1 e1 r1=>?_;obtain⟨k,h2,h3⟩:=CZ r1.weak h1.bnd;refine⟨k,h2,?_⟩;cases k with
  |false=>exact⟨g,Z,M,I.ex e1,h3.mono (λb k v' H' e' r'=>k v' H' (e1.trans e') r') λ_ z=>z.ex e1⟩
  |true=>exact h3 _ H1 e1 (.bl true)
theorem afe(hc:rH aj X W c ta)(ha:QE aj X W a fa)(hb:QE aj X W b fb):QE aj X W (.IfExp c a b pos) (Q6 ta fa fb):=
 PE.weak (pe_ifExp hc ha hb) λσ H Q ⟨g,Z,M,I,h⟩=>by
  refine jW.go I h.bnd λx H1 h1 e1=>?_;cases x with
  |true=>exact⟨g,Z,M,I.ex e1,h1.mono (λb k v' H' e' r'=>k v' H' (e1.trans e') r') λ_ z=>z.ex e1⟩
  |false=>exact⟨g,Z,M,I.ex e1,h1.mono (λb k v' H' e' r'=>k v' H' (e1.trans e') r') λ_ z=>z.ex e1⟩
def nR(o o':Dat->Dat->Out Dat)(a b c:QF):QT:=λM Z=>(a M Z).bind λx=>(b M Z).bind λy=>(o x y).bind λz=>(Ax z).bind λk=>if k=true then(c M Z).bind λw=>(o' y w).bind Ax else .ok false
theorem Xb{r r':R2}{o o':Dat->Dat->Out Dat}(ho:pK aj X.K W o r)(ho':pK aj X.K W o' r'){σ:L2.St}{H:Hp}{Q:VK}{P:Bool->Hp->Prop}(hP:∀k H',P k H'->Q (.bl k) H')(h:jW X.K aj W (nR o o' fa fb fc) σ H P):tChain r r' (tW X.K aj W fa) (tW X.K aj W fb) (tW X.K aj W fc) σ H Q:=by
 obtain⟨g,Z,M,I,h⟩:=h;refine tW.go I h.bnd λd v H1 h1 e1 r1=>?_;have I1:=I.ex e1;refine tW.go I1 (h1.bnd.mono (λ_ z=>z) λ_ z=>z.ex e1) λd2 v2 H2 h2 e2 r2=>?_;have I2:=I1.ex e2;have r1':=r1.ex e2 I1.kd;refine ho σ g H2 v v2 d d2 _ I2.kd r1' r2 (h2.bnd.mono (λz hz u H3 e3 r3=>?_) λ_ z=>(z.ex e1).ex e2);obtain⟨k,h4,h5⟩:=CZ r3.weak hz.bnd;refine⟨k,h4,?_⟩;have I3:=I2.ex e3;have e13:=(e1.trans e2).trans e3;cases k with
 |false=>exact hP _ _ (h5 H3 e13)
 |true=>
  refine tW.go I3 (h5.bnd.mono (λ_ z=>z) λ_ z=>z.ex e13) λd4 v4 H4 h6 e4 r4=>?_;refine ho' σ g H4 v2 v4 d2 d4 _ (I3.ex e4).kd ((r2.ex e3 I2.kd).ex e4 I3.kd) r4 (h6.bnd.mono (λz hz u H5 e5 r5=>?_) λ_ z=>(z.ex e13).ex e4);obtain⟨k,rfl,h8⟩:=CZ r5.weak hz;exact hP _ _ (h8 H5 ((e13.trans e4).trans e5))
theorem aeP{op op':CmpOp}{r r':R2}{o o':Dat->Dat->Out Dat}(hr:OpR X (compareOp op) r)(hr':OpR X (compareOp op') r')(ho:pK aj X.K W o r)(ho':pK aj X.K W o' r')(ha:QW aj X W a fa)(hb:QW aj X W b fb)(hc:QW aj X W c fc)(hm:lastMarks [op,op'] [b,c]=false) :
  rH aj X W (.Compare a [op,op'] [b,c] pos) (nR o o' fa fb fc):=
 PT.weak (pt_chain hr hr' ha hb hc hm) λσ H Q h=>Xb ho ho' (λk H' z=>⟨k,rfl,z⟩) h
theorem aeM{op op':CmpOp}{r r':R2}{o o':Dat->Dat->Out Dat}(hr:OpR X (compareOp op) r)(hr':OpR X (compareOp op') r')(ho:pK aj X.K W o r)(ho':pK aj X.K W o' r')(ha:QW aj X W a fa)(hb:QW aj X W b fb)(hc:QW aj X W c fc)(hm:lastMarks [op,op'] [b,c]=false) :
  QE aj X W (.Compare a [op,op'] [b,c] pos) (Vm (nR o o' fa fb fc)):=
 PE.weak (pe_chain hr hr' ha hb hc hm) λσ H Q ⟨g,Z,M,I,h⟩=>Xb (P:=λb H1=>Q (.bl b) H1) ho ho' (λk H' z=>z) ⟨g,Z,M,I,h.bnd.mono (λb h1 H' e'=>h1 _ H' e' (.bl b)) λ_ z=>z⟩
end
def aO:Dat->Dat->Out Dat
 |.list ds,.int i=>match atI ds i with
  |some d=>.ok d
  |none=>.bad
 |.tuple ds,.int i=>match atI ds i with
  |some d=>.ok d
  |none=>.bad
 |.str z,.int i=>Out.when (decide (z.length<=100000)) (match atI z.cps.toList i with
  |some c=>.ok (.str ⟨#[c]⟩)
  |none=>.bad)
 |_,_=>.bad
theorem aaV{K:aqe}{g:Gh}{H:Hp}{us:List V}{ds:List Dat}{i:Int}{d:Dat}(h:aJ K g H us ds)(e:atI ds i=some d):∃v,atI us i=some v/\Rep K g H v d:=by
 unfold atI at e ⊢;rw[h.length];cases hj:ixN ds.length i with
 |none=>rw[hj]at e;cases e
 |some j=>
  rw[hj]at e;obtain⟨v,h1,h2⟩:=h.get (i:=j) e;exact⟨v,h1,h2⟩
def ajW(K:aqe):R2:=λx y H Q=>rIxL K x y H Q∨rIxT K x y H Q∨rIxS x y H Q
theorem amq{X:Cx}:IxR X (ajW X.K):=λvalue slice pins s σ H x y v u Q I rx ry h hs=>by
 rcases h with h|h|h
 ·exact ix_list value slice pins s σ H x y v u Q I rx ry h hs
 ·exact ix_tup value slice pins s σ H x y v u Q I rx ry h hs
 ·exact ix_str value slice pins s σ H x y v u Q I rx ry h hs
theorem aky{K:aqe}{aj:aQ}{W:WX}:pK aj K W aO (ajW K):=λσ g H x y d e Q k rx ry h=>by
 unfold aO at h;split at h
 ·split at h
  ·next z hz=>
   obtain⟨p,us,rfl,h1,h2⟩:=jf rx;obtain⟨v,h3,h4⟩:=aaV h2 hz;exact .inl ⟨p,us,_,v,rfl,cI ry,h1,h3,h v H (Ex.refl H) h4⟩
  ·exact arq h
 ·split at h
  ·next z hz=>
   obtain⟨p,us,rfl,h1,h2⟩:=lB rx;obtain⟨v,h3,h4⟩:=aaV h2 hz;exact .inr (.inl ⟨p,us,_,v,rfl,cI ry,h1,h3,h v H (Ex.refl H) h4⟩)
  ·exact arq h
 ·obtain⟨hl,h⟩:=h.pP;split at h
  ·next c hz=>exact .inr (.inr ⟨_,_,c,jJ rx,cI ry,sz_of (aru hl),hz,h _ H (Ex.refl H) (.str _)⟩)
  ·exact arq h
 ·exact arq h
def cutD{α:Type}(xs:List α)(lo hi:Option Int):List α:=(xs.drop (HT.sIx xs.length 0 lo)).take (HT.sIx xs.length xs.length hi - HT.sIx xs.length 0 lo)
abbrev QO:=Mo->Env->Out (Option Int)
def CJ:QO:=λ_ _=>.ok none
def Am:Dat->Out Int
 |.int i=>.ok i
 |_=>.bad
def sS(a:QF):QO:=λM Z=>(a M Z).bind λd=>(Am d).bind λi=>.ok (some i)
def slD(d:Dat)(lo hi:Option Int):Out Dat:=
 match d with
 |.list ds=>.ok (.list (cutD ds lo hi))
 |.tuple ds=>.ok (.tuple (cutD ds lo hi))
 |.str z=>Out.when (decide (z.length<=100000)) (.ok (.str (cutS z lo hi)))
 |_=>.bad
def QH(a:QF)(lo hi:QO):QF:=λM Z=>(a M Z).bind λd=>(lo M Z).bind λl=>(hi M Z).bind λh=>slD d l h
def tQO(K:aqe)(aj:aQ)(W:WX)(f:QO):TO:=λσ H Q=>∃g Z M,SInv K aj σ H g Z M/\(f M Z).sat (λo=>∀H',Ex H H'->Q o H') (qG K aj W g H σ)
def QOe(aj:aQ)(X:Cx)(W:WX)(e:Option Expr)(f:QO):Prop:=PO X e (tQO X.K aj W f)
def ajE(K:aqe):V->Option Int->Option Int->Hp->VK->Prop:=λx lo hi H Q=>rSlL K x lo hi H Q∨rSlA K x lo hi H Q∨rSlS x lo hi H Q
theorem amB{X:Cx}:SlR X (ajE X.K):=λpins s σ H x v vl vu lo hi sl Q I rx hs pl pu h=>by
 rcases h with h|h|h
 ·exact sl_list pins s σ H x v vl vu lo hi sl Q I rx hs pl pu h
 ·exact sl_tupA pins s σ H x v vl vu lo hi sl Q I rx hs pl pu h
 ·exact sl_str pins s σ H x v vl vu lo hi sl Q I rx hs pl pu h
theorem ak8{K:aqe}{g:Gh}{H:Hp}{x:V}{d:Dat}{lo hi:Option Int}{Q:VK}{E:cY->Prop}(k:Kd g H)(rx:dZ K g H x d)(h:(slD d lo hi).sat (λz=>∀v H',Ex H H'->Rep K g H' v z->Q v H') E):ajE K x lo hi H Q:=by
 unfold slD at h;have hc:∀{us:List V} {ds:List Dat},aJ K g H us ds->aJ K g H (cutV us lo hi) (cutD ds lo hi):=λ{us ds} t=>by
  unfold cutV cutD;rw[t.length];exact(t.drop _).take _
 split at h
 ·obtain⟨p,us,rfl,h1,h2⟩:=jf rx;exact .inl ⟨p,us,rfl,h1,λq nq=>h _ _ (Ex.new nq) (.lst (.inl ⟨.inl upd_same,k.fresh nq⟩) ((hc h2).ex (Ex.new nq) k))⟩
 ·next ds=>
  obtain⟨p,us,rfl,h1,h2⟩:=lB rx;refine .inr (.inl ⟨p,us,rfl,h1,λz=>?_,λ_ q nq=>h _ _ (Ex.new nq) (.tup (st_of upd_same) ((hc h2).ex (Ex.new nq) k))⟩);have e:cutD ds lo hi=ds:=by unfold cutD;rw[←h2.length,z.1,z.2,h2.length];simp
  rw[e]at h;exact h _ H (Ex.refl H) (.tup h1 h2)
 ·obtain⟨hz,h⟩:=h.pP;exact .inr (.inr ⟨_,jJ rx,sz_of (aru hz),h _ H (Ex.refl H) (.str _)⟩)
 ·exact arq h
section
variable{X:Cx}{aj:aQ}{W:WX}{a b:Expr}{fa fb:QF}{pos p2:Pos}
theorem akA(ha:QW aj X W a fa)(hb:QW aj X W b fb)(hs:PlainIx b):QE aj X W (.Subscript a b pos) (aA aO fa fb):=
 PE.weak (pe_ix amq ha hb hs) λσ H Q h=>Qc aky σ H Q h
theorem PO.weak{X:Cx}{e:Option Expr}{t t':TO}(h:PO X e t)(k:∀σ H Q,t' σ H Q->t σ H Q):PO X e t':=⟨λpins s σ H Q I q=>h.run pins s σ H Q I (k σ H Q q)⟩
theorem ahb:QOe aj X W none CJ:=PO.weak po_none λσ H Q ⟨g,Z,M,I,h⟩=>h H (Ex.refl H)
theorem afZ(ha:QW aj X W a fa):QOe aj X W (some a) (sS fa):=PO.weak (po_some ha) λσ H Q ⟨g,Z,M,I,h⟩=>by
 refine tW.go I h.bnd λd v H1 h1 e1 r1=>?_;have h1:=h1.bnd;unfold Am at h1;split at h1
 ·exact⟨_,cI r1,h1 H1 e1⟩
 ·exact arq h1
theorem ak7{lo hi:Option Expr}{fl fh:QO}(ha:QW aj X W a fa)(hl:QOe aj X W lo fl)(hh:QOe aj X W hi fh):QE aj X W (.Subscript a (.Slice lo hi none p2) pos) (QH fa fl fh):=
 PE.weak (pe_slice amB ha hl hh) λσ H Q ⟨g,Z,M,I,h⟩=>by
  refine tW.go I h.bnd λd v H1 h1 e1 r1=>?_;have I1:=I.ex e1;refine⟨g,Z,M,I1,h1.bnd.mono (λl h2 H2 e2=>?_) λ_ z=>z.ex e1⟩;have I2:=I1.ex e2;refine⟨g,Z,M,I2,h2.bnd.mono (λu h3 H3 e3=>?_) λ_ z=>(z.ex e1).ex e2⟩;exact ak8 (I2.ex e3).kd ((r1.ex e2 I1.kd).ex e3 I2.kd) (h3.mono (λz hz v' H' e' r'=>hz v' H' (((e1.trans e2).trans e3).trans e') r') λ_ z=>z)
end
def Iz(aj:aQ)(K:aqe)(W:WX)(o:Dat->Out Dat)(r:List V->Hp->VK->Prop):Prop:=∀(σ:L2.St) (g:Gh) (H:Hp) (x:V) (d:Dat) (Q:VK),Kd g H->dZ K g H x d->
 (o d).sat (λz=>∀v H',Ex H H'->Rep K g H' v z->Q v H') (qG K aj W g H σ)->r [x] H Q
def Fn2(aj:aQ)(K:aqe)(W:WX)(o:Dat->Dat->Out Dat)(r:List V->Hp->VK->Prop):Prop:=∀(σ:L2.St) (g:Gh) (H:Hp) (x y:V) (d e:Dat) (Q:VK),Kd g H->dZ K g H x d->dZ K g H y e->
 (o d e).sat (λz=>∀v H',Ex H H'->Rep K g H' v z->Q v H') (qG K aj W g H σ)->r [x,y] H Q
def BV(f:Value)(x:Str):Prop:=bootBuiltins x=some f/\x≠"__name__"/\(x==("__debug__" : Str))=false
def nst:Expr->Bool
 |.Starred _ _=>false
 |_=>true
section
variable{X:Cx}{aj:aQ}{W:WX}{a b c:Expr}{fa fb fc:QF}{pos p:Pos}{x:Str}
theorem cO{env:PySem.Env}{a:Expr}(h:nst a=true)(es:List Expr):starEach (a::es) env=(false,eval a env)::starEach es env:=by cases a<;>first | rfl | cases h
theorem star_any{env:PySem.Env}{pos:Pos}:∀(es:List Expr),es.all nst=true->(backTo pos (starEach es env)).any (·.1)=false
 |[],_=>by with_unfolding_all rfl
 |a::es,h=>by
  rw[aqS,aqf]at h;rw[cO h.1];have ih:=star_any (env:=env) (pos:=pos) es h.2;unfold backTo at ih ⊢;rw[aqh,aq8,ih];rfl
theorem afF{f:Value}{id:String}{r:List V->Hp->VK->Prop}{o:Dat->Out Dat}(hf:f=.builtin id∨f=.type id)(hc:CallR X f r)(ho:Iz aj X.K W o r)(hg:Gl X x)(hm:X.mg x=none)(hv:BV f x)(ha:QW aj X W a fa)(hs:nst a=true):QE aj X W (.Call (.Name x p) [a] [] pos) (eO o fa):=by
 have h1:=pa_cons ha pa_nil (cO hs []);have key:PE X (.Call (.Name x p) [a] [] pos) (tCB r (tCons (tW X.K aj W fa) tNil)):=by
  rcases hf with rfl|rfl
  ·exact pe_callB hc hg hm hv.1 h1 hv.2.1 hv.2.2 (cO hs []) (by with_unfolding_all rfl)
  ·exact pe_callTy hc hg hm hv.1 h1 hv.2.1 hv.2.2 (cO hs []) (by with_unfolding_all rfl)
 refine PE.weak key λσ H Q ⟨g,Z,M,I,h⟩=>?_;refine tW.go I h.bnd λd v H1 h1 e1 r1=>?_;exact ho σ g H1 v d Q (I.kd.ex e1) r1 (h1.mono (λz hz u H' e' r'=>hz u H' (e1.trans e') r') λ_ z=>z.ex e1)
theorem akG{f:Value}{id:String}{r:List V->Hp->VK->Prop}{o:Dat->Dat->Out Dat}(hf:f=.builtin id∨f=.type id)(hc:CallR X f r)(ho:Fn2 aj X.K W o r)(hg:Gl X x)(hm:X.mg x=none)(hv:BV f x)(ha:QW aj X W a fa)(hb:QW aj X W b fb)(hs:nst a=true)(hs2:nst b=true):QE aj X W (.Call (.Name x p) [a,b] [] pos) (aA o fa fb):=by
 have h1:=pa_cons ha (pa_cons hb pa_nil (cO hs2 [])) (cO hs [b]);have key:PE X (.Call (.Name x p) [a,b] [] pos) (tCB r (tCons (tW X.K aj W fa) (tCons (tW X.K aj W fb) tNil))):=by
  rcases hf with rfl|rfl
  ·exact pe_callB hc hg hm hv.1 h1 hv.2.1 hv.2.2 (cO hs [b]) (star_any [b] (by simp[hs2]))
  ·exact pe_callTy hc hg hm hv.1 h1 hv.2.1 hv.2.2 (cO hs [b]) (star_any [b] (by simp[hs2]))
 refine PE.weak key λσ H Q ⟨g,Z,M,I,h⟩=>?_;refine tW.go I h.bnd λd v H1 h1 e1 r1=>?_;have I1:=I.ex e1;refine tW.go I1 (h1.bnd.mono (λ_ z=>z) λ_ z=>z.ex e1) λd2 v2 H2 h2 e2 r2=>?_;exact ho σ g H2 v v2 d d2 Q (I1.ex e2).kd (r1.ex e2 I1.kd) r2 (h2.mono (λz hz u H' e' r'=>hz u H' ((e1.trans e2).trans e') r') λ_ z=>(z.ex e1).ex e2)
end
def oF:Dat->Out Dat
 |.list ds=>.ok (.int ds.length)
 |.tuple ds=>.ok (.int ds.length)
 |.str x=>Out.when (decide (x.length<=100000)) (.ok (.int x.length))
 |_=>.bad
def Tg:Dat->Out Dat
 |.int i=>.ok (.int (if i < 0 then -i else i))
 |_=>.bad
def oJ:Dat->Dat->Out Dat
 |.int i,.int j=>.ok (.int (if j > i then j else i))
 |_,_=>.bad
def HD:Dat->Dat->Out Dat
 |.int i,.int j=>.ok (.int (if j < i then j else i))
 |_,_=>.bad
def intsOf:List Dat->Option (List Int)
 |[]=>some []
 |.int i::r=>(intsOf r).map (i::·)
 |_::_=>none
def tO:List Dat->Option (List Bool)
 |[]=>some []
 |.bool i::r=>(tO r).map (i::·)
 |_::_=>none
theorem Hj{K:aqe}{g:Gh}{H:Hp}:∀{us:List V} {ds:List Dat} {ns:List Int},aJ K g H us ds->intsOf ds=some ns->us=ns.map V.int
 |_,_,ns,.nil,e=>by cases e;rfl
 |_,_,ns,.cons (d:=d) (ds:=ds) h t,e=>by
  cases d with
  |int i=>
   rw[intsOf]at e;cases hr:intsOf ds with
   |none=>rw[hr]at e;cases e
   |some r=>
    rw[hr]at e;cases e;cases h;rw[Hj t hr];rfl
  |_=>cases e
theorem Kc{K:aqe}{g:Gh}{H:Hp}:∀{us:List V} {ds:List Dat} {ns:List Bool},aJ K g H us ds->tO ds=some ns->us=ns.map V.bl
 |_,_,ns,.nil,e=>by cases e;rfl
 |_,_,ns,.cons (d:=d) (ds:=ds) h t,e=>by
  cases d with
  |bool i=>
   rw[tO]at e;cases hr:tO ds with
   |none=>rw[hr]at e;cases e
   |some r=>
    rw[hr]at e;cases e;cases h;rw[Kc t hr];rfl
  |_=>cases e
@[simp]theorem Bg (ns:List Int):intsOf (ns.map PyData.int)=some ns:=by
 induction ns with
 |nil=>rfl
 |cons n ns ih=>rw[aqh,intsOf,ih];rfl
@[simp]theorem Dq (ns:List Bool):tO (ns.map PyData.bool)=some ns:=by
 induction ns with
 |nil=>rfl
 |cons n ns ih=>rw[aqh,tO,ih];rfl
def Ue:Dat->Out Dat
 |.list ds=>match intsOf ds with
  |some ns=>.ok (.int ns.sum)
  |none=>.bad
 |_=>.bad
def Cy:Int->List Int->Int
 |m,[]=>m
 |m,n::ns=>Cy (if n > m then n else m) ns
theorem Vk:∀(ns:List Int) (m:Int),(Cy m ns∈m::ns)/\∀y∈m::ns,y<=Cy m ns
 |[],m=>⟨by simp[Cy],λy h=>by simp at h;subst h;exact Int.le_refl _⟩
 |n::ns,m=>by
  obtain⟨h1,h2⟩:=Vk ns (if n > m then n else m);have hm:m<=(if n > m then n else m):=by split<;>omega
  have hn:n<=(if n > m then n else m):=by split<;>omega
  have h3:=h2 _ aqj;refine⟨?_,λy hy=>?_⟩
  ·show Cy (if n > m then n else m) ns∈_;rcases aqt.mp h1 with e|e
   ·rw[e];split
    ·exact aqk _ aqj
    ·exact aqj
   ·exact aqk _ (aqk _ e)
  ·show y<=Cy (if n > m then n else m) ns;rcases aqt.mp hy with e|hy
   ·omega
   ·rcases aqt.mp hy with e|hy
    ·omega
    ·exact h2 y (aqk _ hy)
def maxD:Dat->Out Dat
 |.list ds=>match intsOf ds with
  |some (n::ns)=>.ok (.int (Cy n ns))
  |_=>.bad
 |_=>.bad
def Nk:Dat->Out Dat
 |.list ds=>match tO ds with
  |some bs=>.ok (.bool (bs.all id))
  |none=>.bad
 |_=>.bad
def Ox:Dat->Out Dat
 |.list ds=>match tO ds with
  |some bs=>.ok (.bool (bs.any id))
  |none=>.bad
 |_=>.bad
def lA:Dat->Out Dat
 |.list ds=>.ok (.tuple ds)
 |.tuple ds=>.ok (.tuple ds)
 |_=>.bad
def Ma:Dat->Out Dat
 |.list ds=>.ok (.list ds)
 |.tuple ds=>.ok (.list ds)
 |_=>.bad
def intD:Dat->Out Dat
 |.int i=>.ok (.int i)
 |.bool k=>.ok (.int (if k then 1 else 0))
 |.str x=>Out.when (decide (x.length<=640)) (match PySem.intText? x with
  |some n=>.ok (.int n)
  |none=>.bad)
 |_=>.bad
def afT(K:aqe):List V->Hp->VK->Prop:=λxs H Q=>(∃p ys,xs=[.ref p]/\(SqL K H p ys∨SqT K H p ys)/\Q (.int ys.length) H)∨∃z,xs=[.str z]/\z.length<=sizeLine/\Q (.int z.length) H
theorem ajI{X:Cx}:CallR X (.builtin "len") (afT X.K):=λpins s σ H xs us Q I r h=>h.elim (λh=>call_len_seq pins s σ H xs us Q I r h) λh=>call_len_str pins s σ H xs us Q I r h
def afO:List V->Hp->VK->Prop:=λxs H Q=>((∃i,xs=[.int i]/\Q (.int i) H)∨∃k,xs=[.bl k]/\Q (.int (if k then 1 else 0)) H)∨∃a n,xs=[.str a]/\PySem.intText? a=some n/\a.length<=640/\Q (.int n) H
theorem aie{X:Cx}:CallR X (.type "int") afO:=λpins s σ H xs us Q I r h=>h.elim (λh=>call_int1 pins s σ H xs us Q I r h) λh=>call_int_str pins s σ H xs us Q I r h
section
variable{K:aqe}{aj:aQ}{W:WX}
theorem ahM:Iz aj K W oF (afT K):=λσ g H x d Q k rx h=>by
 unfold oF at h;split at h
 ·obtain⟨p,us,rfl,h1,h2⟩:=jf rx;rw[←h2.length]at h;exact .inl ⟨p,us,rfl,.inl h1,h _ H (Ex.refl H) (.int _)⟩
 ·obtain⟨p,us,rfl,h1,h2⟩:=lB rx;rw[←h2.length]at h;exact .inl ⟨p,us,rfl,.inr h1,h _ H (Ex.refl H) (.int _)⟩
 ·obtain⟨hz,h⟩:=h.pP;cases jJ rx;exact .inr ⟨_,rfl,sz_of (aru hz),h _ H (Ex.refl H) (.int _)⟩
 ·exact arq h
theorem aiF:Iz aj K W Tg (λxs H Q=>∃i,xs=[.int i]/\Q (.int (if i < 0 then -i else i)) H):=λσ g H x d Q k rx h=>by
 unfold Tg at h;split at h
 ·cases cI rx;exact⟨_,rfl,h _ H (Ex.refl H) (.int _)⟩
 ·exact arq h
theorem agF:Fn2 aj K W oJ (λxs H Q=>∃i j,xs=[.int i,.int j]/\Q (.int (if j > i then j else i)) H):=λσ g H x y d e Q k rx ry h=>by
 unfold oJ at h;split at h
 ·cases cI rx;cases cI ry;exact⟨_,_,rfl,h _ H (Ex.refl H) (.int _)⟩
 ·exact arq h
theorem ahl:Fn2 aj K W HD (λxs H Q=>∃i j,xs=[.int i,.int j]/\Q (.int (if j < i then j else i)) H):=λσ g H x y d e Q k rx ry h=>by
 unfold HD at h;split at h
 ·cases cI rx;cases cI ry;exact⟨_,_,rfl,h _ H (Ex.refl H) (.int _)⟩
 ·exact arq h
theorem ajC:Iz aj K W Ue (rSum K):=λσ g H x d Q k rx h=>by
 unfold Ue at h;split at h
 ·split at h
  ·next ns e=>
   obtain⟨p,us,rfl,h1,h2⟩:=jf rx;have:=Hj h2 e;subst this;exact⟨p,ns,rfl,h1,h _ H (Ex.refl H) (.int _)⟩
  ·exact arq h
 ·exact arq h
theorem ais:Iz aj K W maxD (rMax K):=λσ g H x d Q k rx h=>by
 unfold maxD at h;split at h
 ·split at h
  ·next n ns e=>
   obtain⟨p,us,rfl,h1,h2⟩:=jf rx;have:=Hj h2 e;subst this;obtain⟨m1,m2⟩:=Vk ns n;refine⟨p,n::ns,rfl,h1,by simp,λm hm hy=>?_⟩;have e2:m=Cy n ns:=Int.le_antisymm (m2 m hm) (hy _ m1);rw[e2];exact h _ H (Ex.refl H) (.int _)
  ·exact arq h
 ·exact arq h
theorem ajo:Iz aj K W Nk (rAll K):=λσ g H x d Q k rx h=>by
 unfold Nk at h;split at h
 ·split at h
  ·next ns e=>
   obtain⟨p,us,rfl,h1,h2⟩:=jf rx;have:=Kc h2 e;subst this;exact⟨p,ns,rfl,h1,h _ H (Ex.refl H) (.bl _)⟩
  ·exact arq h
 ·exact arq h
theorem ajV:Iz aj K W Ox (rAny K):=λσ g H x d Q k rx h=>by
 unfold Ox at h;split at h
 ·split at h
  ·next ns e=>
   obtain⟨p,us,rfl,h1,h2⟩:=jf rx;have:=Kc h2 e;subst this;exact⟨p,ns,rfl,h1,h _ H (Ex.refl H) (.bl _)⟩
  ·exact arq h
 ·exact arq h
theorem ae8:Iz aj K W lA (λxs H Q=>∃p ys,xs=[.ref p]/\((SqL K H p ys/\∀l,H l=none->Q (.ref l) (upd H l (.tup ys)))∨(SqT K H p ys/\Q (.ref p) H))):=λσ g H x d Q k rx h=>by
 unfold lA at h;split at h
 ·obtain⟨p,us,rfl,h1,h2⟩:=jf rx;exact⟨p,us,rfl,.inl ⟨h1,λl nl=>h _ _ (Ex.new nl) (.tup (st_of upd_same) (h2.ex (Ex.new nl) k))⟩⟩
 ·obtain⟨p,us,rfl,h1,h2⟩:=lB rx;exact⟨p,us,rfl,.inr ⟨h1,h _ H (Ex.refl H) (.tup h1 h2)⟩⟩
 ·exact arq h
theorem agm:Iz aj K W Ma (λxs H Q=>∃p ys,xs=[.ref p]/\(SqL K H p ys∨SqT K H p ys)/\∀l,H l=none->Q (.ref l) (upd H l (.lst ys))):=λσ g H x d Q k rx h=>by
 unfold Ma at h;split at h
 ·obtain⟨p,us,rfl,h1,h2⟩:=jf rx;exact⟨p,us,rfl,.inl h1,λl nl=>h _ _ (Ex.new nl) (.lst (.inl ⟨.inl upd_same,k.fresh nl⟩) (h2.ex (Ex.new nl) k))⟩
 ·obtain⟨p,us,rfl,h1,h2⟩:=lB rx;exact⟨p,us,rfl,.inr h1,λl nl=>h _ _ (Ex.new nl) (.lst (.inl ⟨.inl upd_same,k.fresh nl⟩) (h2.ex (Ex.new nl) k))⟩
 ·exact arq h
theorem aiC:Iz aj K W intD afO:=λσ g H x d Q k rx h=>by
 unfold intD at h;split at h
 ·cases cI rx;exact .inl (.inl ⟨_,rfl,h _ H (Ex.refl H) (.int _)⟩)
 ·cases DP rx;exact .inl (.inr ⟨_,rfl,h _ H (Ex.refl H) (.int _)⟩)
 ·obtain⟨hz,h⟩:=h.pP;split at h
  ·next n e=>
   cases jJ rx;exact .inr ⟨_,n,rfl,e,aru hz,h _ H (Ex.refl H) (.int _)⟩
  ·exact arq h
 ·exact arq h
end
inductive Mv where
 |int|bool|str|tuple|list
def Mv.name:Mv->String
 |.int=>"int"
 |.bool=>"bool"
 |.str=>"str"
 |.tuple=>"tuple"
 |.list=>"list"
def Ai(t:Mv):Dat->Option Bool
 |.none=>some false
 |.int _=>some (match t with
  |.int=>true
  |_=>false)
 |.bool _=>some (match t with
  |.int=>true
  |.bool=>true
  |_=>false)
 |.str _=>some (match t with
  |.str=>true
  |_=>false)
 |.tuple _=>some (match t with
  |.tuple=>true
  |_=>false)
 |.list _=>some (match t with
  |.list=>true
  |_=>false)
 |.dict _=>none
def yh(t:Mv)(d:Dat):Out Dat:=match Ai t d with
 |some b=>.ok (.bool b)
 |none=>.bad
def aiI:Dat->String
 |.none=>"NoneType"
 |.int _=>"int"
 |.bool _=>"bool"
 |.str _=>"str"
 |.tuple _=>"tuple"
 |.list _=>"list"
 |.dict _=>"dict"
theorem ajc{K:aqe}{H:Hp}{a:Addr}{xs:List V}(h:SqL K H a xs):TyX K H (.ref a) (.type "list"):=by
 rcases h with(h|⟨o,h⟩)|⟨o,its,n,h1,h2,_⟩
 ·exact .base (.lst h)
 ·exact .base (.frz h)
 ·exact .kList h1 h2
theorem ai9{K:aqe}{H:Hp}{a:Addr}{xs:List V}(h:SqT K H a xs):TyX K H (.ref a) (.type "tuple"):=by
 rcases h with(h|⟨o,h⟩)|⟨o,its,n,h1,h2,_⟩
 ·exact .base (.tup h)
 ·exact .fTuple h
 ·exact .kTuple h1 h2
theorem akV{K:aqe}{g:Gh}{H:Hp}{x:V}{d:Dat}(h:dZ K g H x d)(hd:∀kv,d≠.dict kv):TyX K H x (.type (aiI d)):=by
 cases d with
 |none=>cases Fj h;exact .base .non
 |bool b=>cases DP h;exact .base (.bl _)
 |int b=>cases cI h;exact .base (.int _)
 |str b=>cases jJ h;exact .base (.str _)
 |list b=>obtain⟨a,us,rfl,h1,_⟩:=jf h;exact ajc h1
 |tuple b=>obtain⟨a,us,rfl,h1,_⟩:=lB h;exact ai9 h1
 |dict kv=>exact absurd rfl (hd kv)
theorem ZM{K:aqe}:PySem.W.kitOne K (.type "int") (.type "int")=some true:=kit_ty (by decide +kernel)
theorem W9{K:aqe}:PySem.W.kitOne K (.type "int") (.type "bool")=some false:=kit_ty (by decide +kernel)
theorem ZP{K:aqe}:PySem.W.kitOne K (.type "int") (.type "str")=some false:=kit_ty (by decide +kernel)
theorem V8{K:aqe}:PySem.W.kitOne K (.type "int") (.type "tuple")=some false:=kit_ty (by decide +kernel)
theorem WY{K:aqe}:PySem.W.kitOne K (.type "int") (.type "list")=some false:=kit_ty (by decide +kernel)
theorem Yj{K:aqe}:PySem.W.kitOne K (.type "bool") (.type "int")=some true:=kit_ty (by decide +kernel)
theorem V9{K:aqe}:PySem.W.kitOne K (.type "bool") (.type "bool")=some true:=kit_ty (by decide +kernel)
theorem Ym{K:aqe}:PySem.W.kitOne K (.type "bool") (.type "str")=some false:=kit_ty (by decide +kernel)
theorem Tt{K:aqe}:PySem.W.kitOne K (.type "bool") (.type "tuple")=some false:=kit_ty (by decide +kernel)
theorem Wd{K:aqe}:PySem.W.kitOne K (.type "bool") (.type "list")=some false:=kit_ty (by decide +kernel)
theorem ZX{K:aqe}:PySem.W.kitOne K (.type "str") (.type "int")=some false:=kit_ty (by decide +kernel)
theorem Yu{K:aqe}:PySem.W.kitOne K (.type "str") (.type "bool")=some false:=kit_ty (by decide +kernel)
theorem Zr{K:aqe}:PySem.W.kitOne K (.type "str") (.type "str")=some true:=kit_ty (by decide +kernel)
theorem V1{K:aqe}:PySem.W.kitOne K (.type "str") (.type "tuple")=some false:=kit_ty (by decide +kernel)
theorem YT{K:aqe}:PySem.W.kitOne K (.type "str") (.type "list")=some false:=kit_ty (by decide +kernel)
theorem V2{K:aqe}:PySem.W.kitOne K (.type "tuple") (.type "int")=some false:=kit_ty (by decide +kernel)
theorem SN{K:aqe}:PySem.W.kitOne K (.type "tuple") (.type "bool")=some false:=kit_ty (by decide +kernel)
theorem Wm{K:aqe}:PySem.W.kitOne K (.type "tuple") (.type "str")=some false:=kit_ty (by decide +kernel)
theorem Qv{K:aqe}:PySem.W.kitOne K (.type "tuple") (.type "tuple")=some true:=kit_ty (by decide +kernel)
theorem RK{K:aqe}:PySem.W.kitOne K (.type "tuple") (.type "list")=some false:=kit_ty (by decide +kernel)
theorem YJ{K:aqe}:PySem.W.kitOne K (.type "list") (.type "int")=some false:=kit_ty (by decide +kernel)
theorem V3{K:aqe}:PySem.W.kitOne K (.type "list") (.type "bool")=some false:=kit_ty (by decide +kernel)
theorem Xe{K:aqe}:PySem.W.kitOne K (.type "list") (.type "str")=some false:=kit_ty (by decide +kernel)
theorem R8{K:aqe}:PySem.W.kitOne K (.type "list") (.type "tuple")=some false:=kit_ty (by decide +kernel)
theorem Wc{K:aqe}:PySem.W.kitOne K (.type "list") (.type "list")=some true:=kit_ty (by decide +kernel)
theorem Ov{K:aqe}:PySem.W.kitOne K (.type "NoneType") (.type "int")=some false:=kit_ty (by decide +kernel)
theorem Mg{K:aqe}:PySem.W.kitOne K (.type "NoneType") (.type "bool")=some false:=kit_ty (by decide +kernel)
theorem Nf{K:aqe}:PySem.W.kitOne K (.type "NoneType") (.type "str")=some false:=kit_ty (by decide +kernel)
theorem JK{K:aqe}:PySem.W.kitOne K (.type "NoneType") (.type "tuple")=some false:=kit_ty (by decide +kernel)
theorem Mp{K:aqe}:PySem.W.kitOne K (.type "NoneType") (.type "list")=some false:=kit_ty (by decide +kernel)
theorem af2{K:aqe}{t:Mv}{d:Dat}{b:Bool}(h:Ai t d=some b):PySem.W.kitOne K (.type (aiI d)) (.type t.name)=some b/\∀kv,d≠.dict kv:=by
 cases d with
 |dict kv=>cases h
 |none=>
  refine⟨?_,λ_ z=>nomatch z⟩;cases t<;>cases h
  ·exact Ov
  ·exact Mg
  ·exact Nf
  ·exact JK
  ·exact Mp
 |bool x=>
  refine⟨?_,λ_ z=>nomatch z⟩;cases t<;>cases h
  ·exact Yj
  ·exact V9
  ·exact Ym
  ·exact Tt
  ·exact Wd
 |int x=>
  refine⟨?_,λ_ z=>nomatch z⟩;cases t<;>cases h
  ·exact ZM
  ·exact W9
  ·exact ZP
  ·exact V8
  ·exact WY
 |str x=>
  refine⟨?_,λ_ z=>nomatch z⟩;cases t<;>cases h
  ·exact ZX
  ·exact Yu
  ·exact Zr
  ·exact V1
  ·exact YT
 |list x=>
  refine⟨?_,λ_ z=>nomatch z⟩;cases t<;>cases h
  ·exact YJ
  ·exact V3
  ·exact Xe
  ·exact R8
  ·exact Wc
 |tuple x=>
  refine⟨?_,λ_ z=>nomatch z⟩;cases t<;>cases h
  ·exact V2
  ·exact SN
  ·exact Wm
  ·exact Qv
  ·exact RK
def xg(t:Mv)(a:QF):QF:=eO (yh t) a
section
variable{X:Cx}{aj:aQ}{W:WX}{a b:Expr}{fa:QF}{pos p p2:Pos}{x y:Str}
theorem aj1{t:Mv}(hg:Gl X x)(hm:X.mg x=none)(hv:BV (.builtin "isinstance") x)(hg2:Gl X y)(hm2:X.mg y=none)(hv2:BV (.type t.name) y)(ha:QW aj X W a fa)(hs:nst a=true):QE aj X W (.Call (.Name x p) [a,.Name y p2] [] pos) (xg t fa):=by
 have hb:PE X (.Name y p2) (tC (.ty t.name)):=pe_bltn hg2 hm2 hv2.1 rfl hv2.2.1 hv2.2.2;have h1:=pa_cons ha (pa_cons hb pa_nil (cO (a:=.Name y p2) rfl [])) (cO hs [.Name y p2]);have key:=pe_callB (pos:=pos) (p:=p) call_isi hg hm hv.1 h1 hv.2.1 hv.2.2 (cO hs [.Name y p2]) (star_any [.Name y p2] rfl);refine PE.weak key λσ H Q ⟨g,Z,M,I,h⟩=>?_;refine tW.go I h.bnd λd v H1 h1 e1 r1=>?_;unfold yh at h1;split at h1
 ·next bb e=>
  obtain⟨k1,k2⟩:=af2 (K:=X.K) e;exact⟨v,_,_,_,bb,rfl,.ty _,akV r1 k2,k1,h1 _ H1 e1 (.bl _)⟩
 ·exact arq h1
end
inductive Src where
 |lst (a:Addr)|tup (a:Addr)|str (x:Str)
def chars(x:Str):List V:=x.cps.toList.map λc=>V.str ⟨#[c]⟩
def Src.sq(K:aqe)(H:Hp)(us:List V):Src->Prop
 |.lst a=>SqL K H a us
 |.tup a=>SqT K H a us
 |.str x=>us=chars x
def Src.it(h:Heap)(i:Addr)(n:Nat):Src->Prop
 |.lst a=>h.IsListIter i a n
 |.tup a=>h.IsTupleIter i a n
 |.str x=>∃t,h.IsStrIter i (strIterType x) x t n
def Src.ad:Src->List Addr
 |.lst a=>[a]
 |.tup a=>[a]
 |.str _=>[]
section
variable{X:Cx}{pins:List (Addr×Obj)}{σ:L2.St}{H:Hp}{s:Shared}
theorem Src.inj{S:Src}{us ws:List V}(I:L2.Inv X pins σ H s)(h:S.sq X.K H us)(h':S.sq X.K H ws):us=ws:=by
 cases S with
 |lst a=>exact I.list_inj h h'
 |tup a=>exact I.tuple_inj h h'
 |str x=>exact Eq.trans h (Eq.symm h')
theorem Src.draws{S:Src}{us:List V}{i:Addr}{n:Nat}(I:L2.Inv X pins σ H s)(hA:X.A.handled=none)(hs:S.sq X.K H us)(hi:S.it s.heap i n)(hne:∀a∈S.ad,a≠i) :
  ∃(P:Nat->Value->Prop) (St:Nat->Heap->Prop),Draws X.prog X.w X.A.in1 i (i::S.ad) us.length P St/\St n s.heap/\(∀m h,St m h->S.it h i m)/\∀(m:Nat) (v:Value) (x:V),P m v->us[m]?=some x->RelV x v:=by
 cases S with
 |lst a=>
  obtain⟨its,rv,p,hz⟩:=I.list hs;have hl:=rv.length;have D:=Draws.list (prog:=X.prog) (w:=X.w) (A:=X.A.in1) hA i a (hne a (by simp[Src.ad])) its.toArray;rw[List.size_toArray,←hl]at D;refine⟨_,_,D,⟨hi,p.isList⟩,λm h z=>z.1,λm v x hv hx=>?_⟩;obtain⟨u,hu,ru⟩:=rv.get hx;have:v=u:=aqC (hv.symm.trans (by simpa using hu));rw[this];exact ru
 |tup a=>
  obtain⟨its,rv,p,hz⟩:=I.tuple hs;have hl:=rv.length;have D:=Draws.tuple (prog:=X.prog) (w:=X.w) (A:=X.A.in1) hA i a (hne a (by simp[Src.ad])) its.toArray;rw[List.size_toArray,←hl]at D;refine⟨_,_,D,⟨hi,p⟩,λm h z=>z.1,λm v x hv hx=>?_⟩;obtain⟨u,hu,ru⟩:=rv.get hx;have:v=u:=aqC (hv.symm.trans (by simpa using hu));rw[this];exact ru
 |str x=>
  obtain⟨t,hi⟩:=hi;have hl:us.length=x.cps.size:=by rw[show us=chars x from hs];unfold chars;rw[aqo,aqN]
  have D:=Draws.text (prog:=X.prog) (w:=X.w) (A:=X.A.in1) hA i x t;rw[←hl]at D;refine⟨_,_,D,hi,λm h z=>⟨t,z⟩,λm v y hv hy=>?_⟩;obtain⟨c,u,hc,rfl⟩:=hv;rw[show us=chars x from hs]at hy;unfold chars at hy;rw[aqs,aqU,hc]at hy;cases hy;exact⟨u,rfl⟩
theorem Src.Ln{S:Src}{h:Heap}{i:Addr}{n:Nat}(hi:S.it h i n):∃o,h.get? i=some o/\∀v,o.data≠.cell v:=by
 cases S with
 |lst a=>obtain⟨o,e,_,d⟩:=hi;exact⟨o,e,λv q=>by rw[d]at q;cases q⟩
 |tup a=>obtain⟨o,e,_,d⟩:=hi;exact⟨o,e,λv q=>by rw[d]at q;cases q⟩
 |str x=>obtain⟨t,o,e,_,d⟩:=hi;exact⟨o,e,λv q=>by rw[d]at q;cases q⟩
theorem Src.Lz{S:Src}{h h':Heap}{i:Addr}{n:Nat}(hi:S.it h i n)(k:∀o,h.get? i=some o->h'.get? i=some o):S.it h' i n:=by
 cases S with
 |lst a=>exact hi.at k
 |tup a=>exact hi.at k
 |str x=>obtain⟨t,o,e,r⟩:=hi;exact⟨t,o,k o e,r⟩
end
def ItE(K:aqe)(S:Src)(k₀:Int):It:=
 ⟨λi H=>∃(us:List V) (x:V),S.sq K H us/\us[i]?=some x,λi H v H'=>∃T x,v=.ref T/\H T=none/\H'=upd H T (.tup [.int (k₀+(i:Int)),x])/\∀us,S.sq K H us->us[i]?=some x,λi H=>∃us:List V,S.sq K H us/\us.length=i⟩
theorem akJ{P:Program}{w:World}{K:aqe}{elts:List Expr}{kk:Nat}{tpos:Pos}(S:Src)(e i0:Addr)(k₀:Int)(hne:e≠i0)(ha:∀a∈S.ad,e≠a/\a≠i0) :
  Turn P w K (.Tuple elts kk tpos) (ItE K S k₀) [e,i0] e (λi h=>(∃old,IsEnum h e i0 (k₀+(i:Int)) old)/\S.it h i0 i) where
 mem:=by simp
 obj:=λi h st b hb=>by
  obtain⟨⟨old,he⟩,hi⟩:=st;have e':b=e∨b=i0:=by simpa using hb
  rcases e' with z|z
  ·rw[z];exact⟨_,he,λv q=>nomatch q⟩
  ·rw[z];exact Src.Ln hi
 keep:=λi h h' st k=>let ⟨⟨old,he⟩,hi⟩:=st;⟨⟨old,k e (by simp) _ he⟩,Src.Lz hi λo q=>k i0 (by simp) o q⟩
 item:=by
  intro X hP hw hK hc i pins s σ H E I hf st hg;subst hP hw hK;obtain⟨⟨old,he⟩,hit⟩:=st;obtain⟨us,x,hq,hx⟩:=hg;obtain⟨PP,St,D,st0,stI,rel⟩:=Src.draws I (I.ok.hd hc) hq hit λa z=>(ha a z).2;have hel:e < s.heap.objs.size:=Heap.lt_size he;have hil:i0 < s.heap.objs.size:=by obtain⟨_,q,_⟩:=Src.Ln hit;exact Heap.lt_size q
  have hin:i < us.length:=(aqg.mp hx).1;refine wpAny_pyNext_enum_itemC D he st0 hin hne (λz=>?_) λv h' tk hP ho hst' hT hsz hk=>?_
  ·rcases aqt.mp z with z|z
   ·exact hne z
   ·exact(ha e z).1 rfl
  have ru:=rel i v x hP hx;refine⟨_,rfl,wpAny_letOwnedTupleGo_enum (s:={ s with heap:=h',toks:=tk+1 }) ho λh'' he' sb=>?_⟩;have hT2:h''.get? s.heap.objs.size=some { cls:=.type "tuple",data:=.seq #[.int (k₀+(i:Int)) tk,v] }:=(sb.2 _ (Nat.ne_of_gt hel)).trans hT
  have new:ObjOk X.prog X.w (upd H s.heap.objs.size (.tup [.int (k₀+(i:Int)),x])) h'' s.heap.objs.size (.tup [.int (k₀+(i:Int)),x]):=
   ⟨by show 2<=sizeLine;decide,[.int (k₀+(i:Int)) tk,v],.cons ⟨_,rfl⟩ (.cons ru .nil),⟨_,hT2,rfl,_,rfl⟩⟩
  have I1:L2.Inv X pins σ (upd H s.heap.objs.size (.tup [.int (k₀+(i:Int)),x])) { s with heap:=h'',toks:=tk+1 }:=
   I.turnedNew (ch:=[e,i0]) (λb ob hb q=>(sb.2 b (λz=>hb (by simp[z]))).trans (hk b ob (λz=>hb (by simp[z])) (λz=>hb (by simp[z])) q)) hf (aqF _) new
  refine⟨.ref s.heap.objs.size,_,I1,rfl,⟨_,x,rfl,I.hok.fresh (aqF _),rfl,λys hy=>by rw[Src.inj I hy hq];exact hx⟩,⟨⟨v,?_⟩,Src.Lz (stI _ _ hst') λo q=>(sb.2 i0 (Ne.symm hne)).trans q⟩,λb hb=>?_⟩
  ·have e1:k₀+((i+1:Nat):Int)=k₀+(i:Int)+1:=by omega
   rw[e1];exact he'
  ·have hb':b < s.heap.objs.size:=by
    have e':b=e∨b=i0:=by simpa using hb
    rcases e' with z|z
    ·rw[z];exact hel
    ·rw[z];exact hil
   rw[upd_ne (aqL hb')];exact(hf b hb).1
 done:=by intro X hP hw hK hc i pins s σ H E I hf st hg;subst hP hw hK;obtain⟨⟨old,he⟩,hit⟩:=st;obtain⟨us,hq,hx⟩:=hg;obtain⟨PP,St,D,st0,stI,rel⟩:=Src.draws I (I.ok.hd hc) hq hit λa z=>(ha a z).2;obtain⟨f0,f1,f2,f3,f4,f5⟩:=hf i0 (by simp);rw[←hx]at st0;exact wpAny_pyNext_enum_endD D he st0 λh' eb=>⟨rfl,I.turned (t':=s.toks) (λb o hb q=>eb b o hb q) f0 f1 f3 f4 f5⟩
 self:=λA i s Q E st h=>let ⟨⟨_,he⟩,_⟩:=st;wpAny_pyIter_enum he h
theorem Src.begins{X:Cx}{pins:List (Addr×Obj)}{σ:L2.St}{H:Hp}{s:Shared}{S:Src}{us:List V}{x:V}{v:Value}(I:L2.Inv X pins σ H s)(hs:S.sq X.K H us)(hx:(∃a,x=.ref a/\S.ad=[a]/\(S=.lst a∨S=.tup a))∨∃y,S=.str y/\x=.str y)(r:RelV x v) :
  ∃(o:Obj) (B:Heap->Prop),Begins v o B/\B s.heap/\(∀h i,h.get? i=some o->S.it h i 0)/\∀a∈S.ad,a < s.heap.objs.size:=by
 rcases hx with⟨a,rfl,ha,h|h⟩|⟨y,h,rfl⟩
 ·subst h;cases r;obtain⟨its,rv,p,_⟩:=I.list hs;obtain⟨o1,ho1,_⟩:=id p.isList;refine⟨_,_,begins_list a its.toArray,p.isList,λh i e=>⟨_,e,rfl,rfl⟩,λb hb=>?_⟩;rw[ha]at hb;rw[aql.mp hb];exact Heap.lt_size ho1
 ·subst h;cases r;obtain⟨its,rv,p,_⟩:=I.tuple hs;obtain⟨o1,ho1,_⟩:=id p;refine⟨_,_,begins_tuple a its.toArray,p,λh i e=>⟨_,e,rfl,rfl⟩,λb hb=>?_⟩;rw[ha]at hb;rw[aql.mp hb];exact Heap.lt_size ho1
 ·subst h;obtain⟨t,rfl⟩:=r;exact⟨_,_,begins_text y t,arp,λh i e=>⟨t,_,e,rfl,rfl⟩,λb hb=>nomatch hb⟩
def srcOf(x:V)(S:Src):Prop:=(∃a,x=.ref a/\S.ad=[a]/\(S=.lst a∨S=.tup a))∨∃y,S=.str y/\x=.str y
def iEn(K:aqe)(ta:TA)(k₀:Int):TI:=λσ H R=>ta σ H λvs H1=>∃x S us,vs=[x]/\srcOf x S/\S.sq K H1 us/\R (ItE K S k₀) H1
section
variable{X:Cx}{a b:Expr}{ta tb:TA}{p pos tpos:Pos}{elts:List Expr}{kk:Nat}
theorem ajQ{pins:List (Addr×Obj)}{σ:L2.St}{H:Hp}{s:Shared}(I:L2.Inv X pins σ H s):∀b∈[s.heap.objs.size+1,s.heap.objs.size],FpOk X pins H b:=λb hb=>by
 have e':b=s.heap.objs.size+1∨b=s.heap.objs.size:=by simpa using hb
 have hle:s.heap.objs.size<=b:=by
  rcases e' with z|z
  ·rw[z];exact Nat.le_add_right _ _
  ·rw[z];exact aqF _
 exact I.fpOk hle (I.hok.fresh hle)
theorem afC{pins:List (Addr×Obj)}{σ:L2.St}{H:Hp}{s:Shared}{S:Src}{us:List V}{x:V}{v:Value}{o:Obj}{k₀:Int}{R:It->Hp->Prop}{h':Heap}(I:L2.Inv X pins σ H s)(hlt:∀a∈S.ad,a < s.heap.objs.size)(hit:∀h i,h.get? i=some o->S.it h i 0)
  (he:IsEnum h' (s.heap.objs.size+1) s.heap.objs.size k₀ .none) (ho:h'.get? s.heap.objs.size=some o) (hk:∀b o,s.heap.get? b=some o->h'.get? b=some o) (q:R (ItE X.K S k₀) H) :
  wpAny (model X.prog X.w) X.A (pyIter (.ref (s.heap.objs.size+1))) (PIE X pins σ (.Tuple elts kk tpos) R) X.xe { s with heap:=h' }:=by
 refine wpAny_pyIter_enum he ?_;have I2:L2.Inv X pins σ H { s with heap:=h' }:=I.kept (t':=s.toks) hk;refine⟨s.heap.objs.size+1,[s.heap.objs.size+1,s.heap.objs.size],_,_,H,rfl,I2,akJ S (s.heap.objs.size+1) s.heap.objs.size k₀ (Nat.succ_ne_self _) (λa z=>?_),⟨⟨.none,?_⟩,hit _ _ ho⟩,ajQ I,q⟩
 ·have:=hlt a z;exact⟨Nat.ne_of_gt (aq9 this),aqL this⟩
 ·rw[show k₀+((0:Nat):Int)=k₀ by simp];exact he
theorem aeY{v:Value}{o:Obj}{B:Heap->Prop}(hB:Begins v o B) :
  Meets (Builtin.«enumerate.__new__» ⟨[.type "enumerate",v],[]⟩) (λ_ R s=>B s.heap/\
   R (.ok (.ret (.ref (s.heap.push o).objs.size))) { s with heap:=(s.heap.push o).push { cls:=.type "enumerate",data:=.fields #[.none,.bool false,.ref s.heap.objs.size,rawInt 0,.none,.none] } }):=
 .of_wp λprog w A R s hh=>by
  obtain⟨hp,gs,dr,tk,os⟩:=s;obtain⟨hb,hr⟩:=hh;have hsub:=sub_enumerate;have qi:∀{A':Around} {E:Value->Shared->Prop} {Q:Value->Shared->Prop},Q (.ref hp.objs.size) ⟨hp.push o,gs,dr,tk,os⟩->wpAny (model prog w) A' (pyIter v) Q E ⟨hp,gs,dr,tk,os⟩:=λz=>hB.iter prog w _ _ ⟨hp,gs,dr,tk,os⟩ _ hb z
  wp_walk using qi
  refine wpAny_stack_any λst=>wpAny_pure ?_;split
  ·next c _ _ _ _ _=>
   cases(c==Value.type "enumerate")<;>(wp_walk using qi;exact⟨_,rfl,hr⟩)
  ·wp_walk using qi
   exact⟨_,rfl,hr⟩
theorem acJ{prog:Program}{w:World}{A:Around}{E:Value->Shared->Prop}{s:Shared}{v:Value}{o:Obj}{B:Heap->Prop}{Q:Value->Shared->Prop}(hB:Begins v o B)(hb:B s.heap)
  (h:∀h',IsEnum h' (s.heap.objs.size+1) s.heap.objs.size 0 .none->h'.get? s.heap.objs.size=some o->(∀b o,s.heap.get? b=some o->h'.get? b=some o)->Q (.ref (s.heap.objs.size+1)) { s with heap:=h' }) :
  wpAny (model prog w) A (call (.type "enumerate") [v]) Q E s:=by
 refine callType_new F.called_enumerate (by decide) (F.typeCall_enumerate_1 _) (F.newCall_enumerate_1 _) (λob=>F.args_object_init_2 ob _) F.entry_enumerate_new (aeY hB) ⟨hb,?_⟩;have hz:(s.heap.push o).objs.size=s.heap.objs.size+1:=Heap.size_push ..;have he:=Heap.get?_push_size (s.heap.push o) (o:={ cls:=.type "enumerate",data:=.fields #[.none,.bool false,.ref s.heap.objs.size,rawInt 0,.none,.none] }) rfl
 show _/\_;rw[hz]at he ⊢;exact⟨⟨_,he,rfl⟩,h _ he (Heap.get?_push_of_some _ (Heap.get?_push_size _ hB.free)) λb u z=>Heap.get?_push_of_some _ (Heap.get?_push_of_some _ z)⟩
theorem akL(hg:Gl X "enumerate")(hm:X.mg "enumerate"=none)(ha:PA X [a] ta)(hs:nst a=true):PI X (.Tuple elts kk tpos) (.Call (.Name "enumerate" p) [a] [] pos) (iEn X.K ta 0):=by refine⟨λpins s σ H R I h=>?_⟩;refine Call_ (ld_blt I hg hm boot_enumerate (PyProof.Rows.callWith_type1 (thn (ha.run pos pins s σ H _ I h) λus s1 ⟨vs,H1,I1,r1,x,S,us',ev,hx,hq,q⟩=>?_) (cO hs []) (by with_unfolding_all rfl)));subst ev;obtain⟨v,rfl,r⟩:=vals1 r1;obtain⟨o,B,hB,hb,hit,hlt⟩:=Src.begins I1 hq hx r;exact acJ hB hb λh' he ho hk=>afC (x:=x) (v:=v) (us:=us') I1 hlt hit he ho hk q
theorem adK{M:Model}{A:Around}{E:Value->Shared->Prop}{s:Shared}{pos:Pos}{T:String}{args:List (Bool×Sem Value)}{kws:List (Option Str×Sem Value)}{Q:Value->Shared->Prop}(h1:args.any (·.1)=false)(h2:kws.any (·.1.isNone)=false)
  (h:wpAny M A (evalArgs (.type T) true args kws) (λz s₁=>wpAny M A (call (.type T) z.pos z.kw) Q E s₁) E s):wpAny M A (callWith pos (.type T) [] args kws) Q E s:=by
 unfold callWith;refine wpAny_bind (wpAny_holding (wpAny_mono h (λz s₁ hz=>wpAny_bind (wpAny_standAt ?_)) λ_ _ y=>y));rw[h1,h2];refine wpAny_bind (wpAny_pure ?_);exact wpAny_bind (wpAny_mono hz (λr s₂ hr=>wpAny_bind (wpAny_holding (wpAny_point (wpAny_pure hr)))) λ_ _ y=>y)
theorem aiW{k₀:Int}{j:Nat}{kp kp2:Pos}(hk0 : -(2 ^ 63)<=k₀)(hk1:k₀ < 2 ^ 63)(hg:Gl X "enumerate")(hm:X.mg "enumerate"=none)(ha:PA X [a] ta)(hs:nst a=true) :
  PI X (.Tuple elts kk tpos) (.Call (.Name "enumerate" p) [a] [⟨some "start",.Constant (.int k₀) j kp,kp2⟩] pos) (iEn X.K ta k₀):=by
 refine⟨λpins s σ H R I h=>?_⟩;have hpk:PK X [⟨some "start",.Constant (.int k₀) j kp,kp2⟩] (tCons (tC (.int k₀)) tNil):=pk_cons pe_int pk_nil
 refine wpAny_Call_Name_kw (ld_blt I hg hm boot_enumerate (adK (star_any [a] (by simp[hs])) (by with_unfolding_all rfl) ?_));refine PyProof.Rows.evalArgs_kw2 (by with_unfolding_all rfl) (thn (ha.run pos pins s σ H _ I h) λus s1 ⟨vs,H1,I1,r1,x,S,us',ev,hx,hq,q⟩=>?_) (by first | (rw[cO hs];done) | (rw[cO hs];rfl) | rw[cO hs]);refine thn (hpk.run pos pins s1 σ H1 (λzs H2=>zs=[.int k₀]/\H2=H1) I1 ⟨rfl,rfl⟩) λws s2 ⟨zs,H2,I2,r2,e1,e2⟩=>?_;subst ev e1 e2;obtain⟨v,rfl,r⟩:=vals1 r1;obtain⟨w,rfl,t,rfl⟩:=vals1 r2;obtain⟨o,B,hB,hb,hit,hlt⟩:=Src.begins I2 hq hx r;exact enum_begins_start hB hb hk0 hk1 λh' he ho _ hk=>afC (x:=x) (v:=v) (us:=us') I2 hlt hit he ho hk q
def ItZ(K:aqe)(S T:Src):It:=
 ⟨λi H=>∃(us ws:List V) (x y:V),S.sq K H us/\T.sq K H ws/\us[i]?=some x/\ws[i]?=some y,λi H v H'=>∃U x y,v=.ref U/\H U=none/\H'=upd H U (.tup [x,y])/\(∀us,S.sq K H us->us[i]?=some x)/\∀ws,T.sq K H ws->ws[i]?=some y,
  λi H=>∃us ws:List V,S.sq K H us/\T.sq K H ws/\i=min us.length ws.length⟩
theorem ak2{P:Program}{w:World}{K:aqe}{S T:Src}{N:Addr}(h1:∀a∈S.ad,a < N)(h2:∀a∈T.ad,a < N) :
  Turn P w K (.Tuple elts kk tpos) (ItZ K S T) [N+4,N+2,N+3,N,N+1] (N+4) (λn h=>IsZip h (N+4) (N+2) (N+3) .none/\IsPair h (N+2) (.ref N) (.ref (N+1))/\(∃x y,IsPair h (N+3) x y)/\S.it h N n/\T.it h (N+1) n) where
 mem:=by simp
 obj:=λn h q c hc=>by
  obtain⟨gz,gI,⟨x,y,gO⟩,i1,i2⟩:=q;simp only[aqt,aqM,or_false]at hc;rcases hc with rfl|rfl|rfl|rfl|rfl
  ·exact⟨_,gz,λv q=>nomatch q⟩
  ·exact⟨_,gI,λv q=>nomatch q⟩
  ·exact⟨_,gO,λv q=>nomatch q⟩
  ·exact Src.Ln i1
  ·exact Src.Ln i2
 keep:=λn h h' q k=>by
  obtain⟨gz,gI,⟨x,y,gO⟩,i1,i2⟩:=q;exact⟨k _ (by simp) _ gz,k _ (by simp) _ gI,⟨x,y,k _ (by simp) _ gO⟩,Src.Lz i1 λo e=>k _ (by simp) o e,Src.Lz i2 λo e=>k _ (by simp) o e⟩
 item:=by
  intro X hP hw hK hc n pins s σ H E I hf q hg;subst hP hw hK;obtain⟨gz,gI,⟨x0,y0,gO⟩,i1,i2⟩:=q;obtain⟨us,ws,x,y,qx,qy,hx,hy⟩:=hg;obtain⟨P1,St1,D1,st1,b1,rel1⟩:=Src.draws I (I.ok.hd hc) qx i1 λa z=>aqL (h1 a z);obtain⟨P2,St2,D2,st2,b2,rel2⟩:=Src.draws I (I.ok.hd hc) qy i2 λa z=>aqL (aq9 (h2 a z));have hzl:N+4 < s.heap.objs.size:=Heap.lt_size gz;refine wpAny_pyNext_zipD2_item (zip_sep2 h1 h2) D1 D2 gz gI gO st1 st2 (aqg.mp hx).1 (aqg.mp hy).1 λv1 v2 h' tk p1 p2 z' o' s1 s2 hT hsz hk=>?_;refine⟨_,rfl,wpAny_letOwnedTupleGo_zip (s:={ s with heap:=h',toks:=tk }) z' λh'' z'' sb=>?_⟩;have hT2:=(sb.2 _ (Nat.ne_of_gt hzl)).trans hT;have new:ObjOk X.prog X.w (upd H s.heap.objs.size (.tup [x,y])) h'' s.heap.objs.size (.tup [x,y]):=⟨by show 2<=sizeLine;decide,[v1,v2],.cons (rel1 n v1 x p1 hx) (.cons (rel2 n v2 y p2 hy) .nil),⟨_,hT2,rfl,_,rfl⟩⟩;have I1:L2.Inv X pins σ (upd H s.heap.objs.size (.tup [x,y])) { s with heap:=h'',toks:=tk }:=by refine I.turnedNew (t':=tk) (ch:=[N+4,N+2,N+3,N,N+1]) (λc o hb e=>?_) hf (aqF _) new;simp only[aqt,aqM,or_false,not_or]at hb;exact(sb.2 c hb.1).trans (hk c o hb.1 hb.2.2.1 hb.2.2.2.1 hb.2.2.2.2 e)
  have ne4:∀k,k≠4->N+k≠N+4:=λk hk z=>hk (arj z);refine⟨.ref s.heap.objs.size,_,I1,rfl,⟨_,x,y,rfl,I.hok.fresh (aqF _),rfl,λl hl=>by rw[Src.inj I hl qx];exact hx,λl hl=>by rw[Src.inj I hl qy];exact hy⟩,⟨z'',?_,⟨v1,v2,?_⟩,?_,?_⟩,λc hcm=>?_⟩
  ·exact(sb.2 _ (ne4 2 (by decide))).trans (hk _ _ (ne4 2 (by decide)) (λz=>absurd (arj z) (by decide)) (λz=>absurd (arj (z.trans (Nat.add_zero N).symm)) (by decide)) (λz=>absurd (arj z) (by decide)) gI)
  ·exact(sb.2 _ (ne4 3 (by decide))).trans o'
  ·exact Src.Lz (b1 _ _ s1) λo e=>(sb.2 _ (ne4 0 (by decide))).trans e
  ·exact Src.Lz (b2 _ _ s2) λo e=>(sb.2 _ (ne4 1 (by decide))).trans e
  ·have hlt:c < s.heap.objs.size:=by
    simp only[aqt,aqM,or_false]at hcm;rcases hcm with rfl|rfl|rfl|rfl|rfl
    ·exact hzl
    ·exact Heap.lt_size gI
    ·exact Heap.lt_size gO
    ·obtain⟨_,e1,_⟩:=Src.Ln i1;exact Heap.lt_size e1
    ·obtain⟨_,e2,_⟩:=Src.Ln i2;exact Heap.lt_size e2
   rw[upd_ne (aqL hlt)];exact(hf c hcm).1
 done:=by intro X hP hw hK hc n pins s σ H E I hf q hg;subst hP hw hK;obtain⟨gz,gI,⟨x0,y0,gO⟩,i1,i2⟩:=q;obtain⟨us,ws,qx,qy,hn⟩:=hg;obtain⟨P1,St1,D1,st1,b1,rel1⟩:=Src.draws I (I.ok.hd hc) qx i1 λa z=>aqL (h1 a z);obtain⟨P2,St2,D2,st2,b2,rel2⟩:=Src.draws I (I.ok.hd hc) qy i2 λa z=>aqL (aq9 (h2 a z));refine wpAny_pyNext_zipD2_end (zip_sep2 h1 h2) D1 D2 gz gI gO st1 st2 (by omega) (by omega) (by omega) λh' tk hk=>⟨rfl,?_⟩;refine I.turnedL (t':=tk) (ch:=[N+4,N+2,N+3,N,N+1]) (λc o hb e=>?_) hf;simp only[aqt,aqM,or_false,not_or]at hb;exact hk c o hb.1 hb.2.2.1 hb.2.2.2.1 hb.2.2.2.2 e
 self:=λA n s Q E q h=>wpAny_pyIter_zip q.1 h
def iZp(K:aqe)(ta:TA):TI:=λσ H R=>ta σ H λvs H1=>∃x y S T us ws,vs=[x,y]/\srcOf x S/\srcOf y T/\S.sq K H1 us/\T.sq K H1 ws/\R (ItZ K S T) H1
theorem ak6(hg:Gl X "zip")(hm:X.mg "zip"=none)(ha:PA X [a,b] ta)(hs:nst a=true)(hs2:nst b=true):PI X (.Tuple elts kk tpos) (.Call (.Name "zip" p) [a,b] [] pos) (iZp X.K ta):=by
 refine⟨λpins s σ H R I h=>?_⟩;refine Call_ (ld_blt I hg hm PyProof.Rows.boot_zip (PyProof.Rows.callWith_type1 (thn (ha.run pos pins s σ H _ I h) λus s1 ⟨vs,H1,I1,r1,x,y,S,T,us',ws',ev,hx,hy,hq,hq2,q⟩=>?_) (cO hs [b]) (star_any [b] (by simp[hs2]))));subst ev;obtain⟨v1,v2,rfl,rv1,rv2⟩:=vals2 r1;obtain⟨o1,B1,hB1,hb1,hit1,hlt1⟩:=Src.begins I1 hq hx rv1;obtain⟨o2,B2,hB2,hb2,hit2,hlt2⟩:=Src.begins I1 hq2 hy rv2;refine zip_begins2 hB1 hB2 hb1 hb2 λh' hz hTI hTO e1 e2 hsz hk=>wpAny_pyIter_zip hz ?_;have I2:L2.Inv X pins σ H1 { s1 with heap:=h' }:=I1.kept (t':=s1.toks) hk;refine⟨s1.heap.objs.size+4,_,_,_,H1,rfl,I2,ak2 hlt1 hlt2,⟨hz,hTI,⟨_,_,hTO⟩,hit1 _ _ e1,hit2 _ _ e2⟩,λc hcm=>?_,q⟩;have hle:s1.heap.objs.size<=c:=by simp only[aqt,aqM,or_false]at hcm;rcases hcm with rfl | rfl | rfl | rfl | rfl<;>first | exact aqF _ | exact Nat.le_add_right _ _
 exact I1.fpOk hle (I1.hok.fresh hle)
end
section
variable{K:aqe}{aj:aQ}{q:Bool}{g g':Gh}{H H':Hp}{v:V}{d:Dat}{σ:L2.St}{Z:Env}{M:Mo}
theorem ji.up{l:Addr}:∀{n:Bool} {kvs:List (Dat×Dat)} (r:Gr true g g' H H') (e:Ex H H') (k:Kd g H) (h:ji K aj g H l n kvs),ji K aj g' H' l n kvs
 |false,_,r,e,k,⟨kv,h1,h2,h3⟩=>⟨kv,e _ _ h1,h2,h3.gr r k⟩
 |true,_,r,e,k,⟨o,xs,vs,h1,h2,h3,h4,h5,h6⟩=>⟨o,xs,vs,e _ _ h1,h2,h3,h4.gr r k,h5,h6.gr r k⟩
theorem dO.up{h:Nat}{f:Str}(r:Gr true g g' H H')(e:Ex H H')(k:Kd g H):∀{fl:iV},dO K aj g H h f v fl->dO K aj g' H' h f v fl
 |.dat _,z=>Rep.gr r k z
 |.lst _ _,⟨l,us,h1,h2,h3,h4,h5⟩=>⟨l,us,h1,e _ _ h2,by rw[(r.qg rfl).2];exact h3,h4.gr r k,r.tb h5⟩
 |.dic _ _,⟨l,h1,h2,h3⟩=>⟨l,h1,by rw[(r.qg rfl).2];exact h2,h3.up r e k⟩
theorem cM.up{h:Nat}(r:Gr true g g' H H')(e:Ex H H')(k:Kd g H):∀{fs:List (Str×V)} {gs:List (Str×iV)},cM K aj g H h fs gs->cM K aj g' H' h fs gs
 |_,_,.nil=>.nil
 |_,_,.cons z t=>.cons (dO.up r e k z) (cM.up r e k t)
theorem fU.up(r:Gr true g g' H H')(e:Ex H H')(k:Kd g H)(w:fU K aj g H M):fU K aj g' H' M where
 len:=by rw[(r.qg rfl).1];exact w.len
 inj:=by rw[(r.qg rfl).1];exact w.inj
 ins:=λh a i ha hi hc=>by
  rw[(r.qg rfl).1]at ha;obtain⟨C,dx,fs,c1,c2,c3⟩:=w.ins h a i ha hi hc;exact⟨C,dx,fs,c1,e _ _ c2,c3.up r e k⟩
 nd:=w.nd
 fd:=w.fd
 tw:=by rw[(r.qg rfl).1,(r.qg rfl).2];exact w.tw
 dm:=w.dm
 nc:=w.nc
theorem SInv.up(r:Gr true g g' H H')(e:Ex H H')(k':Kd g' H')(I:SInv K aj σ H g Z M):SInv K aj σ H' g' Z M where
 kd:=k'
 wok:=I.wok.up r e I.kd
 len:=I.len
 dat:=λi d h=>by
  obtain⟨v,h1,h2⟩:=I.dat i d h;exact⟨v,h1,h2.gr r I.kd⟩
 own:=λi xs h=>by
  obtain⟨l,us,h1,h2,h3,h4⟩:=I.own i xs h;exact⟨l,us,h1,e _ _ h2,r.Lo l h3,h4.gr r I.kd⟩
 sep:=I.sep
def Gh.add(g:Gh)(D:Addr):Gh:={ g with Lo:=λa=>g.Lo a∨a=D }
theorem Gh.Fl{D:Addr}(n:H D=none)(e:Ex H H'):Gr true g (g.add D) H H' where
 keep:=λa o h _ _=>e a o h
 keepW:=λ_ a o h _=>e a o h
 dom:=Cq e
 tbl:=⟨[],by simp[Gh.add]⟩
 W:=λ_ h=>h
 nW:=λ_ h=>.inl h
 qg:=λ_=>⟨rfl,rfl⟩
 Lc:=rfl
 Lo:=λ_ h=>.inl h
 nLo:=λa h=>h.elim .inl λz=>.inr (by rw[z];exact n)
theorem Gh.aib{D:Addr}{o:HO}(k:Kd g H)(n:H D=none)(e:Ex H H')(hD:H' D=some o)(m:Ij o):Kd (g.add D) H' where
 ob:=λa z=>by
  rcases z with z|z|z|z
  ·obtain⟨o,h,m⟩:=k.ob a (.inl z);exact⟨o,e a o h,m⟩
  ·obtain⟨o,h,m⟩:=k.ob a (.inr (.inl z));exact⟨o,e a o h,m⟩
  ·obtain⟨o,h,m⟩:=k.ob a (.inr (.inr z));exact⟨o,e a o h,m⟩
  ·rw[z];exact⟨o,hD,m⟩
 lo:=λa z=>by
  rcases z with z|z
  ·exact k.lo a z
  ·intro w;subst z;exact k.fresh n (.inl w)
 lc:=λa z=>⟨(k.lc a z).1,λy=>y.elim (k.lc a z).2 λy=>by subst y;exact k.fresh n (.inr (.inl z))⟩
theorem SInv.add{D:Addr}{o:HO}(I:SInv K aj σ H g Z M)(n:H D=none)(e:Ex H H')(hD:H' D=some o)(m:Ij o):SInv K aj σ H' (g.add D) Z M:=
 I.up (Gh.Fl n e) e (Gh.aib I.kd n e hD m)
theorem SInv.set{j:Nat}(I:SInv K aj σ H g Z M)(r:Rep K g H v d):SInv K aj (σ.set j (some v)) H g (Z.set j (some (.dat d))) M where
 kd:=I.kd
 wok:=I.wok
 len:=by rw[aqD,aqD];exact I.len
 dat:=λi e h=>by
  by_cases z:j=i
  ·subst z;have hj:j < Z.length:=by
    have:=(aqg.mp h).1;rw[aqD]at this;exact this
   rw[aqw hj]at h;cases h;exact⟨v,by rw[aqw (by rw[I.len];exact hj)],r⟩
  ·rw[aqn z]at h;obtain⟨u,h1,h2⟩:=I.dat i e h;exact⟨u,by rw[aqn z];exact h1,h2⟩
 own:=λi xs h=>by
  by_cases z:j=i
  ·subst z;have hj:j < Z.length:=by
    have:=(aqg.mp h).1;rw[aqD]at this;exact this
   rw[aqw hj]at h;cases h
  ·rw[aqn z]at h;obtain⟨l,us,h1,h2⟩:=I.own i xs h;exact⟨l,us,by rw[aqn z];exact h1,h2⟩
 sep:=λi k xs ys l ne h1 h2 h3=>by
  have nj:∀{i:Nat} {xs:List Dat},(Z.set j (some (.dat d)))[i]?=some (some (.mut xs))->j≠i:=λ{i xs} h z=>by
   subst z;have hj:j < Z.length:=by have:=(aqg.mp h).1;rw[aqD]at this;exact this
   rw[aqw hj]at h;cases h
  have n1:=nj h1;have n2:=nj h2;rw[aqn n1]at h1 h3;rw[aqn n2]at h2;rw[aqn n2];exact I.sep i k xs ys l ne h1 h2 h3
theorem SInv.forget{j:Nat}(I:SInv K aj σ H g Z M):SInv K aj (σ.set j none) H g (Z.set j none) M where
 kd:=I.kd
 wok:=I.wok
 len:=by rw[aqD,aqD];exact I.len
 dat:=λi e h=>by
  by_cases z:j=i
  ·subst z;have hj:j < Z.length:=by
    have:=(aqg.mp h).1;rw[aqD]at this;exact this
   rw[aqw hj]at h;cases h
  ·rw[aqn z]at h ⊢;exact I.dat i e h
 own:=λi xs h=>by
  by_cases z:j=i
  ·subst z;have hj:j < Z.length:=by
    have:=(aqg.mp h).1;rw[aqD]at this;exact this
   rw[aqw hj]at h;cases h
  ·rw[aqn z]at h ⊢;exact I.own i xs h
 sep:=λi k xs ys l ne h1 h2 h3=>by
  have nj:∀{i:Nat} {xs:List Dat},(Z.set j none)[i]?=some (some (.mut xs))->j≠i:=λ{i xs} h z=>by
   subst z;have hj:j < Z.length:=by have:=(aqg.mp h).1;rw[aqD]at this;exact this
   rw[aqw hj]at h;cases h
  have n1:=nj h1;have n2:=nj h2;rw[aqn n1]at h1 h3;rw[aqn n2]at h2;rw[aqn n2];exact I.sep i k xs ys l ne h1 h2 h3
def cD(Z:Env):List Nat->Env
 |[]=>Z
 |j::js=>(cD Z js).set j none
theorem SInv.wipe(I:SInv K aj σ H g Z M):∀vs:List Nat,SInv K aj (L2.wipe σ vs) H g (cD Z vs) M
 |[]=>I
 |j::js=>(SInv.wipe I js).forget
end
abbrev fM:=Dat->Env->Option Env
def aF(j:Nat):fM:=λd Z=>some (Z.set j (some (.dat d)))
def ux:List Nat->List Dat->Env->Option Env
 |[],[],Z=>some Z
 |j::js,d::ds,Z=>ux js ds (Z.set j (some (.dat d)))
 |_,_,_=>none
def bA(js:List Nat):fM:=λd Z=>match d with
 |.tuple ds=>ux js ds Z
 |_=>none
def sets(σ:L2.St):List Nat->List V->L2.St
 |j::js,v::vs=>sets (σ.set j (some v)) js vs
 |_,_=>σ
def zL(K:aqe)(aj:aQ)(js:List Nat)(f:fM):TG:=λv σ H Q=>∃g Z M d Z',SInv K aj σ H g Z M/\Rep K g H v d/\f d Z=some Z'/\∀vs,SInv K aj (sets σ js vs) H g Z' M->Q (sets σ js vs) H
def QG(aj:aQ)(X:Cx)(tg:Expr)(js:List Nat)(f:fM):Prop:=PG X tg (zL X.K aj js f)
theorem PG.weak{X:Cx}{e:Expr}{t t':TG}(h:PG X e t)(k:∀v σ H Q,t' v σ H Q->t v σ H Q):PG X e t':=⟨λpins s σ H v u Q I r q=>h.run pins s σ H v u Q I r (k v σ H Q q)⟩
section
variable{X:Cx}{aj:aQ}{pos:Pos}
theorem Ub{j:Nat}{x:Str}(hN:X.N.Nodup)(hi:X.N[j]?=some x)(hx:Loc X.env.scope x)(hf:X.fn x=true∨X.env.scope.names.lookup x=some .local):QG aj X (.Name x pos) [j] (aF j):=
 PG.weak (pg_name hN hi hx hf) λv σ H Q ⟨g,Z,M,d,Z',I,r,e,q⟩=>by
  cases e;exact q [v] (I.set r)
def Rc(X:Cx):List Expr->List Nat->Prop
 |[],[]=>True
 |.Name x _::es,j::js=>X.N[j]?=some x/\Loc X.env.scope x/\(X.fn x=true∨X.env.scope.names.lookup x=some .local)/\Rc X es js
 |_,_=>False
theorem aew{es:List Expr}{js:List Nat}(h:Rc X es js):(assignEach es X.env).length=js.length/\(assignEach es X.env).findIdx? (·.1)=none:=by
 induction es generalizing js with
 |nil=>
  cases js with
  |nil=>exact⟨by with_unfolding_all rfl,by with_unfolding_all rfl⟩
  |cons j js=>exact arq h
 |cons e es ih=>
  cases js with
  |nil=>cases e<;>exact arq h
  |cons j js=>
   cases e with
   |Name x p=>
    obtain⟨h1,h2⟩:=ih h.2.2.2;have e1:assignEach (.Name x p::es) X.env=(false,assign (.Name x p) X.env)::assignEach es X.env:=by with_unfolding_all rfl
    rw[e1];refine⟨by simp[h1],?_⟩;rw[List.findIdx?_cons,h2];rfl
   |_=>exact arq h
def gNs(js:List Nat):TGs:=λvs σ H Q=>vs.length=js.length/\Q (sets σ js vs) H
theorem Vr(hN:X.N.Nodup):∀{es:List Expr} {js:List Nat},Rc X es js->PGs X es (gNs js)
 |[],[],_=>⟨λpins s σ H vs us Q I r h=>by
  obtain⟨e,h⟩:=h;have:vs=[]:=List.length_eq_zero_iff.mp e;subst this;exact pgs_nil.run pins s σ H [] us Q I r ⟨rfl,h⟩⟩
 |.Name x p::es,j::js,h=>by
  have hp:=pgs_cons (pg_name (pos:=p) hN h.1 h.2.1 h.2.2.1) (Vr hN h.2.2.2) (by with_unfolding_all rfl);refine⟨λpins s σ H vs us Q I r hq=>?_⟩;obtain⟨e,hq⟩:=hq;cases vs with
  |nil=>cases e
  |cons v vs=>exact hp.run pins s σ H (v::vs) us Q I r ⟨v,vs,rfl,arn e,hq⟩
 |[],_::_,h=>arq h
 |.Name _ _::_,[],h=>arq h
theorem O9{K:aqe}{g:Gh}{H:Hp}{M:Mo}:∀{js:List Nat} {ds:List Dat} {vs:List V} {σ:L2.St} {Z Z':Env},SInv K aj σ H g Z M->aJ K g H vs ds->ux js ds Z=some Z'->vs.length=js.length/\SInv K aj (sets σ js vs) H g Z' M
 |[],_,_,_,_,_,I,.nil,e=>by cases e;exact⟨rfl,I⟩
 |[],_,_,_,_,_,I,.cons _ _,e=>by cases e
 |j::js,_,_,_,_,_,I,.nil,e=>by cases e
 |j::js,_,_,_,_,_,I,.cons r t,e=>by
  obtain⟨h1,h2⟩:=O9 (js:=js) (I.set (j:=j) r) t e;exact⟨by simp[h1],h2⟩
theorem adz{es:List Expr}{js:List Nat}{k:Nat}(hc:X.calm=true)(hN:X.N.Nodup)(h:Rc X es js):QG aj X (.Tuple es k pos) js (bA js):=by
 obtain⟨h1,h2⟩:=aew h;refine PG.weak (pg_tup (n:=js.length) hc (Vr hN h) h1 h2) λv σ H Q ⟨g,Z,M,d,Z',I,r,e,q⟩=>?_;unfold bA at e;split at e
 ·obtain⟨a,us,rfl,s1,t1⟩:=lB r.weak;obtain⟨l1,I1⟩:=O9 I t1 e;exact⟨a,us,rfl,s1,l1,l1,q us I1⟩
 ·cases e
theorem zQ:∀(js:List Nat) (vs:List V) (σ:L2.St) (ws:List Nat),(∀j∈js,j∈ws)->L2.wipe (sets σ js vs) ws=L2.wipe σ ws
 |[],_,_,_,_=>by unfold sets;rfl
 |_::_,[],_,_,_=>by unfold sets;rfl
 |j::js,v::vs,σ,ws,h=>by
  show L2.wipe (sets (σ.set j (some v)) js vs) ws=_;rw[zQ js vs _ ws λk hk=>h k (aqk _ hk)];have hj:j∈ws:=h j aqj;have key:∀(ws:List Nat) (σ:L2.St),j∈ws->L2.wipe (σ.set j (some v)) ws=L2.wipe σ ws:=by
   intro ws
   induction ws with
   |nil=>intro σ z;cases z
   |cons k ws ih=>
    intro σ z
    show(L2.wipe (σ.set j (some v)) ws).set k none=(L2.wipe σ ws).set k none
    by_cases hk:j∈ws
    ·rw[ih σ hk]
    ·have e:j=k:=by
      rcases aqt.mp z with z|z
      ·exact z
      ·exact absurd z hk
     subst e;have comm:∀(ws:List Nat),j∉ws->L2.wipe (σ.set j (some v)) ws=(L2.wipe σ ws).set j (some v):=by
      intro ws
      induction ws with
      |nil=>intro _;rfl
      |cons m ws ih2=>
       intro hm
       show(L2.wipe (σ.set j (some v)) ws).set m none=((L2.wipe σ ws).set m none).set j (some v)
       rw[ih2 λz=>hm (aqk _ z),List.set_comm _ _ (λz=>hm (by rw[z];exact aqj))]
     rw[comm ws hk,List.set_set]
  exact key ws σ hj
end
structure IK(K:aqe)(J:It)(C:Gh->Hp->Prop)(ds:List Dat):Prop where
 go:∀g i H,C g H->i < ds.length->J.go i H
 yld:∀g i H x H' d,Kd g H->C g H->ds[i]?=some d->J.yld i H x H'->Ex H H'/\Rep K g H' x d
 stop:∀g i H,C g H->i=ds.length->J.stop i H
 ex:∀g H H',Kd g H->C g H->Ex H H'->C g H'
 add:∀g g' H H',Kd g H->C g H->Gr true g g' H H'->Ex H H'->C g' H'
def aa6(C:Gh->Hp->Prop):Prop:=∀q g g' H H',Kd g H->C g H->Gr q g g' H H'->C g' H'
abbrev IF:=Mo->Env->Out (List Dat)
def tI(K:aqe)(aj:aQ)(W:WX)(firm:Bool)(f:IF):TI:=λσ H R=>∃g Z M,SInv K aj σ H g Z M/\(f M Z).sat (λds=>∀J C H',Ex H H'->IK K J C ds->C g H'->(firm=true->aa6 C)->R J H') (qG K aj W g H σ)
def QI(aj:aQ)(X:Cx)(W:WX)(firm:Bool)(tg e:Expr)(f:IF):Prop:=PI X tg e (tI X.K aj W firm f)
def Xj(x:Str):List Dat:=x.cps.toList.map λc=>.str ⟨#[c]⟩
def nH:Dat->Out (List Dat)
 |.list ds=>.ok ds
 |.tuple ds=>.ok ds
 |.str x=>.ok (Xj x)
 |_=>.bad
def cV(a:QF):IF:=λM Z=>(a M Z).bind nH
def Src.cw(K:aqe)(S:Src)(ds:List Dat)(g:Gh)(H:Hp):Prop:=∃us,S.sq K H us/\aJ K g H us ds
def Src.cf(K:aqe)(S:Src)(ds:List Dat)(g:Gh)(H:Hp):Prop:=∃us,(match S with
 |.lst a=>OD K g H a us
 |.tup a=>SqT K H a us
 |.str x=>us=chars x)/\aJ K g H us ds
section
variable{K:aqe}{g g':Gh}{H H':Hp}{ds es:List Dat}{S T:Src}
theorem Src.als{us:List V}(e:Ex H H')(h:S.sq K H us):S.sq K H' us:=by
 cases S with
 |lst a=>exact ex_l e h
 |tup a=>exact ex_t e h
 |str x=>exact h
theorem Src.aa3(h:S.cf K ds g H):S.cw K ds g H:=by
 obtain⟨us,h1,h2⟩:=h;refine⟨us,?_,h2⟩;cases S with
 |lst a=>exact OD.sq h1
 |tup a=>exact h1
 |str x=>exact h1
theorem Src.uE:aa6 (S.cf K ds):=λq g g' H H' k ⟨us,h1,h2⟩ r=>by
 refine⟨us,?_,h2.gr r k⟩;cases S with
 |lst a=>exact r.ls h1
 |tup a=>exact r.sqT k h1
 |str x=>exact h1
theorem Src.JC(k:Kd g H)(h:S.cw K ds g H)(r:Gr true g g' H H')(e:Ex H H'):S.cw K ds g' H':=by obtain⟨us,h1,h2⟩:=h;exact⟨us,Src.als e h1,h2.gr r k⟩
theorem Src.Wy(k:Kd g H)(h:S.cw K ds g H)(e:Ex H H'):S.cw K ds g H':=Src.JC k h (Gr.ex e) e
end
section
variable{K:aqe}{ds es:List Dat}{S T:Src}
def ItS(K:aqe):Src->It
 |.lst a=>Itl K a
 |.tup a=>Itt K a
 |.str x=>Its x
theorem Dc{g:Gh}{H:Hp}(x:Str):aJ K g H (chars x) (Xj x):=by
 unfold chars Xj
 induction x.cps.toList with
 |nil=>exact .nil
 |cons c cs ih=>exact .cons (.str _) ih
theorem IK.of{J:It}{C C':Gh->Hp->Prop}(w:IK K J C ds)(h:∀g H,C' g H->C g H)(e:∀g H H',Kd g H->C' g H->Ex H H'->C' g H')(a:∀g g' H H',Kd g H->C' g H->Gr true g g' H H'->Ex H H'->C' g' H'):IK K J C' ds where
 go:=λg i H c hi=>w.go g i H (h g H c) hi
 yld:=λg i H x H' d k c e y=>w.yld g i H x H' d k (h g H c) e y
 stop:=λg i H c e=>w.stop g i H (h g H c) e
 ex:=e
 add:=a
theorem aaE:IK K (ItS K S) (S.cw K ds) ds where
 go:=λg i H ⟨us,h1,h2⟩ hi=>by
  have hx:us[i]?=some (us[i]'(by rw[h2.length];exact hi)):=aqi _;cases S with
  |lst a=>exact⟨us,_,h1,hx⟩
  |tup a=>exact⟨us,_,h1,hx⟩
  |str x=>
   show i < x.cps.size;have:=h2.length;rw[show us=chars x from h1]at this;unfold chars at this;rw[aqo,aqN]at this;omega
 yld:=λg i H x H' d k ⟨us,h1,h2⟩ e y=>by
  obtain⟨v,hv,rv⟩:=h2.get e;cases S with
  |lst a=>
   obtain⟨rfl,y⟩:=y;have:x=v:=aqC ((y us h1).symm.trans hv);rw[this];exact⟨Ex.refl _,rv⟩
  |tup a=>
   obtain⟨rfl,y⟩:=y;have:x=v:=aqC ((y us h1).symm.trans hv);rw[this];exact⟨Ex.refl _,rv⟩
  |str z=>
   obtain⟨rfl,c,hc,rfl⟩:=y;rw[show us=chars z from h1]at hv;unfold chars at hv;rw[aqs,aqU,hc]at hv;cases hv;exact⟨Ex.refl _,rv⟩
 stop:=λg i H ⟨us,h1,h2⟩ e=>by
  have hl:=h2.length;cases S with
  |lst a=>exact⟨us,h1,by omega⟩
  |tup a=>exact⟨us,h1,by omega⟩
  |str x=>
   show x.cps.size<=i;rw[show us=chars x from h1]at hl;unfold chars at hl;rw[aqo,aqN]at hl;omega
 ex:=λg H H' k h e=>Src.Wy k h e
 add:=λg g' H H' k h r e=>Src.JC k h r e
def oR(k₀:Int)(ds:List Dat):List Dat:=ds.mapIdx λi d=>.tuple [.int (k₀+(i:Int)),d]
theorem ae3{k₀:Int}:IK K (ItE K S k₀) (S.cw K ds) (oR k₀ ds) where
 go:=λg i H ⟨us,h1,h2⟩ hi=>by
  have hl:i < us.length:=by rw[h2.length];unfold oR at hi;rw[List.length_mapIdx]at hi;exact hi
  exact⟨us,us[i],h1,aqi hl⟩
 yld:=λg i H x H' d k ⟨us,h1,h2⟩ e y=>by
  unfold oR at e;rw[aqV]at e;cases hd:ds[i]? with
  |none=>rw[hd]at e;cases e
  |some d0=>
   rw[hd]at e;cases e;obtain⟨v,hv,rv⟩:=h2.get hd;obtain⟨T,x0,rfl,nT,rfl,y⟩:=y;have:x0=v:=aqC ((y us h1).symm.trans hv);subst this;exact⟨Ex.new nT,.tup (st_of upd_same) (.cons (.int _) (.cons (rv.ex (Ex.new nT) k) .nil))⟩
 stop:=λg i H ⟨us,h1,h2⟩ e=>by
  unfold oR at e;rw[List.length_mapIdx,←h2.length]at e;exact⟨us,h1,e.symm⟩
 ex:=λg H H' k h e=>Src.Wy k h e
 add:=λg g' H H' k h r e=>Src.JC k h r e
def wL(ds es:List Dat):List Dat:=List.zipWith (λd e=>.tuple [d,e]) ds es
theorem aaj:IK K (ItZ K S T) (λg H=>S.cw K ds g H/\T.cw K es g H) (wL ds es) where
 go:=λg i H ⟨⟨us,h1,h2⟩,⟨ws,h3,h4⟩⟩ hi=>by
  unfold wL at hi;rw[List.length_zipWith,←h2.length,←h4.length]at hi;exact⟨us,ws,us[i],ws[i],h1,h3,aqi (by omega),aqi (by omega)⟩
 yld:=λg i H x H' d k ⟨⟨us,h1,h2⟩,⟨ws,h3,h4⟩⟩ e y=>by
  unfold wL at e;rw[List.getElem?_zipWith]at e;cases hd:ds[i]? with
  |none=>rw[hd]at e;cases e
  |some d0=>
   cases he:es[i]? with
   |none=>rw[hd,he]at e;cases e
   |some e0=>
    rw[hd,he]at e;cases e;obtain⟨v,hv,rv⟩:=h2.get hd;obtain⟨u,hu,ru⟩:=h4.get he;obtain⟨U,x0,y0,rfl,nU,rfl,y1,y2⟩:=y;have:x0=v:=aqC ((y1 us h1).symm.trans hv);subst this;have:y0=u:=aqC ((y2 ws h3).symm.trans hu);subst this;exact⟨Ex.new nU,.tup (st_of upd_same) (.cons (rv.ex (Ex.new nU) k) (.cons (ru.ex (Ex.new nU) k) .nil))⟩
 stop:=λg i H ⟨⟨us,h1,h2⟩,⟨ws,h3,h4⟩⟩ e=>by
  unfold wL at e;rw[List.length_zipWith,←h2.length,←h4.length]at e;exact⟨us,ws,h1,h3,e⟩
 ex:=λg H H' k h e=>⟨Src.Wy k h.1 e,Src.Wy k h.2 e⟩
 add:=λg g' H H' k h r e=>⟨Src.JC k h.1 r e,Src.JC k h.2 r e⟩
def pH(lo:Int)(n:Nat):List Dat:=(List.range n).map λ(i:Nat)=>.int (lo+(i:Int))
theorem Vz{lo:Int}{n:Nat}:IK K (Itr lo n) (λ_ _=>True) (pH lo n) where
 go:=λg i H _ hi=>by
  unfold pH at hi;rw[aqo,List.length_range]at hi;exact hi
 yld:=λg i H x H' d k _ e y=>by
  obtain⟨rfl,rfl⟩:=y;unfold pH at e;rw[aqs]at e;cases hr:(List.range n)[i]? with
  |none=>rw[hr]at e;cases e
  |some j=>
   rw[hr]at e;cases e;have:j=i:=by obtain⟨h1,h2⟩:=aqg.mp hr;rw[List.getElem_range]at h2;exact h2.symm
   subst this;exact⟨Ex.refl _,.int _⟩
 stop:=λg i H _ e=>by
  unfold pH at e;rw[aqo,List.length_range]at e;show n<=i;omega
 ex:=λ_ _ _ _ _ _=>trivial
 add:=λ_ _ _ _ _ _ _ _=>trivial
end
section
variable{X:Cx}{aj:aQ}{W:WX}{tg a b:Expr}{fa fb:QF}{pos p tpos:Pos}{elts:List Expr}{kk:Nat}
theorem K8{K:aqe}{g:Gh}{H:Hp}{v:V}{d:Dat}{ds:List Dat}{firm:Bool}(r:if firm=true then Rep K g H v d else dZ K g H v d)(h:nH d=.ok ds):∃S,srcOf v S/\S.cw K ds g H/\(firm=true->S.cf K ds g H):=by
 have rw:dZ K g H v d:=by
  cases firm with
  |true=>exact Rep.weak r
  |false=>exact r
 cases d with
 |list es=>
  cases h;obtain⟨l,us,rfl,h1,h2⟩:=jf rw;refine⟨.lst l,.inl ⟨l,rfl,rfl,.inl rfl⟩,⟨us,h1,h2⟩,λz=>?_⟩;subst z;have r:Rep K g H (.ref l) (.list ds):=r;cases r with
  |lst h3 h4=>exact⟨_,h3,h4⟩
 |tuple es=>
  cases h;obtain⟨l,us,rfl,h1,h2⟩:=lB rw;exact⟨.tup l,.inl ⟨l,rfl,rfl,.inr rfl⟩,⟨us,h1,h2⟩,λ_=>⟨us,h1,h2⟩⟩
 |str x=>
  cases h;cases jJ rw;exact⟨.str x,.inr ⟨x,rfl,rfl⟩,⟨_,rfl,Dc x⟩,λ_=>⟨_,rfl,Dc x⟩⟩
 |_=>cases h
def tF(K:aqe)(aj:aQ)(W:WX)(firm:Bool)(f:QF):TE:=if firm=true then tQ K aj W f else tW K aj W f
def QF'(aj:aQ)(X:Cx)(W:WX)(firm:Bool)(e:Expr)(f:QF):Prop:=PE X e (tF X.K aj W firm f)
theorem tF.go{K:aqe}{firm:Bool}{g:Gh}{H:Hp}{σ:L2.St}{Z:Env}{M:Mo}{f:QF}{k:Dat->Prop}{Q:VK}(I:SInv K aj σ H g Z M)(h:(f M Z).sat k (qG K aj W g H σ))(hk:∀d v H',k d->Ex H H'->(if firm=true then Rep K g H' v d else dZ K g H' v d)->Q v H'):tF K aj W firm f σ H Q:=by
 cases firm with
 |true=>exact tQ.go I h hk
 |false=>exact tW.go I h hk
theorem alj{K:aqe}{firm:Bool}{g:Gh}{H H':Hp}{v:V}{d:Dat}(e:Ex H H')(k:Kd g H)(r:if firm=true then Rep K g H v d else dZ K g H v d):if firm=true then Rep K g H' v d else dZ K g H' v d:=by
 cases firm with
 |true=>exact Rep.ex e k r
 |false=>exact dZ.ex e k r
theorem wf{K:aqe}{S:Src}{firm:Bool}{J:It}{ds es:List Dat}{R:It->Hp->Prop}{g:Gh}{H H1:Hp}(h:∀J C H',Ex H H'->IK K J C ds->C g H'->(firm=true->aa6 C)->R J H')(e1:Ex H H1)(w:IK K J (S.cw K es) ds)(hw:S.cw K es g H1)(hf:firm=true->S.cf K es g H1):R J H1:=by
 cases firm with
 |true=>exact h J (S.cf K es) H1 e1 (w.of (λ_ _ z=>Src.aa3 z) (λg H H' k c e=>Src.uE true g g H H' k c (Gr.ex e)) λg g' H H' k c r e=>Src.uE true g g' H H' k c r) (hf rfl) λ_=>Src.uE
 |false=>exact h J (S.cw K es) H1 e1 w hw λz=>nomatch z
theorem Zm{firm:Bool}(ha:QF' aj X W firm a fa):QI aj X W firm tg a (cV fa):=by
 refine⟨λpins s σ H R I h=>?_⟩;obtain⟨g,Z,M,SI,hs⟩:=h;have hs:=hs.bnd;have fin:∀(S:Src) (x:V) (H1:Hp) (ds:List Dat),(∀J C H',Ex H H'->IK X.K J C ds->C g H'->(firm=true->aa6 C)->R J H')->Ex H H1->S.cw X.K ds g H1->(firm=true->S.cf X.K ds g H1)->R (ItS X.K S) H1:=λS x H1 ds h e1 hw hf=>wf h e1 aaE hw hf;cases hfa:fa M Z with
 |bad=>rw[hfa]at hs;exact arq hs
 |exc x=>
  rw[hfa]at hs;exact(pi_list ha).run pins s σ H R I (tF.go (k:=λ_=>False) SI (by rw[hfa];exact hs) λd v H' z=>arq z)
 |ok d=>
  rw[hfa]at hs;cases d with
  |list ds=>
   refine(pi_list ha).run pins s σ H R I (tF.go (k:=λz=>z=.list ds) SI (by rw[hfa];rfl) λd v H' z e1 r=>?_);subst z;obtain⟨S,hS,hw,hf⟩:=K8 (firm:=firm) r (ds:=ds) rfl;have rw:dZ X.K g H' v (.list ds):=by
    cases firm with
    |true=>exact Rep.weak r
    |false=>exact r
   obtain⟨l,us,rfl,h1,h2⟩:=jf rw;refine⟨l,rfl,⟨us,h1⟩,?_⟩;rcases hS with⟨a',e,ha',hl|ht⟩|⟨y,_,e⟩
   ·cases e;subst hl;exact fin (.lst l) (.ref l) H' ds hs e1 hw hf
   ·cases e;subst ht;refine wf (S:=.lst l) hs e1 (aaE (S:=.lst l)) ⟨us,h1,h2⟩ λz=>?_;subst z;have r:Rep X.K g H' (.ref l) (.list ds):=r;cases r with
    |lst h3 h4=>exact⟨_,h3,h4⟩
   ·cases e
  |tuple ds=>
   refine(pi_tup ha).run pins s σ H R I (tF.go (k:=λz=>z=.tuple ds) SI (by rw[hfa];rfl) λd v H' z e1 r=>?_);subst z;have rw:dZ X.K g H' v (.tuple ds):=by
    cases firm with
    |true=>exact Rep.weak r
    |false=>exact r
   obtain⟨l,us,rfl,h1,h2⟩:=lB rw;exact⟨l,rfl,⟨us,h1⟩,fin (.tup l) (.ref l) H' ds hs e1 ⟨us,h1,h2⟩ λ_=>⟨us,h1,h2⟩⟩
  |str x=>
   refine(pi_str ha).run pins s σ H R I (tF.go (k:=λz=>z=.str x) SI (by rw[hfa];rfl) λd v H' z e1 r=>?_);subst z;have rw:dZ X.K g H' v (.str x):=by
    cases firm with
    |true=>exact Rep.weak r
    |false=>exact r
   cases jJ rw;exact⟨x,rfl,fin (.str x) (.str x) H' _ hs e1 ⟨_,rfl,Dc x⟩ λ_=>⟨_,rfl,Dc x⟩⟩
  |_=>exact arq hs
def Em(a:QF):IF:=λM Z=>(a M Z).bind λd=>(Am d).bind λn=>Out.when (decide (n<=100000/\-100000<=n)) (.ok (pH 0 n.toNat))
def Bv(a b:QF):IF:=λM Z=>(a M Z).bind λd=>(b M Z).bind λe=>(Am d).bind λlo=>(Am e).bind λn=>Out.when (decide (n<=100000/\-100000<=n/\lo<=100000/\-100000<=lo)) (.ok (pH lo (n - lo).toNat))
def wu(k₀:Int)(a:QF):IF:=λM Z=>(a M Z).bind λd=>(nH d).bind λds=>.ok (oR k₀ ds)
def Ef(a b:QF):IF:=λM Z=>(a M Z).bind λd=>(b M Z).bind λe=>(nH d).bind λds=>(nH e).bind λes=>.ok (wL ds es)
theorem ab0{firm:Bool}(hg:Gl X "range")(hm:X.mg "range"=none)(ha:QW aj X W a fa)(hs:nst a=true):QI aj X W firm tg (.Call (.Name "range" p) [a] [] pos) (Em fa):=by
 refine⟨λpins s σ H R I h=>?_⟩;refine(pi_range1 hg hm (pa_cons ha pa_nil (cO hs [])) (cO hs [])).run pins s σ H R I ?_;obtain⟨g,Z,M,SI,h⟩:=h;refine tW.go SI h.bnd λd v H1 h1 e1 r1=>?_;have h1:=h1.bnd;unfold Am at h1;split at h1
 ·obtain⟨hz,h1⟩:=h1.pP;have hz:=aru hz;cases cI r1;exact⟨_,rfl,by omega,by omega,h1 _ _ H1 e1 Vz trivial λ_=>λ_ _ _ _ _ _ _ _=>trivial⟩
 ·exact arq h1
theorem acQ{firm:Bool}(hg:Gl X "range")(hm:X.mg "range"=none)(ha:QW aj X W a fa)(hb:QW aj X W b fb)(hs:nst a=true)(hs2:nst b=true):QI aj X W firm tg (.Call (.Name "range" p) [a,b] [] pos) (Bv fa fb):=by
 refine⟨λpins s σ H R I h=>?_⟩;refine(pi_range2 hg hm (pa_cons ha (pa_cons hb pa_nil (cO hs2 [])) (cO hs [b])) (by rw[cO hs,cO hs2];rfl) (cO hs2 [])).run pins s σ H R I ?_;obtain⟨g,Z,M,SI,h⟩:=h;refine tW.go SI h.bnd λd v H1 h1 e1 r1=>?_;refine tW.go (SI.ex e1) (h1.bnd.mono (λ_ z=>z) λ_ z=>z.ex e1) λd2 v2 H2 h2 e2 r2=>?_;have h2:=h2.bnd;unfold Am at h2;split at h2
 ·have h2:=Out.sat.bnd h2;split at h2
  ·obtain⟨hz,h2⟩:=Out.sat.pP h2;have hz:=aru hz;cases cI r1;cases cI r2;exact⟨_,_,rfl,⟨by omega,by omega,by omega,by omega⟩,h2 _ _ H2 (e1.trans e2) Vz trivial λ_=>λ_ _ _ _ _ _ _ _=>trivial⟩
  ·exact arq h2
 ·exact arq h2
theorem afM{firm:Bool}{k₀:Int}(σ:L2.St)(H:Hp)(R:It->Hp->Prop)(h:tI X.K aj W firm (wu k₀ fa) σ H R):iEn X.K (tCons (tF X.K aj W firm fa) tNil) k₀ σ H R:=by
 obtain⟨g,Z,M,SI,h⟩:=h;refine tF.go SI h.bnd λd v H1 h1 e1 r1=>?_;cases hd:nH d with
 |bad=>rw[hd]at h1;exact arq h1
 |exc x=>cases d<;>cases hd
 |ok ds=>
  rw[hd]at h1;obtain⟨S,hS,hw,hf⟩:=K8 r1 hd;exact⟨v,S,_,rfl,hS,hw.choose_spec.1,wf h1 e1 ae3 hw hf⟩
theorem ag1{firm:Bool}(hg:Gl X "enumerate")(hm:X.mg "enumerate"=none)(ha:QF' aj X W firm a fa)(hs:nst a=true):QI aj X W firm (.Tuple elts kk tpos) (.Call (.Name "enumerate" p) [a] [] pos) (wu 0 fa):=
 ⟨λpins s σ H R I h=>(akL hg hm (pa_cons ha pa_nil (cO hs [])) hs).run pins s σ H R I (afM σ H R h)⟩
theorem aeT{firm:Bool}{k₀:Int}{j:Nat}{kp kp2:Pos}(hk0 : -(2 ^ 63)<=k₀)(hk1:k₀ < 2 ^ 63)(hg:Gl X "enumerate")(hm:X.mg "enumerate"=none)(ha:QF' aj X W firm a fa)(hs:nst a=true):QI aj X W firm (.Tuple elts kk tpos) (.Call (.Name "enumerate" p) [a] [⟨some "start",.Constant (.int k₀) j kp,kp2⟩] pos) (wu k₀ fa):=
 ⟨λpins s σ H R I h=>(aiW hk0 hk1 hg hm (pa_cons ha pa_nil (cO hs [])) hs).run pins s σ H R I (afM σ H R h)⟩
theorem ahL{firm:Bool}(hg:Gl X "zip")(hm:X.mg "zip"=none)(ha:QF' aj X W firm a fa)(hb:QF' aj X W firm b fb)(hs:nst a=true)(hs2:nst b=true):QI aj X W firm (.Tuple elts kk tpos) (.Call (.Name "zip" p) [a,b] [] pos) (Ef fa fb):=by
 refine⟨λpins s σ H R I h=>(ak6 hg hm (pa_cons ha (pa_cons hb pa_nil (cO hs2 [])) (cO hs [b])) hs hs2).run pins s σ H R I ?_⟩;obtain⟨g,Z,M,SI,h⟩:=h;refine tF.go SI h.bnd λd v H1 h1 e1 r1=>?_;refine tF.go (SI.ex e1) (h1.bnd.mono (λ_ z=>z) λ_ z=>z.ex e1) λd2 v2 H2 h2 e2 r2=>?_;cases hd:nH d with
 |bad=>rw[hd]at h2;exact arq h2
 |exc x=>cases d<;>cases hd
 |ok ds=>
  cases he:nH d2 with
  |bad=>rw[hd,he]at h2;exact arq h2
  |exc x=>cases d2<;>cases he
  |ok es=>
   rw[hd,he]at h2;obtain⟨S,hS,hw,hf⟩:=K8 (alj e2 (SI.ex e1).kd r1) hd;obtain⟨T,hT,hw2,hf2⟩:=K8 r2 he;refine⟨v,v2,S,T,_,_,rfl,hS,hT,hw.choose_spec.1,hw2.choose_spec.1,?_⟩;cases firm with
   |true=>exact h2 _ (λg H=>S.cf X.K ds g H/\T.cf X.K es g H) H2 (e1.trans e2) (aaj.of (λ_ _ z=>⟨Src.aa3 z.1,Src.aa3 z.2⟩) (λg H H' k c e=>⟨Src.uE true g g H H' k c.1 (Gr.ex e),Src.uE true g g H H' k c.2 (Gr.ex e)⟩) λg g' H H' k c r e=>⟨Src.uE true g g' H H' k c.1 r,Src.uE true g g' H H' k c.2 r⟩) ⟨hf rfl,hf2 rfl⟩ λ_=>λq g g' H H' k c r=>⟨Src.uE q g g' H H' k c.1 r,Src.uE q g g' H H' k c.2 r⟩
   |false=>exact h2 _ _ H2 (e1.trans e2) aaj ⟨hw,hw2⟩ λz=>nomatch z
end
def WF:WX:=λ_ _ _ _=>False
def xQ{α:Type}:Out α->Out α
 |.ok a=>.ok a
 |_=>.bad
@[simp]theorem Yp {α:Type} (a:α):xQ (.ok a)=.ok a:=rfl
theorem BJ{α:Type}{o:Out α}{P:α->Prop}{E E':cY->Prop}(h:(xQ o).sat P E):o.sat P E':=by
 cases o
 ·exact h
 ·exact arq h
 ·exact h
def dG(tg:fM)(tt:QT)(te:QF)(M:Mo)(Z:Env):List Dat->Out (List Dat)
 |[]=>.ok []
 |d::ds=>match tg d Z with
  |none=>.bad
  |some Z1=>(xQ (tt M Z1)).bind λb=>if b=true then(xQ (te M Z1)).bind λy=>(dG tg tt te M Z ds).bind λr=>.ok (y::r) else dG tg tt te M Z ds
def eE(it:IF)(tg:fM)(vs:List Nat)(tt:QT)(te:QF):QF:=λM Z=>(it M Z).bind λds=>Out.when (decide (ds.length<=50000)) ((dG tg tt te M (cD Z vs) ds).bind λr=>.ok (.list r))
def gA:QT:=λ_ _=>.ok true
def tFr(K:aqe)(aj:aQ)(W:WX)(f:IF):TE:=λσ H Q=>∃g Z M,SInv K aj σ H g Z M/\(f M Z).sat (λxs=>∀l us H',H l=none->Ex H H'->H' l=some (.lst us)->aJ K (g.add l) H' us xs->Q (.ref l) H') (qG K aj W g H σ)
def zP(it:IF)(tg:fM)(vs:List Nat)(tt:QT)(te:QF):IF:=λM Z=>(it M Z).bind λds=>Out.when (decide (ds.length<=50000)) (dG tg tt te M (cD Z vs) ds)
section
variable{K:aqe}{aj:aQ}{W:WX}
theorem Zk{g:Gh}{H:Hp}{D:Addr}{o o':HO}{vs:List V}{ds:List Dat}(k:Kd g H)(h:H D=some o)(l:g.Lo D)(r:aJ K g H vs ds):aJ K g (upd H D o') vs ds:=r.gr (Gr.upd (q:=true) k h (.inr l)) k
theorem agV{g:Gh}{H:Hp}{D:Addr}{o o':HO}{v:V}{d:Dat}(k:Kd g H)(h:H D=some o)(l:g.Lo D)(r:Rep K g H v d):Rep K g (upd H D o') v d:=r.gr (Gr.upd (q:=true) k h (.inr l)) k
theorem qR{tg:fM}{tt:QT}{te:QF}{M:Mo}{Z:Env}:∀{ds:List Dat} {x:cY},dG tg tt te M Z ds≠.exc x
 |[],_,h=>nomatch h
 |d::ds,x,h=>by
  rw[dG]at h;split at h
  ·cases h
  ·next Z1 e=>
   cases h1:tt M Z1 with
   |bad=>rw[h1]at h;cases h
   |exc y=>rw[h1]at h;cases h
   |ok b=>
    rw[h1]at h;cases b with
    |false=>exact qR h
    |true=>
     have h:((xQ (te M Z1)).bind λy=>(dG tg tt te M Z ds).bind λr=>Out.ok (y::r))=.exc x:=h;cases h2:te M Z1 with
     |bad=>rw[h2]at h;cases h
     |exc y=>rw[h2]at h;cases h
     |ok y=>
      rw[h2]at h;cases h3:dG tg tt te M Z ds with
      |bad=>rw[h3]at h;cases h
      |exc z=>exact qR h3
      |ok r=>rw[h3]at h;cases h
theorem Nr(σ:L2.St)(i:Nat):∀vs:List Nat,(L2.wipe σ vs)[i]?=if i∈vs then(σ[i]?).map (λ_=>none) else σ[i]?
 |[]=>by simp[L2.wipe]
 |v::vs=>by
  show((L2.wipe σ vs).set v none)[i]?=_
  by_cases h:v=i
  ·subst h;by_cases hl:v < σ.length
   ·rw[aqw (by rw[wipe_length];exact hl),if_pos aqj,aqi hl];rfl
   ·have h1:σ[v]?=none:=List.getElem?_eq_none_iff.mpr (by omega);rw[if_pos aqj,h1,List.getElem?_eq_none_iff.mpr (by rw[aqD,wipe_length];omega)];rfl
  ·rw[aqn h,Nr σ i vs];have:i∈v::vs↔i∈vs:=⟨λz=>by
    rcases aqt.mp z with z|z
    ·exact absurd z.symm h
    ·exact z,aqk _⟩
   simp only[this]
theorem CW(σ:L2.St)(vs:List Nat):L2.wipe (L2.wipe σ vs) vs=L2.wipe σ vs:=by
 apply aqH;intro i;rw[Nr (L2.wipe σ vs) i vs,Nr σ i vs];split
 ·cases σ[i]?<;>rfl
 ·rfl
theorem XR{it:IF}{tg:fM}{js vs:List Nat}{tt:QT}{te:QF}(hj:∀j∈js,j∈vs)(σ:L2.St)(H:Hp)(Q:VK)(h:tFr K aj W (zP it tg vs tt te) σ H Q) :
  tLc (tI K aj W false it) (zL K aj js tg) (jW K aj WF tt) (tQ K aj WF te) vs σ H Q:=by
 obtain⟨g,Z,M,I,h⟩:=h;refine⟨g,Z,M,I,h.bnd.mono (λds hk J C H1 e1 w c _ D nD=>?_) λ_ z=>z⟩;obtain⟨hz,hk⟩:=hk.pP;have hlen:=aru hz;obtain⟨total,htot,hQ⟩:∃total,dG tg tt te M (cD Z vs) ds=.ok total/\∀l us H',H l=none->Ex H H'->H' l=some (.lst us)->aJ K (g.add l) H' us total->Q (.ref l) H':=by
  cases hc:dG tg tt te M (cD Z vs) ds with
  |bad=>rw[hc]at hk;exact arq hk
  |exc x=>exact absurd hc qR
  |ok total=>
   rw[hc]at hk;exact⟨total,rfl,hk⟩
 have I1:=(I.ex e1).wipe vs;have kD:∀{Ha:Hp} {us:List V},Ex H1 Ha->Ha D=some (.lst us)->SInv K aj (L2.wipe σ vs) Ha (g.add D) (cD Z vs) M:=λea hu=>I1.add nD ea hu trivial
 let Pv:Nat->Hp->Prop:=λi Ha=>Ex H1 Ha/\i<=ds.length/\∃us ys,Ha D=some (.lst us)/\aJ K (g.add D) Ha us ys/\ys.length<=i/\(dG tg tt te M (cD Z vs) (ds.drop i)).sat (λr=>total=ys++r) λ_=>False
 refine⟨λi m Ha=>m=ds.length - i/\Pv i Ha,⟨ds.length,rfl,Ex.new nD,aqT _,[],[],upd_same,.nil,aqF _,?_⟩,?_⟩
 ·rw[aro,htot];rfl
 ·rintro i m Ha ⟨rfl,ea,hi,us,ys,hu,hU,hy,hs⟩;have Ia:=kD ea hu;have Ca:=w.add g (g.add D) H1 Ha (I.kd.ex e1) c (Gh.Fl nD ea) ea;by_cases hlt:i < ds.length
  ·refine .inr ⟨w.go _ i Ha Ca hlt,Pv (i+1),λH' p=>⟨ds.length - (i+1),by omega,rfl,p⟩,λx H' y=>?_⟩;have hd:ds[i]?=some ds[i]:=aqi hlt;obtain⟨e2,rx⟩:=w.yld _ i Ha x H' _ Ia.kd Ca hd y;have I2:=Ia.ex e2;rw[aq2 hlt,dG]at hs;split at hs
   ·exact arq hs
   ·next Z1 he=>
    refine⟨g.add D,_,M,_,Z1,I2,rx,he,λws I3=>⟨zQ js ws _ vs hj |>.trans (CW σ vs),?_⟩⟩;refine jW.go I3 (BJ hs.bnd) λb H3 hb e3=>?_;have I4:=I3.ex e3;have hu3:=e3 _ _ (e2 _ _ hu);have hU3:=(hU.ex e2 Ia.kd).ex e3 I2.kd;cases b with
    |false=>
     have hb:(dG tg tt te M (cD Z vs) (ds.drop (i+1))).sat (λr=>total=ys++r) λ_=>False:=hb;exact⟨(ea.trans e2).trans e3,hlt,us,ys,hu3,hU3,Nat.le_succ_of_le hy,hb⟩
    |true=>
     have hb:((xQ (te M Z1)).bind λy=>(dG tg tt te M (cD Z vs) (ds.drop (i+1))).bind λr=>Out.ok (y::r)).sat (λr=>total=ys++r) λ_=>False:=hb;refine tQ.go I4 (BJ hb.bnd) λy v H4 hyv e4 ry=>?_;have I5:=I4.ex e4;have hu4:=e4 _ _ hu3;have hU4:=hU3.ex e4 I4.kd;have lD:(g.add D).Lo D:=.inr rfl;refine⟨us,hu4,sz_lt (by rw[hU.length];omega),Ex.mut (((ea.trans e2).trans e3).trans e4) nD,hlt,us++[v],ys++[y],upd_same,?_,by simp;omega,hyv.bnd.mono (λr hr=>?_) λ_ z=>z⟩
     ·exact Zk I5.kd hu4 lD (hU4.append (.cons ry .nil))
     ·have hr:total=ys++y::r:=hr;rw[hr];simp
  ·have e:i=ds.length:=by omega
   refine .inl ⟨w.stop _ i Ha Ca e,?_⟩;rw[e,aq6]at hs;have hs:total=ys++[]:=hs;rw[aqY]at hs;subst hs;exact hQ D us Ha (Cq e1 D nD) (e1.trans ea) hu hU
theorem afP{it:IF}{tg:fM}{js vs:List Nat}{tt:QT}{te:QF}(hj:∀j∈js,j∈vs)(σ:L2.St)(H:Hp)(Q:VK)(h:tQ K aj W (eE it tg vs tt te) σ H Q) :
  tLc (tI K aj W false it) (zL K aj js tg) (jW K aj WF tt) (tQ K aj WF te) vs σ H Q:=by
 obtain⟨g,Z,M,I,h⟩:=h;refine XR hj σ H Q ⟨g,Z,M,I,?_⟩;unfold zP;unfold eE at h;cases hi:it M Z with
 |bad=>rw[hi]at h;exact arq h
 |exc x=>rw[hi]at h;exact h
 |ok ds=>
  rw[hi]at h;obtain⟨hz,h⟩:=Out.sat.pP h;have h:=h.bnd
  show(Out.when (decide (ds.length<=50000)) (dG tg tt te M (cD Z vs) ds)).sat _ _
  rw[hz,Out.U6];exact h.mono (λxs z l us H' n e hl r=>z _ H' e (.lst (.inl ⟨.inl hl,I.kd.fresh n⟩) (aJ.less (g:=g.add l) (g':=g) rfl (λa z=>z.elim .inl λz=>.inr (z.elim .inl λz=>.inr (.inl z))) r))) λ_ z=>z
end
section
variable{X:Cx}{aj:aQ}{W:WX}{elt tg iter:Expr}{pos p tpos:Pos}
theorem ajA{X:Cx}:Takes X WF:=λu s' ⟨a,B,sI,pins,σ,H,cls,d,e,I,nb,up,sky,na,os,ag,w⟩=>arq w
theorem alc{scope:Scope}{own:List (Str×Nat)}{it:IF}{tgf:fM}{js:List Nat}{tt:QT}{te:QF}{ifs:List Expr}(hc:X.calm=true)(hN:X.N.Nodup)(hi:QI aj X W false tg iter it)(ok:blkC X.N X.env.scope scope own=true)(hj:∀j∈js,j∈own.map (·.2))
  (hg:∀(s:Shared) (H:Hp) (C:Addr) (cl:List (Str×Addr)) (fp:List Addr),QG aj (X.blk s H scope (compEnvC scope cl C X.env) fp) tg js tgf)
  (ht:∀(s:Shared) (H:Hp) (C:Addr) (cl:List (Str×Addr)) (fp:List Addr),PTs (X.blk s H scope (compEnvC scope cl C X.env) fp) ifs (jW X.K aj WF tt))
  (he:∀(s:Shared) (H:Hp) (C:Addr) (cl:List (Str×Addr)) (fp:List Addr),QE aj (X.blk s H scope (compEnvC scope cl C X.env) fp) WF elt te) (hs:∀x,foldedSetIterable iter X.env x=pure x) :
  QE aj X W (.ListComp elt [⟨tg,iter,ifs,0⟩] scope pos) (eE it tgf (own.map (·.2)) tt te):=
 PE.weak (pe_lc (g:=zL X.K aj js tgf) (tt:=jW X.K aj WF tt) (te:=tQ X.K aj WF te) hc hN hi (blkOk_by ok) (λs H C cl fp=>hg s H C cl fp) ht (λs H C cl fp=>he s H C cl fp) hs) λσ H Q h=>afP hj σ H Q h
theorem aly{scope:Scope}{own:List (Str×Nat)}{it:IF}{tgf:fM}{js:List Nat}{tt:QT}{te:QF}{ifs:List Expr}(hc:X.calm=true)(hN:X.N.Nodup)(hi:QI aj X W false tg iter it)(ok:blkC X.N X.env.scope scope own=true)(hj:∀j∈js,j∈own.map (·.2))
  (hg:∀(s:Shared) (H:Hp) (C:Addr) (cl:List (Str×Addr)) (fp:List Addr),QG aj (X.blk s H scope (compEnvC scope cl C X.env) fp) tg js tgf)
  (ht:∀(s:Shared) (H:Hp) (C:Addr) (cl:List (Str×Addr)) (fp:List Addr),PTs (X.blk s H scope (compEnvC scope cl C X.env) fp) ifs (jW X.K aj WF tt))
  (he:∀(s:Shared) (H:Hp) (C:Addr) (cl:List (Str×Addr)) (fp:List Addr),QE aj (X.blk s H scope (compEnvC scope cl C X.env) fp) WF elt te) (hs:∀x,foldedSetIterable iter X.env x=pure x) :
  PE X (.ListComp elt [⟨tg,iter,ifs,0⟩] scope pos) (tFr X.K aj W (zP it tgf (own.map (·.2)) tt te)):=
 PE.weak (pe_lc (g:=zL X.K aj js tgf) (tt:=jW X.K aj WF tt) (te:=tQ X.K aj WF te) hc hN hi (blkOk_by ok) (λs H C cl fp=>hg s H C cl fp) ht (λs H C cl fp=>he s H C cl fp) hs) λσ H Q h=>XR hj σ H Q h
end
def bB.sat{α:Type}(o:bB α)(P:α->Mo->Prop)(E:cY->Mo->Prop):Prop:=
 match o with
 |.ok a M=>P a M
 |.exc x M=>E x M
 |.bad=>False
def bB.bind{α β:Type}(o:bB α)(k:α->Mo->bB β):bB β:=
 match o with
 |.ok a M=>k a M
 |.exc x M=>.exc x M
 |.bad=>.bad
@[simp]theorem bB.yt {α β:Type} (a:α) (M:Mo) (k:α->Mo->bB β):(bB.ok a M).bind k=k a M:=rfl
@[simp]theorem bB.adX {α β:Type} (x:cY) (M:Mo) (k:α->Mo->bB β):(bB.exc x M:bB α).bind k=.exc x M:=rfl
@[simp]theorem bB.aeh {α β:Type} (k:α->Mo->bB β):(bB.bad:bB α).bind k=.bad:=rfl
theorem bB.sat.bnd{α β:Type}{o:bB α}{k:α->Mo->bB β}{P:β->Mo->Prop}{E:cY->Mo->Prop}(h:(o.bind k).sat P E):o.sat (λa M=>(k a M).sat P E) E:=by cases o<;>exact h
theorem bB.sat.mono{α:Type}{o:bB α}{P P':α->Mo->Prop}{E E':cY->Mo->Prop}(h:o.sat P E)(hp:∀a M,P a M->P' a M)(he:∀x M,E x M->E' x M):o.sat P' E':=by
 cases o
 ·exact hp _ _ h
 ·exact he _ _ h
 ·exact h
def Out.at{α:Type}(o:Out α)(M:Mo):bB α:=
 match o with
 |.ok a=>.ok a M
 |.exc x=>.exc x M
 |.bad=>.bad
@[simp]theorem Out.apQ {α:Type} (a:α) (M:Mo):(Out.ok a).at M=.ok a M:=rfl
@[simp]theorem Out.aoP {α:Type} (x:cY) (M:Mo):(Out.exc x:Out α).at M=.exc x M:=rfl
@[simp]theorem Out.an5 {α:Type} (M:Mo):(Out.bad:Out α).at M=.bad:=rfl
theorem Out.jc{α:Type}{o:Out α}{M:Mo}{P:α->Mo->Prop}{E:cY->Mo->Prop}(h:(o.at M).sat P E):o.sat (λa=>P a M) λx=>E x M:=by cases o<;>exact h
abbrev GF:=Mo->Env->bB Dat
abbrev GT:=Mo->Env->bB Bool
def uM.sat(o:uM)(nx:Env->Mo->Prop)(rt:Dat->Mo->Prop)(bk ct:Env->Mo->Prop)(ex:cY->Env->Mo->Prop):Prop:=
 match o with
 |.next Z M=>nx Z M
 |.ret d M=>rt d M
 |.brk Z M=>bk Z M
 |.cont Z M=>ct Z M
 |.exc x Z M=>ex x Z M
 |.bad=>False
theorem uM.sat.mono{o:uM}{nx nx':Env->Mo->Prop}{rt rt':Dat->Mo->Prop}{bk bk' ct ct':Env->Mo->Prop}{ex ex':cY->Env->Mo->Prop}(h:o.sat nx rt bk ct ex)(h1:∀Z M,nx Z M->nx' Z M)(h2:∀d M,rt d M->rt' d M)(h3:∀Z M,bk Z M->bk' Z M)(h4:∀Z M,ct Z M->ct' Z M)(h5:∀x Z M,ex x Z M->ex' x Z M):o.sat nx' rt' bk' ct' ex':=by
 cases o
 ·exact h1 _ _ h
 ·exact h2 _ _ h
 ·exact h3 _ _ h
 ·exact h4 _ _ h
 ·exact h5 _ _ _ h
 ·exact h
abbrev SF:=Mo->Env->uM
def Gh.fr(g:Gh):Gh:={ g with Lo:=λ_=>False }
section
variable(K:aqe)(aj:aQ)(W:WX)(q:Bool)
def gE(g:Gh)(H:Hp)(σ:L2.St)(Z:Env)(x:cY)(M':Mo):Prop:=∀H' g' c dd,Gr q g g' H H'->SInv K aj σ H' g' Z M'->pU K aj g' H' x c dd->W c dd σ H'
def tE(f:GF):TE:=λσ H Q=>∃g Z M,SInv K aj σ H g Z M/\(f M Z).sat (λd M'=>∀v H' g',Gr q g g' H H'->SInv K aj σ H' g' Z M'->Rep K g' H' v d->Q v H') (gE K aj W q g H σ Z)
def tET(f:GT):TT:=λσ H Q=>∃g Z M,SInv K aj σ H g Z M/\(f M Z).sat (λb M'=>∀H' g',Gr q g g' H H'->SInv K aj σ H' g' Z M'->Q b H') (gE K aj W q g H σ Z)
def sN(k:L2.St->Hp->Prop)(g:Gh)(H:Hp)(Z':Env)(M':Mo):Prop:=∀σ' H' g',Gr q g g' H H'->SInv K aj σ' H' g' Z' M'->k σ' H'
def sR(k:VK)(g:Gh)(H:Hp)(d:Dat)(M':Mo):Prop:=∀v H' g',Gr q g g' H H'->Kd g'.fr H'->fU K aj g'.fr H' M'->Rep K g'.fr H' v d->k v H'
def sX(g:Gh)(H:Hp)(x:cY)(Z':Env)(M':Mo):Prop:=∀σ' H' g' c dd,Gr q g g' H H'->SInv K aj σ' H' g' Z' M'->pU K aj g'.fr H' x c dd->W c dd σ' H'
def tS(f:SF):TS:=λD σ H=>∃g Z M,SInv K aj σ H g Z M/\(f M Z).sat (sN K aj q D.nx g H) (sR K aj q D.rt g H) (sN K aj q D.bk g H) (sN K aj q D.ct g H) (sX K aj W q g H)
end
section
variable{K:aqe}{aj:aQ}{W:WX}{q:Bool}{g g1:Gh}{H H1:Hp}{σ:L2.St}{Z:Env}{M:Mo}
theorem gE.gr{x:cY}{M':Mo}(r:Gr q g g1 H H1)(h:gE K aj W q g H σ Z x M'):gE K aj W q g1 H1 σ Z x M':=λH' g' c dd r' I z=>h H' g' c dd (r.trans r') I z
theorem sN.gr{k:L2.St->Hp->Prop}{Z':Env}{M':Mo}(r:Gr q g g1 H H1)(h:sN K aj q k g H Z' M'):sN K aj q k g1 H1 Z' M':=λσ' H' g' r' I=>h σ' H' g' (r.trans r') I
theorem sR.gr{k:VK}{d:Dat}{M':Mo}(r:Gr q g g1 H H1)(h:sR K aj q k g H d M'):sR K aj q k g1 H1 d M':=λv H' g' r' I z y=>h v H' g' (r.trans r') I z y
theorem sX.gr{x:cY}{Z':Env}{M':Mo}(r:Gr q g g1 H H1)(h:sX K aj W q g H x Z' M'):sX K aj W q g1 H1 x Z' M':=λσ' H' g' c dd r' I z=>h σ' H' g' c dd (r.trans r') I z
theorem tE.go{f:GF}{k:Dat->Mo->Prop}{Q:VK}(I:SInv K aj σ H g Z M)(h:(f M Z).sat k (gE K aj W q g H σ Z))(hk:∀d M' v H' g',k d M'->Gr q g g' H H'->SInv K aj σ H' g' Z M'->Rep K g' H' v d->Q v H'):tE K aj W q f σ H Q:=
 ⟨g,Z,M,I,h.mono (λd M' hd v H' g' e I' r=>hk d M' v H' g' hd e I' r) λ_ _ z=>z⟩
theorem tET.go{f:GT}{k:Bool->Mo->Prop}{Q:Bool->Hp->Prop}(I:SInv K aj σ H g Z M)(h:(f M Z).sat k (gE K aj W q g H σ Z))(hk:∀b M' H' g',k b M'->Gr q g g' H H'->SInv K aj σ H' g' Z M'->Q b H'):tET K aj W q f σ H Q:=
 ⟨g,Z,M,I,h.mono (λd M' hd H' g' e I'=>hk d M' H' g' hd e I') λ_ _ z=>z⟩
theorem tS.go{f:SF}{D:Ends}(I:SInv K aj σ H1 g1 Z M)(r:Gr q g g1 H H1)(h:(f M Z).sat (sN K aj q D.nx g H) (sR K aj q D.rt g H) (sN K aj q D.bk g H) (sN K aj q D.ct g H) (sX K aj W q g H)):tS K aj W q f D σ H1:=
 ⟨g1,Z,M,I,h.mono (λ_ _ z=>z.gr r) (λ_ _ z=>z.gr r) (λ_ _ z=>z.gr r) (λ_ _ z=>z.gr r) (λ_ _ _ z=>z.gr r)⟩
theorem kE.less{g':Gh}{fs:List (Str×V)}{gs:List (Str×Dat)}(e:g'.tbl=g.tbl)(n:∀a,g'.A a->g.A a)(h:kE K g H fs gs):kE K g' H fs gs:=by
 induction h with
 |nil=>exact .nil
 |cons r _ ih=>exact .cons (r.less e n) ih
theorem pU.less{g':Gh}{x:cY}{c:Value}{dd:Option Addr}(e:g'.tbl=g.tbl)(n:∀a,g'.A a->g.A a)(h:pU K aj g H x c dd):pU K aj g' H x c dd:=by obtain⟨C,h1,h2,h3⟩:=h;refine⟨C,h1,h2,h3.imp id λ⟨a,fs,e1,e2,e3⟩=>⟨a,fs,e1,e2,e3.less e n⟩⟩
theorem vP(g:Gh):∀a,g.fr.A a->g.A a:=λa z=>z.elim .inl λz=>.inr (z.elim .inl λz=>arq z)
theorem Rep.fr{v:V}{d:Dat}(h:Rep K g H v d):Rep K g.fr H v d:=Rep.less (g:=g) (g':=g.fr) rfl (vP g) h
theorem aJ.fr{v:List V}{d:List Dat}(h:aJ K g H v d):aJ K g.fr H v d:=aJ.less (g:=g) (g':=g.fr) rfl (vP g) h
theorem pU.fr{x:cY}{c:Value}{dd:Option Addr}(h:pU K aj g H x c dd):pU K aj g.fr H x c dd:=pU.less (g:=g) (g':=g.fr) rfl (vP g) h
end
def GE(aj:aQ)(X:Cx)(W:WX)(q:Bool)(e:Expr)(f:GF):Prop:=PE X e (tE X.K aj W q f)
def GTe(aj:aQ)(X:Cx)(W:WX)(q:Bool)(e:Expr)(f:GT):Prop:=PT X e (tET X.K aj W q f)
def SE(aj:aQ)(X:Cx)(W:WX)(q:Bool)(s:Stmt)(f:SF):Prop:=PS X s (tS X.K aj W q f)
def Jf(aj:aQ)(X:Cx)(W:WX)(q:Bool)(s:List Stmt)(f:SF):Prop:=PSs X s (tS X.K aj W q f)
theorem PS.weak{X:Cx}{e:Stmt}{t t':TS}(h:PS X e t)(k:∀D σ H,t' D σ H->t D σ H):PS X e t':=⟨λpins s σ H D I z=>h.run pins s σ H D I (k D σ H z)⟩
theorem PSs.weak{X:Cx}{e:List Stmt}{t t':TS}(h:PSs X e t)(k:∀D σ H,t' D σ H->t D σ H):PSs X e t':=⟨λpins s σ H D I z=>h.run pins s σ H D I (k D σ H z)⟩
def gOf(f:QF):GF:=λM Z=>(f M Z).at M
def afk(f:QT):GT:=λM Z=>(f M Z).at M
section
variable{X:Cx}{aj:aQ}{W:WX}{q:Bool}{a b e:Expr}{pos:Pos}
theorem afS{f:QF}(h:QE aj X W e f):GE aj X W q e (gOf f):=PE.weak h λσ H Q ⟨g,Z,M,I,z⟩=>
 ⟨g,Z,M,I,(Out.jc z).mono (λd k v H' e r=>k v H' g (Gr.ex e) (I.ex e) r) λx k H' c dd e r=>k H' g c dd (Gr.ex e) (I.ex e) r⟩
theorem akE{f:QT}(h:rH aj X W e f):GTe aj X W q e (afk f):=PT.weak h λσ H Q ⟨g,Z,M,I,z⟩=>
 ⟨g,Z,M,I,(Out.jc z).mono (λd k H' e=>k H' g (Gr.ex e) (I.ex e)) λx k H' c dd e r=>k H' g c dd (Gr.ex e) (I.ex e) r⟩
def aN:SF:=λM Z=>.next Z M
def aD(f k:SF):SF:=λM Z=>match f M Z with
 |.next Z' M'=>k M' Z'
 |o=>o
theorem aiA:Jf aj X W q [] aN:=PSs.weak pss_nil λD σ H ⟨g,Z,M,I,z⟩=>z σ H g .refl I
theorem aiY{s:Stmt}{f:SF}(h:SE aj X W q s f):Jf aj X W q [s] f:=pss_one h
theorem agA{s:Stmt}{ss:List Stmt}{f k:SF}(h:SE aj X W q s f)(hs:Jf aj X W q ss k):Jf aj X W q (s::ss) (aD f k):=by
 refine PSs.weak (pss_cons h hs) λD σ H ⟨g,Z,M,I,z⟩=>?_;refine⟨g,Z,M,I,?_⟩;unfold aD at z;cases hf:f M Z with
 |next Z' M'=>
  rw[hf]at z;exact λσ' H' g' r I'=>tS.go I' r z
 |ret d M'=>rw[hf]at z;exact z
 |brk Z' M'=>rw[hf]at z;exact z
 |cont Z' M'=>rw[hf]at z;exact z
 |exc x Z' M'=>rw[hf]at z;exact z
 |bad=>rw[hf]at z;exact z
def bB.then{α:Type}(o:bB α)(Z:Env)(k:α->Mo->uM):uM:=
 match o with
 |.ok a M=>k a M
 |.exc x M=>.exc x Z M
 |.bad=>.bad
@[simp]theorem bB.am7 {α:Type} (a:α) (M:Mo) (Z:Env) (k:α->Mo->uM):(bB.ok a M).then Z k=k a M:=rfl
@[simp]theorem bB.amy {α:Type} (x:cY) (M:Mo) (Z:Env) (k:α->Mo->uM):(bB.exc x M:bB α).then Z k=.exc x Z M:=rfl
@[simp]theorem bB.amk {α:Type} (Z:Env) (k:α->Mo->uM):(bB.bad:bB α).then Z k=.bad:=rfl
theorem dD{α:Type}{K:aqe}{g:Gh}{H:Hp}{σ:L2.St}{Z:Env}{o:bB α}{k:α->Mo->uM}{nx bk ct:Env->Mo->Prop}{rt:Dat->Mo->Prop}(h:(o.then Z k).sat nx rt bk ct (sX K aj W q g H)):o.sat (λa M=>(k a M).sat nx rt bk ct (sX K aj W q g H)) (gE K aj W q g H σ Z):=by
 cases o with
 |ok a M=>exact h
 |exc x M=>exact λH' g' c dd r I z=>h σ H' g' c dd r I z.fr
 |bad=>exact h
def bh(tg:fM)(f:GF):SF:=λM Z=>(f M Z).then Z λd M'=>match tg d Z with
 |some Z'=>.next Z' M'
 |none=>.bad
theorem YK{tg:Expr}{js:List Nat}{tf:fM}{f:GF}(he:GE aj X W q e f)(hg:QG aj X tg js tf)(hs:swapsWithSole [tg] e pos.line X.env=pure false)(hw:swappedStores [tg] e X.env=pure none)(h1:(assignEach [tg] X.env).map (·.2)=[assign tg X.env]):SE aj X W q (.Assign [tg] e pos) (bh tf f):=by
 refine PS.weak (ps_asg he hg hs hw h1) λD σ H ⟨g,Z,M,I,z⟩=>?_;refine tE.go I (dD (σ:=σ) z) λd M' v H' g' k r I' rv=>?_;split at k
 ·next Z' e'=>exact⟨g',Z,M',d,Z',I',rv,e',λvs I2=>k _ H' g' r I2⟩
 ·exact arq k
def cG(f:GF):SF:=λM Z=>(f M Z).then Z λ_ M'=>.next Z M'
theorem R6{f:GF}(he:GE aj X W q e f)(hs:swapsWith e none pos.line X.env=pure false):SE aj X W q (.Expr e pos) (cG f):=by refine PS.weak (ps_expr he hs) λD σ H ⟨g,Z,M,I,z⟩=>?_;exact tE.go I (dD (σ:=σ) z) λd M' v H' g' k r I' rv=>k σ H' g' r I'
end
def Rg:Cell->Cell
 |.mut xs=>.dat (.list xs)
 |c=>c
def rE(Z:Env):Env:=Z.map λo=>o.map Rg
section
variable{K:aqe}{aj:aQ}{W:WX}{q:Bool}{g:Gh}{H:Hp}{σ:L2.St}{Z:Env}{M:Mo}
theorem ji.less{g':Gh}{l:Addr}(e:g'.tbl=g.tbl)(n:∀a,g'.A a->g.A a):∀{b:Bool} {kvs:List (Dat×Dat)},ji K aj g H l b kvs->ji K aj g' H l b kvs
 |false,_,⟨kv,h1,h2,h3⟩=>⟨kv,h1,h2,h3.less e n⟩
 |true,_,⟨o,xs,vs,h1,h2,h3,h4,h5,h6⟩=>⟨o,xs,vs,h1,h2,h3,h4.less e n,h5,h6.less e n⟩
theorem dO.less{g':Gh}{h:Nat}{f:Str}{v:V}(e:g'.tbl=g.tbl)(e2:g'.ow=g.ow)(n:∀a,g'.A a->g.A a):∀{fl:iV},dO K aj g H h f v fl->dO K aj g' H h f v fl
 |.dat _,z=>Rep.less e n z
 |.lst _ _,⟨l,us,h1,h2,h3,h4,h5⟩=>⟨l,us,h1,h2,by rw[e2];exact h3,h4.less e n,by rw[e];exact h5⟩
 |.dic _ _,⟨l,h1,h2,h3⟩=>⟨l,h1,by rw[e2];exact h2,h3.less e n⟩
theorem cM.less{g':Gh}{h:Nat}(e:g'.tbl=g.tbl)(e2:g'.ow=g.ow)(n:∀a,g'.A a->g.A a):∀{fs:List (Str×V)} {gs:List (Str×iV)},cM K aj g H h fs gs->cM K aj g' H h fs gs
 |_,_,.nil=>.nil
 |_,_,.cons z t=>.cons (dO.less e e2 n z) (cM.less e e2 n t)
theorem fU.less{g':Gh}(e:g'.tbl=g.tbl)(e2:g'.ow=g.ow)(n:∀a,g'.A a->g.A a)(w:fU K aj g H M):fU K aj g' H M where
 len:=by rw[e];exact w.len
 inj:=by rw[e];exact w.inj
 ins:=λh a i ha hi hc=>by
  rw[e]at ha;obtain⟨C,dx,fs,c1,c2,c3⟩:=w.ins h a i ha hi hc;exact⟨C,dx,fs,c1,c2,c3.less e e2 n⟩
 nd:=w.nd
 fd:=w.fd
 tw:=by rw[e,e2];exact w.tw
 dm:=w.dm
 nc:=w.nc
theorem Od{i:Nat}{c:Cell}(h:(rE Z)[i]?=some (some c)):∃c',Z[i]?=some (some c')/\c=Rg c':=by
 unfold rE at h;rw[aqs]at h;cases hr:Z[i]? with
 |none=>rw[hr]at h;cases h
 |some o=>
  rw[hr]at h;cases o with
  |none=>cases h
  |some c'=>
   cases h;exact⟨c',rfl,rfl⟩
theorem SInv.rE(I:SInv K aj σ H g Z M):SInv K aj σ H g.fr (rE Z) M where
 kd:=⟨λa z=>I.kd.ob a (vP g a z),λa z=>arq z,λa z=>⟨(I.kd.lc a z).1,λy=>y⟩⟩
 wok:=fU.less (g:=g) (g':=g.fr) rfl rfl (vP g) I.wok
 len:=by unfold Rf.rE;rw[aqo];exact I.len
 dat:=λi d h=>by
  obtain⟨c,h1,h2⟩:=Od h;cases c with
  |dat d'=>
   cases h2;obtain⟨v,e1,e2⟩:=I.dat i _ h1;exact⟨v,e1,e2.fr⟩
  | «mut» xs=>
   cases h2;obtain⟨l,us,e1,e2,e3,e4⟩:=I.own i _ h1;refine⟨_,e1,.lst (.inl ⟨.inl e2,λz=>?_⟩) e4.fr⟩;rcases z with z|z|z
   ·exact I.kd.lo l e3 z
   ·exact(I.kd.lc l z).2 e3
   ·exact z
 own:=λi xs h=>by
  obtain⟨c,h1,h2⟩:=Od h;cases c<;>cases h2
 sep:=λi j xs ys l ne h1=>by
  obtain⟨c,h1,h2⟩:=Od h1;cases c<;>cases h2
end
section
variable{K:aqe}{aj:aQ}{W:WX}{q:Bool}{g g':Gh}{H H':Hp}{σ:L2.St}{Z:Env}{M:Mo}
theorem Kd.fr(k:Kd g H):Kd g.fr H:=⟨λa z=>k.ob a (vP g a z),λa z=>arq z,λa z=>⟨(k.lc a z).1,λy=>y⟩⟩
theorem fU.fr(w:fU K aj g H M):fU K aj g.fr H M:=fU.less (g:=g) (g':=g.fr) rfl rfl (vP g) w
theorem bH{α:Type}{l:List (Option α)}{j i:Nat}{c:α}{o:Option α}(h:(l.set j o)[i]?=some (some c)):(j=i/\o=some c/\j < l.length)∨(j≠i/\l[i]?=some (some c)):=by
 by_cases z:j=i
 ·subst z;have hj:j < l.length:=by
   have:=(aqg.mp h).1;rw[aqD]at this;exact this
  rw[aqw hj]at h;exact .inl ⟨rfl,aqC h,hj⟩
 ·rw[aqn z]at h;exact .inr ⟨z,h⟩
theorem SInv.ah6{j:Nat}{l:Addr}{us:List V}{xs:List Dat}(I:SInv K aj σ H g Z M)(n:H l=none)(e:Ex H H')(hl:H' l=some (.lst us))(r:aJ K (g.add l) H' us xs):SInv K aj (σ.set j (some (.ref l))) H' (g.add l) (Z.set j (some (.mut xs))) M:=by
 have I1:=I.add n e hl trivial;have nl:∀(i:Nat) (ys:List Dat),Z[i]?=some (some (.mut ys))->σ[i]?≠some (some (.ref l)):=λi ys h z=>by
  obtain⟨l',us',h1,h2,_⟩:=I.own i ys h;rw[z]at h1;cases h1;rw[n]at h2;cases h2
 refine⟨I1.kd,I1.wok,by rw[aqD,aqD];exact I.len,λi d h=>?_,λi ys h=>?_,λi k ys zs a ne h1 h2 h3 h4=>?_⟩
 ·rcases bH h with⟨_,h,_⟩|⟨ne,h⟩
  ·cases h
  ·rw[aqn ne];exact I1.dat i d h
 ·rcases bH h with⟨rfl,h,hj⟩|⟨ne,h⟩
  ·cases h;exact⟨l,us,by rw[aqw (by rw[I.len];exact hj)],hl,.inr rfl,r⟩
  ·rw[aqn ne];exact I1.own i ys h
 ·rcases bH h1 with⟨rfl,h1,hj⟩|⟨n1,h1⟩
  ·rcases bH h2 with⟨rfl,h2,_⟩|⟨n2,h2⟩
   ·exact ne rfl
   ·rw[aqw (by rw[I.len];exact hj)]at h3;cases h3;rw[aqn n2]at h4;exact nl k zs h2 h4
  ·rcases bH h2 with⟨rfl,h2,hj⟩|⟨n2,h2⟩
   ·rw[aqw (by rw[I.len];exact hj)]at h4;cases h4;rw[aqn n1]at h3;exact nl i ys h1 h3
   ·rw[aqn n1]at h3;rw[aqn n2]at h4;exact I.sep i k ys zs a ne h1 h2 h3 h4
theorem dO.loc{l:Addr}{us us':List V}{h:Nat}{f:Str}{v:V}(k:Kd g H)(hl:H l=some (.lst us))(lo:g.Lo l):∀{fl:iV},dO K aj g H h f v fl->dO K aj g (upd H l (.lst us')) h f v fl:=λ{fl} z=>by
 have r:Gr true g g H (upd H l (.lst us')):=Gr.upd k hl (.inr lo);cases fl with
 |dat d=>exact Rep.gr r k z
 |lst n xs=>
  obtain⟨a,ws,h1,h2,h3,h4,h5⟩:=z;exact⟨a,ws,h1,by rw[upd_ne (λz=>by subst z;exact k.lo _ lo (.inr (by rw[h3];exact λz=>nomatch z)))];exact h2,h3,h4.gr r k,h5⟩
 |dic n kvs=>
  obtain⟨a,h1,h2,h3⟩:=z;have na:a≠l:=λz=>by subst z;exact k.lo _ lo (.inr (by rw[h2];exact λz=>nomatch z))
  refine⟨a,h1,h2,?_⟩;cases n with
  |false=>
   obtain⟨kv,h3,h4,h5⟩:=h3;exact⟨kv,by rw[upd_ne na];exact h3,h4,h5.gr r k⟩
  |true=>
   obtain⟨o,xs,vs,h3,h4,h5,h6,h7,h8⟩:=h3;exact⟨o,xs,vs,by rw[upd_ne na];exact h3,h4,h5,h6.gr r k,h7,h8.gr r k⟩
theorem cM.loc{l:Addr}{us us':List V}{h:Nat}(k:Kd g H)(hl:H l=some (.lst us))(lo:g.Lo l):∀{fs:List (Str×V)} {gs:List (Str×iV)},cM K aj g H h fs gs->cM K aj g (upd H l (.lst us')) h fs gs
 |_,_,.nil=>.nil
 |_,_,.cons z t=>.cons (dO.loc k hl lo z) (cM.loc k hl lo t)
theorem fU.loc{l:Addr}{us us':List V}(k:Kd g H)(hl:H l=some (.lst us))(lo:g.Lo l)(w:fU K aj g H M):fU K aj g (upd H l (.lst us')) M where
 len:=w.len
 inj:=w.inj
 ins:=λh a i ha hi hc=>by
  obtain⟨C,dx,fs,c1,c2,c3⟩:=w.ins h a i ha hi hc;exact⟨C,dx,fs,c1,by rw[upd_ne (λz=>by subst z;exact k.lo _ lo (.inl (aqm ha)))];exact c2,c3.loc k hl lo⟩
 nd:=w.nd
 fd:=w.fd
 tw:=w.tw
 dm:=w.dm
 nc:=w.nc
theorem SInv.change{j:Nat}{xs ys:List Dat}(I:SInv K aj σ H g Z M)(hj:Z[j]?=some (some (.mut xs))):∃l us,σ[j]?=some (some (.ref l))/\H l=some (.lst us)/\g.Lo l/\aJ K g H us xs/\∀us',aJ K g H us' ys->SInv K aj σ (upd H l (.lst us')) g (Z.set j (some (.mut ys))) M:=by
 obtain⟨l,us,h1,h2,h3,h4⟩:=I.own j xs hj;refine⟨l,us,h1,h2,h3,h4,λus' r=>?_⟩;have gr:Gr true g g H (upd H l (.lst us')):=Gr.upd I.kd h2 (.inr h3);refine⟨I.kd.upd trivial,I.wok.loc I.kd h2 h3,by rw[aqD];exact I.len,λi d h=>?_,λi zs h=>?_,λi k zs ws a ne e1 e2 e3 e4=>?_⟩
 ·rcases bH h with⟨_,h,_⟩|⟨ne,h⟩
  ·cases h
  ·obtain⟨v,e1,e2⟩:=I.dat i d h;exact⟨v,e1,e2.gr gr I.kd⟩
 ·rcases bH h with⟨rfl,h,_⟩|⟨ne,h⟩
  ·cases h;exact⟨l,us',h1,upd_same,h3,r.gr gr I.kd⟩
  ·obtain⟨l',ws,e1,e2,e3,e4⟩:=I.own i zs h;have nl:l'≠l:=λz=>by
    subst z;exact I.sep i j zs xs l' (Ne.symm ne) h hj e1 h1
   exact⟨l',ws,e1,by rw[upd_ne nl];exact e2,e3,e4.gr gr I.kd⟩
 ·have k1:∃xs,Z[i]?=some (some (.mut xs)):=by
   rcases bH e1 with⟨rfl,_,_⟩|⟨_,h⟩
   ·exact⟨xs,hj⟩
   ·exact⟨zs,h⟩
  have k2:∃xs,Z[k]?=some (some (.mut xs)):=by
   rcases bH e2 with⟨rfl,_,_⟩|⟨_,h⟩
   ·exact⟨xs,hj⟩
   ·exact⟨ws,h⟩
  obtain⟨x1,k1⟩:=k1;obtain⟨x2,k2⟩:=k2;exact I.sep i k x1 x2 a ne k1 k2 e3 e4
end
section
variable{X:Cx}{aj:aQ}{W:WX}{q:Bool}{a b e:Expr}{pos:Pos}
def aU(f:QF):SF:=λM Z=>((f M (rE Z)).at M).then Z λd M'=>.ret d M'
def gW(f:GF):SF:=λM Z=>(f M Z).then Z λd M'=>.ret d M'
theorem akg{f:QF}(he:QE aj X W e f):SE aj X W q (.Return (some e) pos) (aU f):=by
 refine PS.weak (ps_ret he) λD σ H ⟨g,Z,M,I,z⟩=>?_;refine⟨g.fr,rE Z,M,I.rE,?_⟩;unfold aU at z;cases hf:f M (rE Z) with
 |ok d=>
  rw[hf]at z;exact λv H' e r=>z v H' g (Gr.ex e) (I.ex e).kd.fr (I.ex e).wok.fr r
 |exc x=>
  rw[hf]at z;exact λH' c dd e r=>z σ H' g c dd (Gr.ex e) (I.ex e) r
 |bad=>rw[hf]at z;exact arq z
theorem agT{f:GF}(he:GE aj X W q e f):SE aj X W q (.Return (some e) pos) (gW f):=by refine PS.weak (ps_ret he) λD σ H ⟨g,Z,M,I,z⟩=>?_;exact tE.go I (dD (σ:=σ) z) λd M' v H' g' k r I' rv=>k v H' g' r I'.kd.fr I'.wok.fr rv.fr
def bQ(t:QT)(f k:SF):SF:=λM Z=>((t M (rE Z)).at M).then Z λc M'=>if c=true then f M' Z else k M' Z
def aml(t:GT)(f k:SF):SF:=λM Z=>(t M Z).then Z λc M'=>if c=true then f M' Z else k M' Z
theorem alh{c:Expr}{s1 s2:List Stmt}{t:QT}{f k:SF}(hc:rH aj X W c t)(h1:Jf aj X W q s1 f)(h2:Jf aj X W q s2 k):SE aj X W q (.If c s1 s2 pos) (bQ t f k):=by
 refine PS.weak (ps_if hc h1 h2) λD σ H ⟨g,Z,M,I,z⟩=>?_;refine⟨g.fr,rE Z,M,I.rE,?_⟩;unfold bQ at z;cases hf:t M (rE Z) with
 |ok d=>
  rw[hf]at z;intro H' e;cases d with
  |true=>exact tS.go (I.ex e) (Gr.ex e) z
  |false=>exact tS.go (I.ex e) (Gr.ex e) z
 |exc x=>
  rw[hf]at z;exact λH' c dd e r=>z σ H' g c dd (Gr.ex e) (I.ex e) r
 |bad=>rw[hf]at z;exact arq z
def fB(tg:fM)(body:SF):List Dat->Mo->Env->uM
 |[],M,Z=>.next Z M
 |d::ds,M,Z=>match tg d Z with
  |none=>.bad
  |some Z1=>match body M Z1 with
   |.next Z2 M2=>fB tg body ds M2 Z2
   |.cont Z2 M2=>fB tg body ds M2 Z2
   |.brk Z2 M2=>.next Z2 M2
   |.ret d M2=>.ret d M2
   |.exc x Z2 M2=>.exc x Z2 M2
   |.bad=>.bad
def qm(it:IF)(tg:fM)(body:SF):SF:=λM Z=>((it M Z).at M).then Z λds M'=>fB tg body ds M' Z
theorem ajO{tg iter:Expr}{body:List Stmt}{it:IF}{js:List Nat}{tf:fM}{f:SF}(hp:PassesOwn (model X.prog X.w) X.A X.env X.xe)(hc:X.calm=true)(hi:QI aj X W true tg iter it)(hg:QG aj X tg js tf)(hb:Jf aj X W q body f)(hs:∀x,foldedSetIterable iter X.env x=pure x) :
  SE aj X W q (.For tg iter body [] pos) (qm it tf f):=by
 refine PS.weak (ps_for hp hc hi hg hb hs) λD σ H ⟨g,Z,M,I,z⟩=>?_;refine⟨g,Z,M,I,?_⟩;unfold qm at z;cases hf:it M Z with
 |exc x=>
  rw[hf]at z;exact λH' c dd e r=>z σ H' g c dd (Gr.ex e) (I.ex e) r.fr
 |bad=>rw[hf]at z;exact arq z
 |ok ds=>
  rw[hf]at z;intro J C H1 e1 w c1 firm;have firm:=firm rfl;have z:(fB tf f ds M Z).sat (sN X.K aj q D.nx g H) (sR X.K aj q D.rt g H) (sN X.K aj q D.bk g H) (sN X.K aj q D.ct g H) (sX X.K aj W q g H):=z
  let Pv:Nat->L2.St->Hp->Prop:=λi σi Hi=>i<=ds.length/\∃gi ρi Mi,Gr q g gi H Hi/\SInv X.K aj σi Hi gi ρi Mi/\C gi Hi/\(fB tf f (ds.drop i) Mi ρi).sat (sN X.K aj q D.nx g H) (sR X.K aj q D.rt g H) (sN X.K aj q D.bk g H) (sN X.K aj q D.ct g H) (sX X.K aj W q g H)
  refine⟨λi m σi Hi=>m=ds.length - i/\Pv i σi Hi,⟨ds.length,rfl,aqT _,g,Z,M,Gr.ex e1,I.ex e1,c1,by rw[aro];exact z⟩,?_⟩;rintro i m σi Hi ⟨rfl,hi,gi,ρi,Mi,ri,Ii,Ci,zi⟩;by_cases hlt:i < ds.length
  ·refine .inr ⟨w.go _ i Hi Ci hlt,Pv (i+1),λσ' H' p=>⟨ds.length - (i+1),by omega,rfl,p⟩,λx H' y=>?_⟩;have hd:ds[i]?=some ds[i]:=aqi hlt;obtain⟨e2,rx⟩:=w.yld _ i Hi x H' _ Ii.kd Ci hd y;rw[aq2 hlt,fB]at zi;split at zi
   ·exact arq zi
   ·next Z1 he=>
    have I2:=Ii.ex e2;refine⟨gi,ρi,Mi,_,Z1,I2,rx,he,λvs I3=>⟨gi,Z1,Mi,I3,?_⟩⟩;have r2:=ri.trans (Gr.ex e2);cases hb':f Mi Z1 with
    |next Z2 M2=>
     rw[hb']at zi;exact λσ' H2 g2 r I'=>⟨hlt,g2,Z2,M2,r2.trans r,I',firm q gi g2 H' H2 I2.kd (w.ex _ _ _ Ii.kd Ci e2) r,zi⟩
    |cont Z2 M2=>
     rw[hb']at zi;exact λσ' H2 g2 r I'=>⟨hlt,g2,Z2,M2,r2.trans r,I',firm q gi g2 H' H2 I2.kd (w.ex _ _ _ Ii.kd Ci e2) r,zi⟩
    |brk Z2 M2=>
     rw[hb']at zi;exact sN.gr r2 zi
    |ret d M2=>
     rw[hb']at zi;exact sR.gr r2 zi
    |exc x Z2 M2=>
     rw[hb']at zi;exact sX.gr r2 zi
    |bad=>rw[hb']at zi;exact arq zi
  ·have e:i=ds.length:=by omega
   refine .inl ⟨w.stop _ i Hi Ci e,?_⟩;rw[e,aq6]at zi;exact zi σi Hi gi ri Ii
def yQ(j:Nat)(f:QF):SF:=λM Z=>match Z[j]? with
 |some (some (.dat (.int i)))=>((f M Z).at M).then Z λd M'=>match d with
  |.int k=>.next (Z.set j (some (.dat (.int (i+k))))) M'
  |_=>.bad
 |_=>.bad
theorem ahX{j:Nat}{x:Str}{f:QF}{pos':Pos}(hN:X.N.Nodup)(hi:X.N[j]?=some x)(hx:Loc X.env.scope x)(hf:X.fn x=true∨X.env.scope.names.lookup x=some .local)(he:QE aj X W e f):SE aj X W q (.AugAssign (.Name x pos') .Add e pos) (yQ j f):=by
 refine PS.weak (ps_aug hN hi hx he ip_add hf) λD σ H ⟨g,Z,M,I,z⟩=>?_;unfold yQ at z;split at z
 ·next i hj=>
  obtain⟨v,h1,h2⟩:=I.dat j _ hj;cases h2;refine⟨.int i,h1,⟨g,Z,M,I,?_⟩⟩;cases hf':f M Z with
  |exc x=>rw[hf']at z;exact λH' c dd e r=>z σ H' g c dd (Gr.ex e) (I.ex e) r.fr
  |bad=>rw[hf']at z;exact arq z
  |ok d=>
   rw[hf']at z;intro u H' e r;cases d with
   |int k=>
    cases r;exact⟨i,k,rfl,rfl,z _ H' g (Gr.ex e) ((I.ex e).set (.int _))⟩
   |_=>exact arq z
 ·exact arq z
def FE(aj:aQ)(X:Cx)(W:WX)(e:Expr)(f:IF):Prop:=PE X e (tFr X.K aj W f)
def Ag(j:Nat)(f:IF):SF:=λM Z=>((f M Z).at M).then Z λxs M'=>.next (Z.set j (some (.mut xs))) M'
theorem ab4{j:Nat}{f:IF}(D:Ends)(σ:L2.St)(H:Hp)(h:tS X.K aj W q (Ag j f) D σ H):tAsg (tFr X.K aj W f) (gName j) D σ H:=by
 obtain⟨g,Z,M,I,z⟩:=h;refine⟨g,Z,M,I,?_⟩;unfold Ag at z;cases hf:f M Z with
 |exc x=>rw[hf]at z;exact λH' c dd e r=>z σ H' g c dd (Gr.ex e) (I.ex e) r.fr
 |bad=>rw[hf]at z;exact arq z
 |ok xs=>
  rw[hf]at z;intro l us H' n e hl r;have gr:Gr true g (g.add l) H H':=Gh.Fl n e;refine z _ H' (g.add l) ?_ (I.ah6 n e hl r);cases q with
  |true=>exact gr
  |false=>exact gr.loud
theorem adl{j:Nat}{x:Str}{f:IF}{pos':Pos}(hN:X.N.Nodup)(hi:X.N[j]?=some x)(hx:Loc X.env.scope x)(hf:X.fn x=true∨X.env.scope.names.lookup x=some .local)(he:FE aj X W e f)(hs:swapsWith e (some (.Name x pos')) pos.line X.env=pure false):SE aj X W q (.Assign [.Name x pos'] e pos) (Ag j f):=
 PS.weak (ps_set hN hi hx he hs hf) λD σ H h=>ab4 D σ H h
def Kh(f:QA):IF:=λM Z=>(f M Z).bind λxs=>Out.when (decide (xs.length<=100000)) (.ok xs)
theorem aeO{K:aqe}{g:Gh}{H:Hp}{l:Addr}{vs:List V}{ds:List Dat}(k:Kd g H)(n:H l=none)(r:aJ K g H vs ds){o:HO}:aJ K (g.add l) (upd H l o) vs ds:=r.gr (Gh.Fl n (Ex.new n)) k
theorem aiR{es:List Expr}{fr:QA}(h:Fe aj X W es fr):FE aj X W (.List es pos) (Kh fr):=
 PE.weak (pe_lst h) λσ H Q ⟨g,Z,M,I,h⟩=>by
  refine M6.go I h.bnd λds vs H1 h1 e1 r1=>?_;obtain⟨hz,h1⟩:=h1.pP;have hl:vs.length<=100000:=by rw[r1.length];exact aru hz
  exact⟨sz_of hl,λp np=>h1 p vs _ (Cq e1 p np) (e1.trans (Ex.new np)) upd_same (aeO (I.kd.ex e1) np r1)⟩
def WQ:Dat->Out (List Dat)
 |.list ds=>.ok ds
 |.tuple ds=>.ok ds
 |_=>.bad
def aej(f:QF):IF:=λM Z=>(f M Z).bind WQ
def baseOk:Expr->Bool
 |.Call (.Name _ _) _ _ _=>false
 |_=>true
theorem lO{o:Expr}{m:Str}{env:PySem.Env}{w:Sem Value}(h:baseOk o=true):attributeBase o m env w=w:=by
 cases o with
 | Call f as ks p=>cases f<;>first | rfl | cases h
 |_=>rfl
theorem Yd{env:PySem.Env}{pos:Pos}:∀(es:List Expr),es.all nst=true->(backTo pos (starEach es env)).all (λx=>!x.1)=true
 |[],_=>by with_unfolding_all rfl
 |a::es,h=>by
  rw[aqS,aqf]at h;rw[cO h.1];have ih:=Yd (env:=env) (pos:=pos) es h.2;unfold backTo at ih ⊢;rw[aqh,aqS,ih];rfl
theorem few{env:PySem.Env}{pos:Pos}{es:List Expr}(h:es.all nst=true)(hl:es.length < 30):((backTo pos (starEach es env)).all (λx=>!x.1)&&(backToKw pos (keywordEach [] env)).all (λx=>x.1.isSome)&&decide (es.length+([]:List Keyword).length+(if ([]:List Keyword).isEmpty then 0 else 1) < 30))=true:=by
 rw[Yd es h];have:(backToKw pos (keywordEach [] env)).all (λx=>x.1.isSome)=true:=by with_unfolding_all rfl
 rw[this];simpa using hl
def Ao(j:Nat)(f:QF):SF:=λM Z=>match Z[j]? with
 |some (some (.mut xs))=>((f M Z).at M).then Z λd M'=>if xs.length < 100000 then .next (Z.set j (some (.mut (xs++[d])))) M' else .bad
 |_=>.bad
theorem aiV{j:Nat}{x:Str}{f:QF}{p apos:Pos}{epos:Pos}(hN:X.N[j]?=some x)(hv:Vis X.env.scope x)(hd:(x==("__debug__" : Str))=false)(hcd:(x==("__classdict__" : Str))=false)(he:QE aj X W e f)(hs:nst e=true)
  (hl:(apos.endLine==pos.line)=true):SE aj X W q (.Expr (.Call (.Attribute (.Name x p) "append" apos) [e] [] pos) epos) (Ao j f):=by
 have h0:=pe_var (X:=X) (pos:=p) hN hv hd hcd;have h1:=pa_cons he pa_nil (cO hs []);have key:=pe_bm (X:=X) (cpos:=pos) (apos:=apos) PySem.F.plainAttrs_list PySem.F.slot_list_append PySem.F.type_list_append mt_append h0 h1 (lO rfl) (few (by simp[hs]) (by simp)) hl (cO hs []) (by with_unfolding_all rfl);refine PS.weak (ps_expr key (by with_unfolding_all rfl)) λD σ H ⟨g,Z,M,I,z⟩=>?_;unfold Ao at z;split at z
 ·next xs hj=>
  obtain⟨l,us,e1,e2,e3,e4⟩:=I.own j xs hj;refine⟨.ref l,e1,.inl ⟨rfl,us,sq_of e2⟩,⟨g,Z,M,I,?_⟩⟩;cases hf:f M Z with
  |exc x=>rw[hf]at z;exact λH' c dd e r=>z σ H' g c dd (Gr.ex e) (I.ex e) r.fr
  |bad=>rw[hf]at z;exact arq z
  |ok d=>
   rw[hf]at z;intro v H' e r;have z:(if xs.length < 100000 then uM.next (Z.set j (some (.mut (xs++[d])))) M else .bad).sat (sN X.K aj q D.nx g H) (sR X.K aj q D.rt g H) (sN X.K aj q D.bk g H) (sN X.K aj q D.ct g H) (sX X.K aj W q g H):=z;split at z
   ·next hlen=>
    have I1:=I.ex e;obtain⟨l',us',f1,f2,f3,f4,f5⟩:=I1.change (ys:=xs++[d]) hj;rw[e1]at f1;cases f1;rw[e _ _ e2]at f2;cases f2;refine⟨l,us,v,rfl,rfl,e _ _ e2,sz_lt (by rw[e4.length];exact hlen),?_⟩;exact z _ _ g ((Gr.ex e).trans (Gr.upd I1.kd (e _ _ e2) (.inr f3))) (f5 _ (f4.append (.cons r .nil)))
   ·exact arq z
 ·exact arq z
def alb(j:Nat)(fi f:QF):SF:=λM Z=>match Z[j]? with
 |some (some (.mut xs))=>((f M Z).at M).then Z λd M'=>((fi M' Z).at M').then Z λi M2=>match i with
  |.int k=>match ixN xs.length k with
   |some n=>.next (Z.set j (some (.mut (xs.set n d)))) M2
   |none=>.bad
  |_=>.bad
 |_=>.bad
end
structure Gc(g g':Gh)(H H':Hp):Prop where
 keep:∀a o,H a=some o->¬g.W a->H' a=some o
 dom:∀a,H' a=none->H a=none
 tbl:∃more,g'.tbl=g.tbl++more
 W:∀a,g.W a->g'.W a
 nW:∀a,g'.W a->g.W a∨H a=none
 Lc:g'.Lc=g.Lc
 Lo:g'.Lo=g.Lo
def Vt(K:aqe)(aj:aQ)(n:Nat)(m:Mo->List Dat->Out Dat):Sp:=λvs H Q E=>vs.length=n/\∃g M ds,Kd g H/\fU K aj g H M/\aJ K g H vs ds/\
 (m M ds).sat (λd=>∀v H',Ex H H'->Rep K g H' v d->Q v H') λx=>∀H' c dd,Ex H H'->pU K aj g H' x c dd->E c dd H'
def Jc(K:aqe)(aj:aQ)(n:Nat)(m:Mo->List Dat->bB Dat):Sp:=λvs H Q E=>vs.length=n/\∃g M ds,Kd g H/\fU K aj g H M/\aJ K g H vs ds/\
 (m M ds).sat (λd M'=>∀v H' g',Gc g g' H H'->Kd g' H'->fU K aj g' H' M'->Rep K g' H' v d->Q v H') λx M'=>∀H' g' c dd,Gc g g' H H'->Kd g' H'->fU K aj g' H' M'->pU K aj g' H' x c dd->E c dd H'
section
variable{K:aqe}{aj:aQ}{W:WX}{g g':Gh}{H H':Hp}{σ:L2.St}{Z:Env}{M M':Mo}
theorem Gc.gr(r:Gc g g' H H'):Gr false g g' H H':=⟨λa o h n _=>r.keep a o h n,(λz=>nomatch z),r.dom,r.tbl,r.W,r.nW,(λz=>nomatch z),r.Lc,λa h=>by rw[r.Lo];exact h,λa h=>by rw[r.Lo]at h;exact .inl h⟩
theorem SInv.call(r:Gc g g' H H')(k':Kd g' H')(w':fU K aj g' H' M')(I:SInv K aj σ H g Z M):SInv K aj σ H' g' Z M' where
 kd:=k'
 wok:=w'
 len:=I.len
 dat:=λi d h=>by
  obtain⟨v,h1,h2⟩:=I.dat i d h;exact⟨v,h1,h2.gr r.gr I.kd⟩
 own:=λi xs h=>by
  obtain⟨l,us,h1,h2,h3,h4⟩:=I.own i xs h;exact⟨l,us,h1,r.keep _ _ h2 (I.kd.lo l h3),by rw[r.Lo];exact h3,h4.gr r.gr I.kd⟩
 sep:=I.sep
def Gh.in(g:Gh):Gh:={ g with Lc:=λa=>g.Lc a∨g.Lo a,Lo:=λ_=>False }
theorem Xu(g:Gh)(a:Addr):g.in.A a↔g.A a:=by
 constructor
 ·rintro(z|(z|z)|z)
  ·exact .inl z
  ·exact .inr (.inl z)
  ·exact .inr (.inr z)
  ·exact arq z
 ·rintro(z|z|z)
  ·exact .inl z
  ·exact .inr (.inl (.inl z))
  ·exact .inr (.inl (.inr z))
theorem Kd.in(k:Kd g H):Kd g.in H:=⟨λa z=>k.ob a ((Xu g a).mp z),λa z=>arq z,λa z=>⟨z.elim (λz=>(k.lc a z).1) (λz=>k.lo a z),λy=>y⟩⟩
def ini(n:Nat)(ds:List Dat):Env:=ds.map (λd=>some (.dat d))++List.replicate (n - ds.length) none
theorem aaF{N:List Str}{vs:List V}{ds:List Dat}(k:Kd g H)(w:fU K aj g H M)(r:aJ K g H vs ds):SInv K aj (start N vs) H g (ini N.length ds) M where
 kd:=k
 wok:=w
 len:=by unfold L2.start ini;rw[aqO,aqO,aqo,aqo,List.length_replicate,List.length_replicate,r.length]
 dat:=λi d h=>by
  unfold ini at h;unfold L2.start;by_cases hi:i < ds.length
  ·rw[aqr (by rw[aqo];exact hi),aqs]at h;cases hd:ds[i]? with
   |none=>rw[hd]at h;cases h
   |some d'=>
    rw[hd]at h;cases h;obtain⟨v,h1,h2⟩:=r.get hd;refine⟨v,?_,h2⟩;rw[aqr (by rw[aqo,r.length];exact hi),aqs,h1];rfl
  ·rw[aqy (by rw[aqo];omega)]at h;rw[List.getElem?_replicate]at h;split at h<;>cases h
 own:=λi xs h=>by
  unfold ini at h;by_cases hi:i < ds.length
  ·rw[aqr (by rw[aqo];exact hi),aqs]at h;cases hd:ds[i]? with
   |none=>rw[hd]at h;cases h
   |some d'=>rw[hd]at h;cases h
  ·rw[aqy (by rw[aqo];omega)]at h;rw[List.getElem?_replicate]at h;split at h<;>cases h
 sep:=λi j xs ys l ne h=>by
  unfold ini at h;by_cases hi:i < ds.length
  ·rw[aqr (by rw[aqo];exact hi),aqs]at h;cases hd:ds[i]? with
   |none=>rw[hd]at h;cases h
   |some d'=>rw[hd]at h;cases h
  ·rw[aqy (by rw[aqo];omega)]at h;rw[List.getElem?_replicate]at h;split at h<;>cases h
end
def mQ(n:Nat)(body:SF):Mo->List Dat->Out Dat:=λM ds=>match body M (ini n ds) with
 |.ret d _=>.ok d
 |.next _ _=>.ok .none
 |.exc x _ _=>.exc x
 |_=>.bad
def mG(n:Nat)(body:SF):Mo->List Dat->bB Dat:=λM ds=>match body M (ini n ds) with
 |.ret d M'=>.ok d M'
 |.next _ M'=>.ok .none M'
 |.exc x _ M'=>.exc x M'
 |_=>.bad
section
variable{P:Program}{w:World}{K:aqe}{mg:Str->Option Value}{base:Heap}{aj:aQ}
def aeZ(E:XK):WX:=λc d _ H=>E c d H
theorem Rep.same{g g':Gh}{H:Hp}{v:V}{d:Dat}(e:g'.tbl=g.tbl)(n:∀a,g'.A a↔g.A a)(h:Rep K g H v d):Rep K g' H v d:=h.less e λa z=>(n a).mp z
theorem abQ{g g':Gh}{H H':Hp}(r:Gr true g.in g' H H'):Ex H H':=λa o h=>by
 by_cases w:g.W a
 ·exact r.keepW rfl a o h w
 ·exact r.keep a o h w λz=>z
theorem aj7{q:Bool}{g g':Gh}{H H':Hp}(r:Gr q g.in g' H H')(a:Addr):g'.fr.A a↔(g'.W a∨g.Lc a∨g.Lo a):=by
 have hl:g'.Lc=g.in.Lc:=r.Lc;constructor
 ·rintro(z|z|z)
  ·exact .inl z
  ·have z:g'.Lc a:=z;rw[hl]at z;exact .inr z
  ·exact arq z
 ·rintro(z|z)
  ·exact .inl z
  ·refine .inr (.inl ?_);show g'.Lc a;rw[hl];exact z
theorem amj{x qual:Str}{st:Stmt}{f:Addr}{fd:FuncData}{N ps:List Str}{k:Nat}{body:SF}(F:Fun K x qual st f fd)(S:FnScope N ps (defScope st))
  (hb:∀(cdv:Value) (A:Around) (outer:List PySem.Env) (s:Shared) (H:Hp) (E:XK),Room k (A.deeper (envOfC qual (defScope st) s.heap.objs.size f cdv))->Jf aj (cxOf (L2.CX P w) P w K mg base N qual (defScope st) f cdv A outer s H E) (aeZ E) true (defBody st) body) :
  FnOk P w K mg base (L2.CX P w) (k+1) f fd ps (Vt K aj ps.length (mQ N.length body)):=by
 refine F.okX S (λvs H Q E h=>h.1) (λcdv A outer s H vs Q E hr h=>⟨_,hb cdv A outer s H E hr,?_⟩);obtain⟨hl,g,M,ds,kd,wk,rs,h⟩:=h;have wk':fU K aj g.in H M:=fU.less (g:=g) (g':=g.in) rfl rfl (λa z=>(Xu g a).mp z) wk;refine⟨g.in,ini N.length ds,M,aaF kd.in wk' (aJ.less (g:=g) (g':=g.in) rfl (λa z=>(Xu g a).mp z) rs),?_⟩;have back:∀{g':Gh} {H':Hp},Gr true g.in g' H H'->∀a,g.A a↔g'.fr.A a:=λ{g' H'} r a=>by
  rw[aj7 r a];have e:=(r.qg rfl);have ew:g'.W a↔g.W a:=by unfold Gh.W;rw[e.1,e.2];rfl
  unfold Gh.A;rw[ew]
 unfold mQ at h;cases hf:body M (ini N.length ds) with
 |next Z' M'=>
  rw[hf]at h;exact λσ' H' g' r I'=>h _ H' (abQ r) .non
 |ret d M'=>
  rw[hf]at h;exact λv H' g' r k' w' rv=>h v H' (abQ r) (Rep.same (g:=g'.fr) (g':=g) (r.qg rfl).1.symm (back r) rv)
 |exc x Z' M'=>
  rw[hf]at h;exact λσ' H' g' c dd r I' rx=>h H' c dd (abQ r) (pU.less (g:=g'.fr) (g':=g) (r.qg rfl).1.symm (λa z=>(back r a).mp z) rx)
 |brk Z' M'=>rw[hf]at h;exact arq h
 |cont Z' M'=>rw[hf]at h;exact arq h
 |bad=>rw[hf]at h;exact arq h
theorem amR{x qual:Str}{st:Stmt}{f:Addr}{fd:FuncData}{N ps:List Str}{k:Nat}{body:SF}(F:Fun K x qual st f fd)(S:FnScope N ps (defScope st))
  (hb:∀(cdv:Value) (A:Around) (outer:List PySem.Env) (s:Shared) (H:Hp) (E:XK),Room k (A.deeper (envOfC qual (defScope st) s.heap.objs.size f cdv))->Jf aj (cxOf (L2.CX P w) P w K mg base N qual (defScope st) f cdv A outer s H E) (aeZ E) false (defBody st) body) :
  FnOk P w K mg base (L2.CX P w) (k+1) f fd ps (Jc K aj ps.length (mG N.length body)):=by
 refine F.okX S (λvs H Q E h=>h.1) (λcdv A outer s H vs Q E hr h=>⟨_,hb cdv A outer s H E hr,?_⟩);obtain⟨hl,g,M,ds,kd,wk,rs,h⟩:=h;have wk':fU K aj g.in H M:=fU.less (g:=g) (g':=g.in) rfl rfl (λa z=>(Xu g a).mp z) wk;refine⟨g.in,ini N.length ds,M,aaF kd.in wk' (aJ.less (g:=g) (g':=g.in) rfl (λa z=>(Xu g a).mp z) rs),?_⟩
 let gb:Gh->Gh:=λg'=>{ tbl:=g'.tbl,ow:=g'.ow,Lc:=g.Lc,Lo:=g.Lo }
 have gc:∀{g':Gh} {H':Hp},Gr false g.in g' H H'->Gc g (gb g') H H':=λ{g' H'} r=>⟨λa o h n=>r.keep a o h n λz=>z,r.dom,r.tbl,r.W,r.nW,rfl,rfl⟩;have eA:∀{g':Gh} {H':Hp},Gr false g.in g' H H'->∀a,(gb g').A a↔g'.fr.A a:=λ{g' H'} r a=>by
  rw[aj7 r a];exact Iff.rfl
 have kk:∀{g':Gh} {H':Hp},Gr false g.in g' H H'->Kd g'.fr H'->Kd (gb g') H':=λ{g' H'} r k'=>by
  have nw:∀a,(g.Lc a∨g.Lo a)->¬g'.W a:=λa z y=>by
   have:g'.fr.Lc a:=by show g'.Lc a;rw[show g'.Lc=g.in.Lc from r.Lc];exact z
   exact(k'.lc a this).1 y
  exact⟨λa z=>k'.ob a ((eA r a).mp z),λa z=>nw a (.inr z),λa z=>⟨nw a (.inl z),(kd.lc a z).2⟩⟩
 unfold mG at h;cases hf:body M (ini N.length ds) with
 |next Z' M'=>
  rw[hf]at h;exact λσ' H' g' r I'=>h _ H' (gb g') (gc r) (kk r I'.kd.fr) (fU.less (g:=g'.fr) (g':=gb g') rfl rfl (λa z=>(eA r a).mp z) I'.wok.fr) .non
 |ret d M'=>
  rw[hf]at h;exact λv H' g' r k' w' rv=>h v H' (gb g') (gc r) (kk r k') (fU.less (g:=g'.fr) (g':=gb g') rfl rfl (λa z=>(eA r a).mp z) w') (Rep.same (g:=g'.fr) (g':=gb g') rfl (eA r) rv)
 |exc x Z' M'=>
  rw[hf]at h;exact λσ' H' g' c dd r I' rx=>h H' (gb g') c dd (gc r) (kk r I'.kd.fr) (fU.less (g:=g'.fr) (g':=gb g') rfl rfl (λa z=>(eA r a).mp z) I'.wok.fr) (pU.less (g:=g'.fr) (g':=gb g') rfl (λa z=>(eA r a).mp z) rx)
 |brk Z' M'=>rw[hf]at h;exact arq h
 |cont Z' M'=>rw[hf]at h;exact arq h
 |bad=>rw[hf]at h;exact arq h
end
def aV(m:Mo->List Dat->Out Dat)(as:QA):QF:=λM Z=>(as M Z).bind λds=>m M ds
section
variable{X:Cx}{aj:aQ}{W:WX}{q:Bool}{a b e:Expr}{es:List Expr}{pos p:Pos}{x:Str}{k:Nat}{f:Addr}{fd:FuncData}{ps:List Str}
theorem agh{m:Mo->List Dat->Out Dat}{as:QA}(tk:Takes X W)(F:FnOk X.prog X.w X.K X.mg X.base (L2.CX X.prog X.w) k f fd ps (Vt X.K aj ps.length m))(hr:Room k X.A)(hg:Gl X x)(hm:X.mg x=some (.ref f))(hk:PySem.W.keepIn X.K (.ref f)=true)(hb:Binds X.K fd ps [])
  (ha:Fe aj X W (e::es) as) (hl:(e::es).length=ps.length) (hd:(x==("__debug__" : Str))=false) (hs:(e::es).all nst=true) (hn:∀M Z ds,as M Z=.ok ds->ds.length=(e::es).length):QE aj X W (.Call (.Name x p) (e::es) [] pos) (aV m as):=by
 have hs':=hs;rw[aqS,aqf]at hs';refine PE.weak (pe_callS (E:=λσ=>WE W σ) F hr hg hm hk hb (λσ=>passAt tk σ) ha hd (cO hs'.1 es) (star_any es hs'.2)) λσ H Q ⟨g,Z,M,I,h⟩=>?_;refine⟨g,Z,M,I,?_⟩;have h:=h.bnd;cases has:as M Z with
 |exc x=>rw[has]at h;exact h
 |bad=>rw[has]at h;exact h
 |ok ds=>
  rw[has]at h;have h:(m M ds).sat (λd=>∀v H',Ex H H'->Rep X.K g H' v d->Q v H') (qG X.K aj W g H σ):=h;intro vs H1 e1 r1;refine⟨by rw[r1.length,hn M Z ds has];exact hl,g,M,ds,I.kd.ex e1,I.wok.ex e1 I.kd,r1,h.mono (λd k v H' e' r'=>k v H' (e1.trans e') r') λx k H' c dd e' r'=>k H' c dd (e1.trans e') r'⟩
end
theorem afq{n:Nat}(h:n<=16001):n<=sizeLine:=aqE h (by decide)
theorem alC{prog:Program}{w:World}{A:Around}{E:Value->Shared->Prop}{s:Shared}{l:Addr}{v0:Value}{vs:List Value}{Q:List Value->Shared->Prop}(hh:A.handled=none)(hl:s.heap.IsList l (v0::vs).toArray∨IsTup s.heap l (v0::vs).toArray)(hz:vs.length<=16000)
  (h:∀(h₂:Heap) (tk:Nat),(∀b o,s.heap.get? b=some o->h₂.get? b=some o)->Q [v0,.ref h₂.objs.size] { s with heap:=h₂.push { cls:=.type "list",data:=.seq vs.toArray },toks:=tk }):wpAny (model prog w) A (unpackItems (.ref l) 2 (some 1)) Q E s:=by
 have hll:l < s.heap.objs.size:=by rcases hl with⟨o,ho,_⟩|⟨o,ho,_⟩<;>exact Heap.lt_size ho
 have hlt:l≠s.heap.objs.size:=aqL hll;have hsz:(v0::vs).toArray.size=vs.length+1:=by simp
 have hb:(v0::vs).toArray.size<=sizeLine:=afq (by rw[hsz];omega);have hd:(v0::vs).toArray.toList.drop 1=vs:=by simp
 have ht:((v0::vs).toArray.toList.drop 0).take 1=[v0]:=by simp
 have fin:∀(h₂:Heap) (tk:Nat),(∀b o,b≠s.heap.objs.size->s.heap.get? b=some o->h₂.get? b=some o)->wpAny (model prog w) A (newList vs >>= λd=>pure ([v0]++[d]++[])) Q E { s with heap:=h₂,toks:=tk }:=λh₂ tk k=>by
  refine wpAny_bind (wpAny_newObj_type (wpAny_pure ?_) (afq (by simp;omega)));exact h h₂ tk λb o e=>k b o (aqL (Heap.lt_size e)) e
 unfold unpackItems;refine wpAny_bind ?_;unfold notIterableAtAll;rcases hl with hl|hl
 ·refine wpAny_bind (wpAny_specialOf hl.typeIs slot_list_iter.lookup (wpAny_pure ?_));simp only[aqI,if_false];refine wpAny_bind (wpAny_holding (wpAny_pyIter_list hl ?_));refine wpAny_bind (wpAny_holding (PySem.W.kun_draw hlt 1 0 _ _ ⟨_,Heap.get?_push_size _ rfl,rfl,rfl⟩ (hl.push _) (by rw[hsz];omega) λh₁ i1 b1=>?_));have hl₁:=(hl.push _).extBut b1.extBut hlt;obtain⟨oi,hoi,_⟩:=id i1;obtain⟨ol,hol,_⟩:=id hl₁;rw[ht];refine wpAny_bind (wpAny_holding (PySem.W.kun_collect (s:={ s with heap:=h₁ }) (T:="list_iterator") (.inr (.inr (.inl rfl))) (Walks.list (A:=A.in1) hh s.heap.objs.size l hlt (v0::vs).toArray) (λj u st=>st.1.typeIs) (k:=1) (by rw[hsz];omega) ⟨i1,hl₁⟩ (Heap.lt_size hoi) (Heap.lt_size hol) (λh₂ tk hk=>?_) hb))
  rw[hd];show wpAny _ _ (if vs.length < 0 then _ else newList (vs.take (vs.length - 0)) >>= λd=>pure ([v0]++[d]++vs.drop (vs.length - 0))) _ _ _;rw[if_neg (Nat.not_lt_zero _),Nat.sub_zero,List.take_length,aq6];exact fin h₂ tk λb o ne e=>hk b o ne (b1.extBut b o ne (Heap.get?_push_of_some _ e))
 ·refine wpAny_bind (wpAny_specialOf hl.typeIs slot_tuple_iter.lookup (wpAny_pure ?_));simp only[aqI,if_false];refine wpAny_bind (wpAny_holding (iter_tuple hl ?_));refine wpAny_bind (wpAny_holding (draw_tuple hlt 1 0 _ _ ⟨_,Heap.get?_push_size _ rfl,rfl,rfl⟩ (hl.push _) (by rw[hsz];omega) λh₁ i1 b1=>?_));have hl₁:IsTup h₁ l (v0::vs).toArray:=(hl.push _).extBut b1.extBut hlt;obtain⟨oi,hoi,_⟩:=id i1;obtain⟨ol,hol,_⟩:=id hl₁;rw[ht];refine wpAny_bind (wpAny_holding (PySem.W.kun_collect (s:={ s with heap:=h₁ }) (T:="tuple_iterator") (.inr (.inr (.inr rfl))) (Walks.tuple (A:=A.in1) hh s.heap.objs.size l hlt (v0::vs).toArray) (λj u st=>st.1.typeIs) (k:=1) (by rw[hsz];omega) ⟨i1,hl₁⟩ (Heap.lt_size hoi) (Heap.lt_size hol) (λh₂ tk hk=>?_) hb))
  rw[hd];show wpAny _ _ (if vs.length < 0 then _ else newList (vs.take (vs.length - 0)) >>= λd=>pure ([v0]++[d]++vs.drop (vs.length - 0))) _ _ _;rw[if_neg (Nat.not_lt_zero _),Nat.sub_zero,List.take_length,aq6];exact fin h₂ tk λb o ne e=>hk b o ne (b1.extBut b o ne (Heap.get?_push_of_some _ e))
def afK(K:aqe)(i j:Nat):TG:=λv σ H Q=>∃a v0 us,v=.ref a/\(SqL K H a (v0::us)∨SqT K H a (v0::us))/\us.length<=16000/\∀D,H D=none->Q ((σ.set i (some v0)).set j (some (.ref D))) (upd H D (.lst us))
def T7(X:Cx)(j:Nat)(x:Str):Prop:=X.N[j]?=some x/\Loc X.env.scope x/\(X.fn x=true∨X.env.scope.names.lookup x=some .local)
theorem agP{X:Cx}{i j k:Nat}{x y:Str}{px py ps pos:Pos}(hc:X.calm=true)(hN:X.N.Nodup)(hx:T7 X i x)(hy:T7 X j y):PG X (.Tuple [.Name x px,.Starred (.Name y py) ps] k pos) (afK X.K i j):=by
 refine⟨λpins s σ H v u Q I r h=>?_⟩;obtain⟨a,v0,us,rfl,hq,hz,q⟩:=h;cases r;have e1:assign (.Tuple [.Name x px,.Starred (.Name y py) ps] k pos) X.env (.ref a)=(do standAt pos;unpack (.ref a) (assignEach [.Name x px,.Starred (.Name y py) ps] X.env)):=by with_unfolding_all rfl
 have e2:assignEach [.Name x px,.Starred (.Name y py) ps] X.env=[(false,assign (.Name x px) X.env),(true,assign (.Name y py) X.env)]:=by with_unfolding_all rfl
 rw[e1,e2];refine wpAny_bind (wpAny_standAt ?_);unfold unpack;obtain⟨w0,ws,hlw,rv0,rvs⟩:∃w0 ws,(s.heap.IsList a (w0::ws).toArray∨IsTup s.heap a (w0::ws).toArray)/\RelV v0 w0/\Vals us ws:=by
  rcases hq with hq|hq
  ·obtain⟨its,rv,p,_⟩:=I.list hq;cases rv with
   |cons r t=>exact⟨_,_,.inl p.isList,r,t⟩
  ·obtain⟨its,rv,p,_⟩:=I.tuple hq;cases rv with
   |cons r t=>exact⟨_,_,.inr p,r,t⟩
 refine wpAny_bind (wpAny_holding (alC (I.ok.hd hc) hlw (by rw[←rvs.length];exact hz) λh₂ tk hk=>?_));have I2:L2.Inv X pins σ H { s with heap:=h₂,toks:=tk }:=I.kept (t':=tk) hk;have I3:=I2.lnew (t':=tk) rvs (afq (by omega));refine assignInOrder_cons (wpAny_assign_Name (store_ok I3 hN hx.1 hx.2.1 rv0 (λs4 I4=>?_) hx.2.2));refine assignInOrder_cons (wpAny_assign_Name (store_ok I4 hN hy.1 hy.2.1 (v:=.ref h₂.objs.size) rfl (λs5 I5=>assignInOrder_nil ?_) hy.2.2));exact⟨_,_,I5,q _ I2.fresh⟩
section
variable{X:Cx}{aj:aQ}{W:WX}{q:Bool}{e:Expr}{pos:Pos}
def WR(i j:Nat)(f:GF):SF:=λM Z=>(f M Z).then Z λd M'=>match d with
 |.list (d0::ds)=>if ds.length<=16000 then .next ((Z.set i (some (.dat d0))).set j (some (.dat (.list ds)))) M' else .bad
 |.tuple (d0::ds)=>if ds.length<=16000 then .next ((Z.set i (some (.dat d0))).set j (some (.dat (.list ds)))) M' else .bad
 |_=>.bad
theorem ahp{i j k:Nat}{x y:Str}{px py ps tp:Pos}{f:GF}(hc:X.calm=true)(hN:X.N.Nodup)(hx:T7 X i x)(hy:T7 X j y)(he:GE aj X W q e f)(hs:swapsWithSole [.Tuple [.Name x px,.Starred (.Name y py) ps] k tp] e pos.line X.env=pure false)(hw:swappedStores [.Tuple [.Name x px,.Starred (.Name y py) ps] k tp] e X.env=pure none) :
  SE aj X W q (.Assign [.Tuple [.Name x px,.Starred (.Name y py) ps] k tp] e pos) (WR i j f):=by
 refine PS.weak (ps_asg he (agP hc hN hx hy) hs hw (by with_unfolding_all rfl)) λD σ H ⟨g,Z,M,I,z⟩=>?_;refine tE.go I (dD (σ:=σ) z) λd M' v H' g' kk r I' rv=>?_;have fin:∀{a:Addr} {v0:V} {us:List V} {d0:Dat} {ds:List Dat},v=.ref a->(SqL X.K H' a (v0::us)∨SqT X.K H' a (v0::us))->Rep X.K g' H' v0 d0->aJ X.K g' H' us ds->(if ds.length<=16000 then uM.next ((Z.set i (some (.dat d0))).set j (some (.dat (.list ds)))) M' else .bad).sat (sN X.K aj q D.nx g H) (sR X.K aj q D.rt g H) (sN X.K aj q D.bk g H) (sN X.K aj q D.ct g H) (sX X.K aj W q g H)->afK X.K i j v σ H' D.nx:=λ{a v0 us d0 ds} ev hq r0 rs kk=>by
  split at kk
  ·next hz=>
   refine⟨a,v0,us,ev,hq,by rw[rs.length];exact hz,λp np=>?_⟩;have e1:=Ex.new (o:=.lst us) np;have I2:=I'.ex e1;refine kk _ _ g' (r.trans (Gr.ex e1)) ((I2.set (r0.ex e1 I'.kd)).set (.lst (.inl ⟨.inl upd_same,I'.kd.fresh np⟩) (rs.ex e1 I'.kd)))
  ·exact arq kk
 split at kk
 ·obtain⟨a,us,ev,s1,t1⟩:=jf rv.weak;cases t1 with
  |cons r0 rs=>exact fin ev (.inl s1) r0 rs kk
 ·obtain⟨a,us,ev,s1,t1⟩:=lB rv.weak;cases t1 with
  |cons r0 rs=>exact fin ev (.inr s1) r0 rs kk
 ·exact arq kk
def Pb(i j:Nat)(f:GF):SF:=λM Z=>(f M Z).then Z λd M'=>.next ((Z.set i (some (.dat d))).set j (some (.dat d))) M'
theorem ahB{i j:Nat}{x y:Str}{px py:Pos}{f:GF}(hN:X.N.Nodup)(hx:T7 X i x)(hy:T7 X j y)(he:GE aj X W q e f)(hw:swappedStores [.Name x px,.Name y py] e X.env=pure none):SE aj X W q (.Assign [.Name x px,.Name y py] e pos) (Pb i j f):=by refine PS.weak (ps_asg2 he (pg_name hN hx.1 hx.2.1 hx.2.2) (pg_name hN hy.1 hy.2.1 hy.2.2) (by with_unfolding_all rfl) hw) λD σ H ⟨g,Z,M,I,z⟩=>?_;exact tE.go I (dD (σ:=σ) z) λd M' v H' g' kk r I' rv=>kk _ H' g' r ((I'.set rv).set rv)
def sPN(js:List Nat)(as:QA):SF:=λM Z=>((as M Z).at M).then Z λds M'=>match ux js ds Z with
 |some Z'=>.next Z' M'
 |none=>.bad
theorem aiK{j:Nat}{y:Str}{py:Pos}{elt tg iter:Expr}{cpos:Pos}{scope:Scope}{own:List (Str×Nat)}{it:IF}{tgf:fM}{js:List Nat}{tt:QT}{te:QF}{ifs:List Expr}(hc:X.calm=true)(hN:X.N.Nodup)(hy:X.N[j]?=some y)(hyl:X.env.scope.names.lookup y=some .local)
  (hsw:swapsWith (.ListComp elt [⟨tg,iter,ifs,0⟩] scope cpos) (some (.Name y py)) pos.line X.env=pure true) (hi:QI aj X W false tg iter it) (ok:blkC X.N X.env.scope scope own=true) (hj:∀j∈js,j∈own.map (·.2))
  (hg:∀(s:Shared) (H:Hp) (C:Addr) (cl:List (Str×Addr)) (fp:List Addr),QG aj (X.blk s H scope (compEnvC scope cl C X.env) fp) tg js tgf)
  (ht:∀(s:Shared) (H:Hp) (C:Addr) (cl:List (Str×Addr)) (fp:List Addr),PTs (X.blk s H scope (compEnvC scope cl C X.env) fp) ifs (jW X.K aj WF tt))
  (he:∀(s:Shared) (H:Hp) (C:Addr) (cl:List (Str×Addr)) (fp:List Addr),QE aj (X.blk s H scope (compEnvC scope cl C X.env) fp) WF elt te) (hs:∀x,foldedSetIterable iter X.env x=pure x) :
  SE aj X W q (.Assign [.Name y py] (.ListComp elt [⟨tg,iter,ifs,0⟩] scope cpos) pos) (bh (aF j) (gOf (eE it tgf (own.map (·.2)) tt te))):=by
 refine PS.weak (ps_setLc (g:=zL X.K aj js tgf) (tt:=jW X.K aj WF tt) (te:=tQ X.K aj WF te) hc hN hy hyl hsw hi (blkOk_by ok) (λs H C cl fp=>hg s H C cl fp) ht (λs H C cl fp=>he s H C cl fp) hs) λD σ H ⟨g,Z,M,I,z⟩=>?_;refine afP hj σ H _ ⟨g,Z,M,I,(Out.jc (dD (σ:=σ) z)).mono (λd kk v H' e r=>?_) λx kk H' c dd e r=>kk H' g c dd (Gr.ex e) (I.ex e) r⟩;exact kk _ H' g (Gr.ex e) ((I.ex e).set r)
end
inductive GV where
 |con (d:Dat)
 |fq (n:Nat) (m:Mo->List Dat->Out Dat)
 |fg (n:Nat) (m:Mo->List Dat->bB Dat)
 |dic (kvs:List (Str×Dat))
 |exc
 |exi (fs:List Str)
 |cls (n:Nat) (m:Mo->List Dat->bB Dat)
inductive MV where
 |q (n:Nat) (m:Mo->List Dat->Out Dat)
 |g (n:Nat) (m:Mo->List Dat->bB Dat)
def FQ(P:Program)(w:World)(K:aqe)(mg:Str->Option Value)(base:Heap)(aj:aQ)(k:Nat)(f:Addr)(n:Nat)(m:Mo->List Dat->Out Dat):Prop:=
 ∃(fd:FuncData) (ps:List Str) (j:Nat),j<=k/\ps.length=n/\Binds K fd ps []/\FnOk P w K mg base (L2.CX P w) j f fd ps (Vt K aj ps.length m)
def FG(P:Program)(w:World)(K:aqe)(mg:Str->Option Value)(base:Heap)(aj:aQ)(k:Nat)(f:Addr)(n:Nat)(m:Mo->List Dat->bB Dat):Prop:=
 ∃(fd:FuncData) (ps:List Str) (j:Nat),j<=k/\ps.length=n/\Binds K fd ps []/\FnOk P w K mg base (L2.CX P w) j f fd ps (Jc K aj ps.length m)
def jk(K:aqe)(aj:aQ):Prop:=∀c C f,aj c=some C->f∈aj.fl c->Cls K C/\NoAttr K C f
def bY(P:Program)(w:World)(K:aqe)(mg:Str->Option Value)(base:Heap)(aj:aQ)(k:Nat)(c m:Str)(v:MV):Prop:=
 ∃C f,aj c=some C/\Cls K C/\Meth K C m f/\m∉aj.fl c/\match v with
  |.q n mm=>FQ P w K mg base aj k f n mm
  |.g n mm=>FG P w K mg base aj k f n mm
def afa(C:Addr)(fs:List Str):Sp:=λvs H Q _=>∃(a:Addr) (xs:List V),vs=.ref a::xs/\xs.length=fs.length/\H a=some (exo a C none)/\
 ∀(dx:Addr) (H':Hp),H dx=none->(∀b o,b≠a->H b=some o->H' b=some o)->(∀b,H' b=none->H b=none)->H' a=some (exo a C (some dx))->H' dx=some (exd dx (fs.zip xs).reverse)->Q .non H'
def aa9(w:World)(K:aqe)(a:Addr)(kvs:List (Str×Dat)):Prop:=∃(es:Array DictEntry) (n:Nat),KDict K w a es n/\(kvs.map (·.1)).Nodup/\
 ∀x:Str,match kvs.lookup x with
  |some d=>∃v u,PySem.W.nsIn K a x=some (some u)/\RelV v u/\∀g H,Rep K g H v d
  |none=>PySem.W.nsIn K a x=some none
def bx(P:Program)(w:World)(K:aqe)(mg:Str->Option Value)(base:Heap)(aj:aQ)(k:Nat)(x:Str):GV->Prop
 |.con d=>∃v u,mg x=some u/\RelV v u/\(∀g H,Rep K g H v d)/\∀a ds,v=.ref a->d=.tuple ds->∃o,K.lookup a=some o/\o.cls=.type "tuple"/\o.dict=none
 |.fq n m=>∃f,mg x=some (.ref f)/\PySem.W.keepIn K (.ref f)=true/\FQ P w K mg base aj k f n m
 |.fg n m=>∃f,mg x=some (.ref f)/\PySem.W.keepIn K (.ref f)=true/\FG P w K mg base aj k f n m
 |.dic kvs=>∃a,mg x=some (.ref a)/\aa9 w K a kvs
 |.exc=>∃C,mg x=some (.ref C)/\aj x=some C/\PySem.W.excIn K C He.veBase "ValueError.__new__"=true/\PySem.W.keepIn K (.ref C)=true/\PySem.W.subIn K (.ref C) (.type "BaseException")=some true/\PySem.W.typeIn K (.ref C)=some (.type "type")
 |.exi fs=>∃(C fI:Addr) (fd:FuncData) (ps:List Str),mg x=some (.ref C)/\aj x=some C/\OexC K C/\PySem.W.findIn K (.ref C) "__init__"=some (some (.ref fI))/\PySem.W.typeIn K (.ref fI)=some (.type "function")/\2<=k/\ps.length=fs.length+1/\Binds K fd ps []/\FnOk P w K mg base CX0 1 fI fd ps (afa C fs)
 |.cls n m=>∃(C f:Addr) (fd:FuncData) (ps:List Str) (j:Nat),mg x=some (.ref C)/\aj x=some C/\Cls K C/\Mk K C f/\j+1<=k/\ps.length=n+1/\Binds K fd ps []/\FnOk P w K mg base (L2.CX P w) j f fd ps (Jc K aj ps.length m)
def abl(K:aqe)(aj:aQ)(y:Str)(tk:Str->Option Bool):Prop:=∀x b C,tk x=some b->aj x=some C->∀D,aj y=some D->PySem.W.exmOne K (.ref C) (.ref D)=some b
def putL(f:Str)(x:iV):List (Str×iV)->List (Str×iV)
 |[]=>[(f,x)]
 |(g,y)::r=>if g=f then(g,x)::r else(g,y)::putL f x r
def Inst.put(i:Inst)(f:Str)(x:iV):Inst:=⟨i.cls,putL f x i.fs⟩
theorem Im(f:Str)(x:iV):∀gs:List (Str×iV),(putL f x gs).map (·.1)=if f∈gs.map (·.1) then gs.map (·.1) else gs.map (·.1)++[f]
 |[]=>by simp[putL]
 |(g,y)::r=>by
  have ih:=Im f x r;rw[putL];by_cases e:g=f
  ·subst e;simp
  ·rw[if_neg e,aqh,ih];by_cases h:f∈r.map (·.1)
   ·rw[if_pos h,if_pos (by simp[h])];rfl
   ·rw[if_neg h,if_neg (by
     rw[aqh,aqt]
     rintro(z|z)
     ·exact e z.symm
     ·exact h z)]
    rfl
theorem abN{f:Str}{x:iV}{gs:List (Str×iV)}(h:(gs.map (·.1)).Nodup):((putL f x gs).map (·.1)).Nodup:=by
 rw[Im];split
 ·exact h
 ·next n=>
  rw[aqW];refine⟨h,by simp,λa ha b hb e=>?_⟩;subst e;rw[aql]at hb;subst hb;exact n ha
theorem J9{f:Str}{v:V}:∀{fs:List (Str×V)},fs.lookup f=some v->putF f v fs=fs
 |[],h=>nomatch h
 |(g,y)::r,h=>by
  rw[aqG]at h;rw[show putF f v ((g,y)::r)=(if g=f then(g,v)::r else(g,y)::putF f v r) from rfl];by_cases e:g=f
  ·subst e;simp at h;rw[if_pos rfl,h]
  ·have ne:(f==g)=false:=by simpa using λz=>e z.symm
   rw[ne]at h;rw[if_neg e,J9 h]
section
variable{K:aqe}{aj:aQ}{W:WX}{g g':Gh}{H H':Hp}{σ:L2.St}{Z:Env}{M:Mo}{h:Nat}{f:Str}{v:V}{fl:iV}
theorem cM.put(hk:∀f' v' fl',f'≠f->dO K aj g H h f' v' fl'->dO K aj g' H' h f' v' fl')(new:dO K aj g' H' h f v fl):∀{fs:List (Str×V)} {gs:List (Str×iV)},cM K aj g H h fs gs->(gs.map (·.1)).Nodup->cM K aj g' H' h (putF f v fs) (putL f fl gs)
 |_,_,.nil,_=>.cons new .nil
 |_,_,.cons (f:=f') (v:=v') (fl:=fl') (fs:=fs) (gs:=gs) z t,nd=>by
  rw[show putF f v ((f',v')::fs)=(if f'=f then(f',v)::fs else(f',v')::putF f v fs) from rfl,putL];rw[aqh,ark]at nd;by_cases e:f'=f
  ·subst e;rw[if_pos rfl,if_pos rfl];refine .cons new ?_;have go:∀{fs:List (Str×V)} {gs:List (Str×iV)},cM K aj g H h fs gs->f'∉gs.map (·.1)->cM K aj g' H' h fs gs:=λ{fs gs} t=>by
    induction t with
    |nil=>exact λ_=>.nil
    |cons z _ ih=>
     intro n;rw[aqh,aqt,not_or]at n;exact .cons (hk _ _ _ (λq=>n.1 q.symm) z) (ih n.2)
   exact go t nd.1
  ·rw[if_neg e,if_neg e];exact .cons (hk _ _ _ e z) (cM.put hk new t nd.2)
structure Chg(M:Mo)(g g':Gh)(H H':Hp)(h:Nat)(f:Str):Prop where
 gc:Gc g g' H H'
 kd:Kd g' H'
 tbl:g'.tbl=g.tbl
 ow:∀a p,g.ow a=some p->g'.ow a=some p
 oth:∀a p,g.ow a=some p->p≠(h,f)->H' a=H a
 ins:∀(k:Nat) (a:Addr) (i:Inst),g.tbl[k]?=some a->M[k]?=some i->i.cls≠""->k≠h->H' a=H a
 nt:∀(k:Nat) (a:Addr) (i:Inst),g.tbl[k]?=some a->M[k]?=some i->i.cls≠""->∀p,g'.ow a≠some p
theorem ji.chg{l:Addr}(r:Gr false g g' H H')(k:Kd g H)(e:H' l=H l):∀{n:Bool} {kvs:List (Dat×Dat)},ji K aj g H l n kvs->ji K aj g' H' l n kvs
 |false,_,⟨kv,h1,h2,h3⟩=>⟨kv,e.trans h1,h2,h3.gr r k⟩
 |true,_,⟨o,xs,vs,h1,h2,h3,h4,h5,h6⟩=>⟨o,xs,vs,e.trans h1,h2,h3,h4.gr r k,h5,h6.gr r k⟩
theorem dO.chg(c:Chg M g g' H H' h f)(k:Kd g H){h':Nat}{f':Str}{v':V}(ne:(h',f')≠(h,f)):∀{fl':iV},dO K aj g H h' f' v' fl'->dO K aj g' H' h' f' v' fl'
 |.dat _,z=>Rep.gr c.gc.gr k z
 |.lst _ _,⟨l,us,h1,h2,h3,h4,h5⟩=>⟨l,us,h1,(c.oth l _ h3 ne).trans h2,c.ow l _ h3,h4.gr c.gc.gr k,c.gc.gr.tb h5⟩
 |.dic _ _,⟨l,h1,h2,h3⟩=>⟨l,h1,c.ow l _ h2,h3.chg c.gc.gr k (c.oth l _ h2 ne)⟩
theorem fU.chg(w:fU K aj g H M)(k:Kd g H)(c:Chg M g g' H H' h f){a:Addr}{i:Inst}(ha:g.tbl[h]?=some a)(hi:M[h]?=some i)(hne:i.cls≠"")(hf:f∈aj.fl i.cls){C dx:Addr}{fs:List (Str×V)}(hC:aj i.cls=some C)(R:cM K aj g H h fs i.fs)
  (e':H' a=some (.ins C dx (putF f v fs))) (new:dO K aj g' H' h f v fl):fU K aj g' H' (M.set h (i.put f fl)) where
 len:=by rw[c.tbl,aqD];exact w.len
 inj:=by rw[c.tbl];exact w.inj
 ins:=λh' a' i' ha' hi' hc'=>by
  rw[c.tbl]at ha';by_cases z:h'=h
  ·subst z;rw[ha]at ha';cases ha';rw[aqw (aqg.mp hi).1]at hi';cases hi';exact⟨C,dx,_,hC,e',R.put (λf' v' fl' ne z=>z.chg c k λq=>ne (congrArg Prod.snd q)) new (w.nd _ i hi)⟩
  ·rw[aqn (Ne.symm z)]at hi';obtain⟨C',dx',fs',c1,c2,c3⟩:=w.ins h' a' i' ha' hi' hc';refine⟨C',dx',fs',c1,(c.ins h' a' i' ha' hi' hc' z).trans c2,?_⟩;have go:∀{fs:List (Str×V)} {gs:List (Str×iV)},cM K aj g H h' fs gs->cM K aj g' H' h' fs gs:=λ{fs gs} t=>by
    induction t with
    |nil=>exact .nil
    |cons y _ ih=>exact .cons (y.chg c k λq=>z (congrArg Prod.fst q)) ih
   exact go c3
 nd:=λh' i' hi'=>by
  by_cases z:h'=h
  ·subst z;rw[aqw (aqg.mp hi).1]at hi';cases hi';exact abN (w.nd _ i hi)
  ·rw[aqn (Ne.symm z)]at hi';exact w.nd h' i' hi'
 fd:=λh' i' hi' f' hf'=>by
  by_cases z:h'=h
  ·subst z;rw[aqw (aqg.mp hi).1]at hi';cases hi';have hf':f'∈(putL f fl i.fs).map (·.1):=hf';rw[Im]at hf';split at hf'
   ·exact w.fd _ i hi f' hf'
   ·rcases aqq.mp hf' with y|y
    ·exact w.fd _ i hi f' y
    ·rw[aql]at y;rw[y];exact hf
  ·rw[aqn (Ne.symm z)]at hi';exact w.fd h' i' hi' f' hf'
 tw:=λk' a' i' ha' hi' hc'=>by
  rw[c.tbl]at ha';have:∃i0,M[k']?=some i0/\i0.cls≠"":=by
   by_cases z:k'=h
   ·subst z;exact⟨i,hi,hne⟩
   ·rw[aqn (Ne.symm z)]at hi';exact⟨i',hi',hc'⟩
  obtain⟨i0,m1,m2⟩:=this;cases hz:g'.ow a' with
  |none=>rfl
  |some p=>exact absurd hz (c.nt k' a' i0 ha' m1 m2 p)
 dm:=λh' i' hi' hc'=>by
  by_cases z:h'=h
  ·subst z;rw[aqw (aqg.mp hi).1]at hi';cases hi';exact absurd hc' hne
  ·rw[aqn (Ne.symm z)]at hi';exact w.dm h' i' hi' hc'
 nc:=w.nc
theorem akM{a:Addr}(ha:g.tbl[h]?=some a):g.W a:=.inl (aqm ha)
theorem T8(k:Kd g H)(w:fU K aj g H M){a:Addr}{i:Inst}(ha:g.tbl[h]?=some a)(hi:M[h]?=some i)(hc:i.cls≠""){C dx:Addr}{fs':List (Str×V)}:Chg M g g H (upd H a (.ins C dx fs')) h f where
 gc:=⟨λb o hb n=>by rw[upd_ne (λz=>by subst z;exact n (akM ha))];exact hb,λb hb=>by
  by_cases z:b=a
  ·subst z;rw[upd_same]at hb;cases hb
  ·rw[upd_ne z]at hb;exact hb,⟨[],by simp⟩,λ_ z=>z,λ_ z=>.inl z,rfl,rfl⟩
 kd:=k.upd trivial
 tbl:=rfl
 ow:=λ_ _ z=>z
 oth:=λb p hb _=>upd_ne λz=>by
  subst z;rw[w.tw h _ i ha hi hc]at hb;cases hb
 ins:=λj b i' hb _ _ ne=>upd_ne λz=>by
  subst z;exact ne (w.inj _ _ _ hb ha)
 nt:=λj b i' hb hj hcj p z=>by
  rw[w.tw j b i' hb hj hcj]at z;cases z
def Gh.own(g:Gh)(l:Addr)(h:Nat)(f:Str):Gh:={ g with ow:=λb=>if b=l then some (h,f) else g.ow b }
theorem alx{l a:Addr}(hl:l∈g.tbl):(g.own l h f).W a↔g.W a:=by
 constructor
 ·rintro(z|z)
  ·exact .inl z
  ·by_cases y:a=l
   ·subst y;exact .inl hl
   ·have z:(if a=l then some (h,f) else g.ow a)≠none:=z;rw[if_neg y]at z;exact .inr z
 ·rintro(z|z)
  ·exact .inl z
  ·refine .inr ?_
   show(if a=l then some (h,f) else g.ow a)≠none
   split
   ·exact λq=>nomatch q
   ·exact z
theorem Sh(k:Kd g H)(w:fU K aj g H M){a l:Addr}{n:Nat}{i:Inst}(ha:g.tbl[h]?=some a)(hi:M[h]?=some i)(hc:i.cls≠"")(hl:g.tbl[n]?=some l)(hn:M[n]?=some ⟨"",[]⟩)(nl:g.ow l=none){C dx:Addr}{fs':List (Str×V)}:Chg M g (g.own l h f) H (upd H a (.ins C dx fs')) h f:=by
 have W':∀{b:Addr},(g.own l h f).W b↔g.W b:=λ{b}=>alx (aqm hl);have d:=T8 (f:=f) (C:=C) (dx:=dx) (fs':=fs') k w ha hi hc;refine⟨⟨d.gc.keep,d.gc.dom,⟨[],by simp[Gh.own]⟩,λb z=>W'.mpr z,λb z=>.inl (W'.mp z),rfl,rfl⟩,⟨λb z=>d.kd.ob b ?_,λb z y=>d.kd.lo b z (W'.mp y),λb z=>⟨λy=>(d.kd.lc b z).1 (W'.mp y),(d.kd.lc b z).2⟩⟩,rfl,λb p z=>?_,d.oth,d.ins,λj b i' hb hj hcj p z=>?_⟩
 ·rcases z with z|z|z
  ·exact .inl (W'.mp z)
  ·exact .inr (.inl z)
  ·exact .inr (.inr z)
 ·show(if b=l then some (h,f) else g.ow b)=some p
  rw[if_neg (λy=>by subst y;rw[nl]at z;cases z)];exact z
 ·have z:(if b=l then some (h,f) else g.ow b)=some p:=z;by_cases y:b=l
  ·subst y;cases w.inj _ _ _ hb hl;rw[hn]at hj;cases hj;exact hcj rfl
  ·rw[if_neg y,w.tw j b i' hb hj hcj]at z;cases z
theorem acp(k:Kd g H)(w:fU K aj g H M){l:Addr}{o':HO}(ho:g.ow l=some (h,f))(mo:Ij o'):Chg M g g H (upd H l o') h f where
 gc:=⟨λb u hb n=>by rw[upd_ne (λz=>by subst z;exact n (.inr (by rw[ho];exact λy=>nomatch y)))];exact hb,λb hb=>by
  by_cases z:b=l
  ·subst z;rw[upd_same]at hb;cases hb
  ·rw[upd_ne z]at hb;exact hb,⟨[],by simp⟩,λ_ z=>z,λ_ z=>.inl z,rfl,rfl⟩
 kd:=k.upd mo
 tbl:=rfl
 ow:=λ_ _ z=>z
 oth:=λb p hb ne=>upd_ne λz=>by
  subst z;rw[ho]at hb;exact ne (aqC hb).symm
 ins:=λj b i' hb hj hcj ne=>upd_ne λz=>by
  subst z;rw[w.tw j _ i' hb hj hcj]at ho;cases ho
 nt:=λj b i' hb hj hcj p z=>by
  rw[w.tw j b i' hb hj hcj]at z;cases z
theorem cM.len{fs:List (Str×V)}{gs:List (Str×iV)}(t:cM K aj g H h fs gs):fs.length=gs.length:=by
 induction t with
 |nil=>rfl
 |cons _ _ ih=>simp[ih]
end
def Jq(M:Mo)(f:Str):Dat->Option iV
 |.dict [(.none,.int (.ofNat h))]=>(M[h]?).bind λi=>i.fs.lookup f
 |_=>none
def gD(f:Str)(o:QF):QF:=λM Z=>(o M Z).bind λd=>match Jq M f d with
 |some (.dat x)=>.ok x
 |_=>.bad
def bL(f:Str)(o:QF):QF:=λM Z=>(o M Z).bind λd=>match Jq M f d with
 |some (.dat x)=>.ok x
 |some (.lst _ xs)=>.ok (.list xs)
 |_=>.bad
theorem abY{M:Mo}{f:Str}{d:Dat}{fl:iV}(h:Jq M f d=some fl):∃n i,d=obj n/\M[n]?=some i/\i.fs.lookup f=some fl:=by
 unfold Jq at h;split at h
 ·next n=>
  obtain⟨i,h1,h2⟩:=aqd.mp h;exact⟨n,i,rfl,h1,h2⟩
 ·cases h
theorem lookup_mem{f:Str}{fl:iV}:∀{gs:List (Str×iV)},gs.lookup f=some fl->f∈gs.map (·.1)
 |[],h=>nomatch h
 |(g,y)::r,h=>by
  rw[aqG]at h;cases hb:f==g with
  |true=>rw[eq_of_beq hb];simp
  |false=>
   rw[hb]at h;exact aqk _ (lookup_mem h)
section
variable{K:aqe}{aj:aQ}{g:Gh}{H:Hp}{M:Mo}
theorem Xz(co:jk K aj)(w:fU K aj g H M){f:Str}{d:Dat}{fl:iV}{v:V}(h:Jq M f d=some fl)(r:dZ K g H v d):∃n i a C dx fs u,d=obj n/\M[n]?=some i/\i.fs.lookup f=some fl/\g.tbl[n]?=some a/\v=.ref a/\aj i.cls=some C/\H a=some (.ins C dx fs)/\cM K aj g H n fs i.fs/\Cls K C/\NoAttr K C f/\fs.lookup f=some u/\dO K aj g H n f u fl:=by
 obtain⟨n,i,rfl,h1,h2⟩:=abY h;obtain⟨a,rfl,ha⟩:=Ku r;have hc:i.cls≠"":=λz=>by
  rw[w.dm n i h1 z]at h2;cases h2
 obtain⟨C,dx,fs,c1,c2,c3⟩:=w.ins n a i ha h1 hc;obtain⟨u,l1,l2⟩:=c3.get h2;obtain⟨k1,k2⟩:=co i.cls C f c1 (w.fd n i h1 f (lookup_mem h2));exact⟨n,i,a,C,dx,fs,u,rfl,h1,h2,ha,rfl,c1,c2,c3,k1,k2,l1,l2⟩
end
section
variable{X:Cx}{aj:aQ}{W:WX}{o e:Expr}{es:List Expr}{fo:QF}{f m:Str}{pos apos:Pos}
theorem aic(co:jk X.K aj)(ho:QW aj X W o fo)(hb:baseOk o=true):QE aj X W (.Attribute o f pos) (gD f fo):=
 PE.weak (pe_fld ho (lO hb)) λσ H Q ⟨g,Z,M,I,h⟩=>by
  refine tW.go I h.bnd λd v H1 h1 e1 r1=>?_;split at h1
  ·next x hx=>
   obtain⟨n,i,a,C,dx,fs,u,_,_,_,_,rfl,_,c2,_,k1,k2,l1,l2⟩:=Xz co (I.ex e1).wok hx r1;exact⟨a,C,dx,fs,u,rfl,c2,k1,k2,l1,h1 u H1 e1 l2⟩
  ·exact arq h1
theorem aj4(co:jk X.K aj)(ho:QW aj X W o fo)(hb:baseOk o=true):QW aj X W (.Attribute o f pos) (bL f fo):=
 PE.weak (pe_fld ho (lO hb)) λσ H Q ⟨g,Z,M,I,h⟩=>by
  refine tW.go I h.bnd λd v H1 h1 e1 r1=>?_;split at h1
  ·next x hx=>
   obtain⟨n,i,a,C,dx,fs,u,_,_,_,_,rfl,_,c2,_,k1,k2,l1,l2⟩:=Xz co (I.ex e1).wok hx r1;exact⟨a,C,dx,fs,u,rfl,c2,k1,k2,l1,h1 u H1 e1 (Rep.weak l2)⟩
  ·next xs hx=>
   obtain⟨n,i,a,C,dx,fs,u,_,_,_,_,rfl,_,c2,_,k1,k2,l1,l,us,rfl,s1,s2,s3,_⟩:=Xz co (I.ex e1).wok hx r1;exact⟨a,C,dx,fs,_,rfl,c2,k1,k2,l1,h1 _ H1 e1 ⟨l,us,rfl,sq_of s1,s3⟩⟩
  ·exact arq h1
def Ql(X:Cx)(W:WX)(m:Str)(ta:TE)(t:TA):TE:=λσ H Q=>ta σ H λx H1=>∃(a C dx:Addr) (fs:List (Str×V)) (f:Addr) (fd:FuncData) (ps:List Str) (sp:Sp) (k:Nat),x=.ref a/\H1 a=some (.ins C dx fs)/\fs.lookup m=none/\Cls X.K C/\Meth X.K C m f/\Room k X.A/\Binds X.K fd ps []/\
 FnOk X.prog X.w X.K X.mg X.base (L2.CX X.prog X.w) k f fd ps sp/\t σ H1 λvs H2=>sp (x::vs) H2 Q (WE W σ)
theorem U9{M:Model}{A:Around}{E:Value->Shared->Prop}{s:Shared}{env:PySem.Env}{args:List Expr}{Q:Value->Shared->Prop}(hbase:baseOk o=true)(hs:args.all nst=true)(hz:args.length < 30)(hl:(apos.endLine==pos.line)=true)
  (h:wpAny M A (eval o env) (λov s₁=>∀pl:Sem Bool,wpAny M A (getMethod ov m pl) (λfx s₂=>wpAny M A (callWith pos fx.1 fx.2 (backTo pos (starEach args env)) (backToKw pos (keywordEach [] env))) Q E s₂) E s₁) E s) :
  wpAny M A (eval (.Call (.Attribute o m apos) args [] pos) env) Q E s:=by
 have hform:methodCallForm (args.length+([]:List Keyword).length) (backTo pos (starEach args env)) (backToKw pos (keywordEach [] env))=true:=few hs hz;have hpos:methodCallPos true o env apos pos=pure pos:=by unfold methodCallPos;simp[hl]
 rw[arm_eval_Call,lO hbase];refine wpAny_bind (wpAny_mono h (λov s₁ h₁=>?_) λ_ _ e=>e);refine wpAny_bind (wpAny_standAt ?_);unfold methodCall;rw[hform];refine wpAny_bind (wpAny_holding ?_);refine wpAny_mono (h₁ _) (λfx s₂ h₂=>?_) λ_ _ e=>e;exact wpAny_bind (wpAny_of_eq hpos h₂)
theorem Xi{ta:TE}{t:TA}(tk:Takes X W)(ho:PE X o ta)(ha:PA X (e::es) t)(hb:baseOk o=true)(hs:(e::es).all nst=true)(hl:(apos.endLine==pos.line)=true)(hz:(e::es).length < 30):PE X (.Call (.Attribute o m apos) (e::es) [] pos) (Ql X W m ta t):=by have hs':=hs;rw[aqS,aqf]at hs';refine⟨λpins s σ H Q I h=>?_⟩;refine U9 hb hs hz hl (thn (ho.run pins s σ H _ I h) λu s1 ⟨x,G,J,rx,a,C,dx,fs,f,fd,ps,sp,k,ex,ea,l,c,hm,hr,hB,F,q⟩ pl=>?_);subst ex;cases rx;refine getmeth_ok J ea c hm l ?_;refine PySem.W.callWith_K (first:=[.ref a]) (h₀:=X.base) I.ok.mod.kin hm.kp (thn (ha.run pos pins s1 σ G _ J q) λus s2 ⟨vs,G2,J2,r,q2⟩=>⟨J2.kIn,?_⟩) (cO hs'.1 es) (star_any es hs'.2);exact run_fnS (us:=.ref a::us) (vs:=.ref a::vs) F hr hB (passAt tk σ) J2 (.cons rfl r) q2
theorem Vp{ta:TE}(tk:Takes X W)(ho:PE X o ta)(hb:baseOk o=true)(hl:(apos.endLine==pos.line)=true):PE X (.Call (.Attribute o m apos) [] [] pos) (Ql X W m ta tNil):=by refine⟨λpins s σ H Q I h=>?_⟩;refine U9 hb rfl (by decide) hl (thn (ho.run pins s σ H _ I h) λu s1 ⟨x,G,J,rx,a,C,dx,fs,f,fd,ps,sp,k,ex,ea,l,c,hm,hr,hB,F,q⟩ pl=>?_);subst ex;cases rx;refine getmeth_ok J ea c hm l ?_;exact PySem.W.callWith_K0 (first:=[.ref a]) J.kIn hm.kp (run_fnS (us:=[.ref a]) (vs:=[.ref a]) F hr hB (passAt tk σ) J (.cons rfl .nil) q)
def DK(tb:List (Str×MV))(M:Mo):Dat->Option MV
 |.dict [(.none,.int (.ofNat h))]=>(M[h]?).bind λi=>tb.lookup i.cls
 |_=>none
def aR(tb:List (Str×MV))(o:QF)(as:QA):QF:=λM Z=>(o M Z).bind λd=>match DK tb M d with
 |some (.q _ m)=>(as M Z).bind λds=>m M (d::ds)
 |_=>.bad
def cP(tb:List (Str×MV))(o:QF)(as:QA):GF:=λM Z=>((o M Z).at M).bind λd _=>match DK tb M d with
 |some (.q _ m)=>((as M Z).at M).bind λds _=>(m M (d::ds)).at M
 |some (.g _ m)=>((as M Z).at M).bind λds _=>m M (d::ds)
 |none=>.bad
def HJ(X:Cx)(aj:aQ)(k:Nat)(m:Str)(n:Nat)(tb:List (Str×MV)):Prop:=∀c v,tb.lookup c=some v->bY X.prog X.w X.K X.mg X.base aj k c m v/\match v with
  |.q j _=>j=n
  |.g j _=>j=n
theorem HJ.cls{k n:Nat}{tb:List (Str×MV)}(T:HJ X aj k m n tb):∀c v,tb.lookup c=some v->aj c≠none:=λc v h z=>by
 obtain⟨⟨C,f,c1,_⟩,_⟩:=T c v h;rw[z]at c1;cases c1
theorem T5{K:aqe}{g:Gh}{H:Hp}{M:Mo}{tb:List (Str×MV)}{d:Dat}{v:V}{mv:MV}(ht:∀c v,tb.lookup c=some v->aj c≠none)(w:fU K aj g H M)(h:DK tb M d=some mv)(r:dZ K g H v d):∃n i a C dx fs,d=obj n/\M[n]?=some i/\tb.lookup i.cls=some mv/\g.tbl[n]?=some a/\v=.ref a/\aj i.cls=some C/\H a=some (.ins C dx fs)/\cM K aj g H n fs i.fs:=by
 unfold DK at h;split at h
 ·next n=>
  obtain⟨i,h1,h2⟩:=aqd.mp h;obtain⟨a,rfl,ha⟩:=Ku r;obtain⟨C,dx,fs,c1,c2,c3⟩:=w.ins n a i ha h1 λz=>ht _ _ h2 (by rw[z];exact w.nc);exact⟨n,i,a,C,dx,fs,rfl,h1,h2,ha,rfl,c1,c2,c3⟩
 ·cases h
theorem Xy{K:aqe}{g:Gh}{H:Hp}{M:Mo}{n:Nat}{i:Inst}{fs:List (Str×V)}(w:fU K aj g H M)(hi:M[n]?=some i)(R:cM K aj g H n fs i.fs)(h:m∉aj.fl i.cls):fs.lookup m=none:=by
 refine R.no ?_;cases hl:i.fs.lookup m with
 |none=>rfl
 |some x=>exact absurd (w.fd n i hi m (lookup_mem hl)) h
theorem ac1{tb:List (Str×MV)}{as:QA}{n k:Nat}{t:TA}(hr:Room k X.A)(T:HJ X aj k m n tb)(hn:∀M Z ds,as M Z=.ok ds->ds.length+1=n)(ht:∀σ H Q,M6 X.K aj W as σ H Q->t σ H Q)(σ:L2.St)(H:Hp)(Q:VK)(h:tQ X.K aj W (aR tb fo as) σ H Q):Ql X W m (tW X.K aj W fo) t σ H Q:=by
 obtain⟨g,Z,M,I,h⟩:=h;refine tW.go I h.bnd λd v H1 h1 e1 r1=>?_;have I1:=I.ex e1;split at h1
 ·next j mm hmv=>
  obtain⟨hd,i,a,C,dx,fs,rfl,hi,hl,ha,rfl,c1,c2,c3⟩:=T5 T.cls I1.wok hmv r1;obtain⟨⟨C',f,cc,cl,me,nf,fd,ps,j',hj,hp,hB,F⟩,en⟩:=T _ _ hl;have en:j=n:=en;rw[c1]at cc;cases cc;refine⟨a,C,dx,fs,f,fd,ps,_,j',rfl,c2,Xy I1.wok hi c3 nf,cl,me,hr.mono hj,hB,F,ht σ H1 _ ⟨g,Z,M,I1,?_⟩⟩;have h2:=h1.bnd;cases has:as M Z with
  |exc x=>rw[has]at h2;exact qG.ex e1 h2
  |bad=>rw[has]at h2;exact arq h2
  |ok ds=>
   rw[has]at h2;intro vs H2 e2 r2;refine⟨by rw[hp,en,←hn M Z ds has,aqu,r2.length],g,M,obj hd::ds,(I1.ex e2).kd,(I1.ex e2).wok,.cons (.obj ha) r2,?_⟩;exact Out.sat.mono h2 (λd k v H' e' r'=>k v H' ((e1.trans e2).trans e') r') λx k H' c dd e' r'=>k H' c dd ((e1.trans e2).trans e') r'
 ·exact arq h1
theorem agr{tb:List (Str×MV)}{as:QA}{k:Nat}(tk:Takes X W)(hr:Room k X.A)(T:HJ X aj k m ((e::es).length+1) tb)(ho:QW aj X W o fo)(ha:Fe aj X W (e::es) as)(hn:∀M Z ds,as M Z=.ok ds->ds.length=(e::es).length)(hb:baseOk o=true)(hs:(e::es).all nst=true)(hl:(apos.endLine==pos.line)=true)(hz:(e::es).length < 30) :
  QE aj X W (.Call (.Attribute o m apos) (e::es) [] pos) (aR tb fo as):=
 PE.weak (Xi tk ho ha hb hs hl hz) λσ H Q h=>ac1 hr T (λM Z ds z=>by rw[hn M Z ds z]) (λ_ _ _ z=>z) σ H Q h
theorem aeC{tb:List (Str×MV)}{k:Nat}(tk:Takes X W)(hr:Room k X.A)(T:HJ X aj k m 1 tb)(ho:QW aj X W o fo)(hb:baseOk o=true)(hl:(apos.endLine==pos.line)=true) :
  QE aj X W (.Call (.Attribute o m apos) [] [] pos) (aR tb fo au):=
 PE.weak (Vp tk ho hb hl) λσ H Q h=>ac1 hr T (λM Z ds z=>by cases z;rfl) (λσ H Q ⟨g,Z,M,I,z⟩=>z [] H (Ex.refl H) .nil) σ H Q h
theorem aci{tb:List (Str×MV)}{as:QA}{n k:Nat}{t:TA}(hr:Room k X.A)(T:HJ X aj k m n tb)(hn:∀M Z ds,as M Z=.ok ds->ds.length+1=n)(ht:∀σ H Q,M6 X.K aj W as σ H Q->t σ H Q)(σ:L2.St)(H:Hp)(Q:VK)(h:tE X.K aj W false (cP tb fo as) σ H Q):Ql X W m (tW X.K aj W fo) t σ H Q:=by
 obtain⟨g,Z,M,I,h⟩:=h;have quiet:∀{x:cY},gE X.K aj W false g H σ Z x M->qG X.K aj W g H σ x:=λ{x} z H' c dd e r=>z H' g c dd (Gr.ex e) (I.ex e) r;have h:=h.bnd;refine⟨g,Z,M,I,?_⟩;cases ho:fo M Z with
 |exc x=>rw[ho]at h;exact quiet h
 |bad=>rw[ho]at h;exact arq h
 |ok d=>
  rw[ho]at h;intro v H1 e1 r1;have I1:=I.ex e1;have h:(match DK tb M d with
   |some (.q _ m)=>((as M Z).at M).bind λds _=>(m M (d::ds)).at M
   |some (.g _ m)=>((as M Z).at M).bind λds _=>m M (d::ds)
   |none=>.bad).sat (λd M'=>∀v H' g',Gr false g g' H H'->SInv X.K aj σ H' g' Z M'->Rep X.K g' H' v d->Q v H') (gE X.K aj W false g H σ Z):=h
  split at h
  ·next j mm hmv=>
   obtain⟨hd,i,a,C,dx,fs,rfl,hi,hl,ha,rfl,c1,c2,c3⟩:=T5 T.cls I1.wok hmv r1;obtain⟨⟨C',f,cc,cl,me,nf,fd,ps,j',hj,hp,hB,F⟩,en⟩:=T _ _ hl;have en:j=n:=en;rw[c1]at cc;cases cc;refine⟨a,C,dx,fs,f,fd,ps,_,j',rfl,c2,Xy I1.wok hi c3 nf,cl,me,hr.mono hj,hB,F,ht σ H1 _ ⟨g,Z,M,I1,?_⟩⟩;have h2:=h.bnd;cases has:as M Z with
   |exc x=>rw[has]at h2;exact qG.ex e1 (quiet h2)
   |bad=>rw[has]at h2;exact arq h2
   |ok ds=>
    rw[has]at h2;intro vs H2 e2 r2;have e12:=e1.trans e2;refine⟨by rw[hp,en,←hn M Z ds has,aqu,r2.length],g,M,obj hd::ds,(I1.ex e2).kd,(I1.ex e2).wok,.cons (.obj ha) r2,?_⟩;exact Out.sat.mono (Out.jc h2) (λd k v H' e' r'=>k v H' g (Gr.ex (e12.trans e')) (I.ex (e12.trans e')) r') λx k H' c dd e' r'=>k H' g c dd (Gr.ex (e12.trans e')) (I.ex (e12.trans e')) r'
  ·next j mm hmv=>
   obtain⟨hd,i,a,C,dx,fs,rfl,hi,hl,ha,rfl,c1,c2,c3⟩:=T5 T.cls I1.wok hmv r1;obtain⟨⟨C',f,cc,cl,me,nf,fd,ps,j',hj,hp,hB,F⟩,en⟩:=T _ _ hl;have en:j=n:=en;rw[c1]at cc;cases cc;refine⟨a,C,dx,fs,f,fd,ps,_,j',rfl,c2,Xy I1.wok hi c3 nf,cl,me,hr.mono hj,hB,F,ht σ H1 _ ⟨g,Z,M,I1,?_⟩⟩;have h2:=h.bnd;cases has:as M Z with
   |exc x=>rw[has]at h2;exact qG.ex e1 (quiet h2)
   |bad=>rw[has]at h2;exact arq h2
   |ok ds=>
    rw[has]at h2;intro vs H2 e2 r2;have e12:=e1.trans e2;refine⟨by rw[hp,en,←hn M Z ds has,aqu,r2.length],g,M,obj hd::ds,(I1.ex e2).kd,(I1.ex e2).wok,.cons (.obj ha) r2,?_⟩;exact bB.sat.mono h2 (λd M' k v H' g' c kd wk r'=>k v H' g' ((Gr.ex e12).trans c.gr) ((I.ex e12).call c kd wk) r') λx M' k H' g' cc dd c kd wk r'=>k H' g' cc dd ((Gr.ex e12).trans c.gr) ((I.ex e12).call c kd wk) r'
  ·exact arq h
theorem aga{tb:List (Str×MV)}{as:QA}{k:Nat}(tk:Takes X W)(hr:Room k X.A)(T:HJ X aj k m ((e::es).length+1) tb)(ho:QW aj X W o fo)(ha:Fe aj X W (e::es) as)(hn:∀M Z ds,as M Z=.ok ds->ds.length=(e::es).length)(hb:baseOk o=true)(hs:(e::es).all nst=true)(hl:(apos.endLine==pos.line)=true)(hz:(e::es).length < 30) :
  GE aj X W false (.Call (.Attribute o m apos) (e::es) [] pos) (cP tb fo as):=
 PE.weak (Xi tk ho ha hb hs hl hz) λσ H Q h=>aci hr T (λM Z ds z=>by rw[hn M Z ds z]) (λ_ _ _ z=>z) σ H Q h
theorem aee{tb:List (Str×MV)}{k:Nat}(tk:Takes X W)(hr:Room k X.A)(T:HJ X aj k m 1 tb)(ho:QW aj X W o fo)(hb:baseOk o=true)(hl:(apos.endLine==pos.line)=true) :
  GE aj X W false (.Call (.Attribute o m apos) [] [] pos) (cP tb fo au):=
 PE.weak (Vp tk ho hb hl) λσ H Q h=>aci hr T (λM Z ds z=>by cases z;rfl) (λσ H Q ⟨g,Z,M,I,z⟩=>z [] H (Ex.refl H) .nil) σ H Q h
end
def eV(x:Str):SF:=λM Z=>.exc ⟨x,[]⟩ Z M
def Bt(x:Str)(fs:List Str)(as:QA):SF:=λM Z=>((as M Z).at M).then Z λds M'=>.exc ⟨x,(fs.zip ds).reverse⟩ Z M'
section
variable{X:Cx}{aj:aQ}{W:WX}{q:Bool}{x:Str}{pos p p1:Pos}{k:Nat}
theorem aeG(hc:X.calm=true)(tk:Takes X W)(hg:Gl X x)(hd:(x==("__debug__" : Str))=false)(g:bx X.prog X.w X.K X.mg X.base aj k x .exc):SE aj X W q (.Raise (some (.Call (.Name x p) [] [] p1)) none pos) (eV x):=by obtain⟨C,g1,g2,g3,g4,g5,g6⟩:=g;exact PS.weak (ps_raise hc tk (Ear.aes PySem.F.excBase_ValueError g3 g1 g4 (raises_own g5 g6) hg hd)) λD σ H ⟨g,Z,M,I,z⟩=>z σ H g (.ref C) none Gr.refl I ⟨C,g2,rfl,.inl ⟨rfl,rfl⟩⟩
theorem kE.gr{K:aqe}{g g':Gh}{H H':Hp}{q:Bool}(r:Gr q g g' H H')(k:Kd g H){fs:List (Str×V)}{gs:List (Str×Dat)}(h:kE K g H fs gs):kE K g' H' fs gs:=by
 induction h with
 |nil=>exact .nil
 |cons z _ ih=>exact .cons (z.gr r k) ih
theorem kE.snoc{K:aqe}{g:Gh}{H:Hp}{f:Str}{v:V}{d:Dat}(z:Rep K g H v d){fs:List (Str×V)}{gs:List (Str×Dat)}(h:kE K g H fs gs):kE K g H (fs++[(f,v)]) (gs++[(f,d)]):=by
 induction h with
 |nil=>exact .cons z .nil
 |cons y _ ih=>exact .cons y ih
theorem adJ{K:aqe}{g:Gh}{H:Hp}:∀{fs:List Str} {vs:List V} {ds:List Dat},aJ K g H vs ds->kE K g H (fs.zip vs).reverse (fs.zip ds).reverse
 |[],_,_,_=>.nil
 |_::_,_,_,.nil=>.nil
 |f::fs,_,_,.cons z t=>by
  rw[aq0,aq0,List.reverse_cons,List.reverse_cons];exact(adJ t).snoc z
theorem abR{e:Expr}{es:List Expr}{fs:List Str}{as:QA}(hc:X.calm=true)(tk:Takes X W)(hr:Room k X.A)(hg:Gl X x)(hd:(x==("__debug__" : Str))=false)(g:bx X.prog X.w X.K X.mg X.base aj k x (.exi fs))(ha:Fe aj X W (e::es) as)
  (hs:(e::es).all nst=true) (hn:∀M Z ds,as M Z=.ok ds->ds.length=fs.length) (hz:fs.length<=1000):SE aj X W q (.Raise (some (.Call (.Name x p) (e::es) [] p1)) none pos) (Bt x fs as):=by
 obtain⟨C,fI,fd,ps,g1,g2,g3,g4,g5,hk,hp,hB,F⟩:=g;have hs':=hs;rw[aqS,aqf]at hs';refine PS.weak (ps_raise hc tk (pmk_oex g3 g4 g5 F (hr.mono hk) hB .nil pass0 hg g1 ha hd (cO hs'.1 es) (star_any es hs'.2))) λD σ H ⟨g,Z,M,I,z⟩=>?_;refine⟨g,Z,M,I,?_⟩;unfold Bt at z;cases has:as M Z with
 |exc y=>rw[has]at z;exact λH' c dd e r=>z σ H' g c dd (Gr.ex e) (I.ex e) r.fr
 |bad=>rw[has]at z;exact arq z
 |ok ds=>
  rw[has]at z;intro vs H1 e1 r1;have hl:vs.length=fs.length:=by rw[r1.length,hn M Z ds has]
  refine⟨by omega,λa na=>⟨a,vs++[],rfl,by simpa using hl,upd_same,λdx H' nd kp dm ha' hd'=>?_⟩⟩;have ne:dx≠a:=λz=>by
   subst z;rw[upd_same]at nd;cases nd
  rw[upd_ne ne]at nd;refine⟨rfl,dx,_,ha',hd',nd,?_⟩;have kp':∀b o,H1 b=some o->(upd (del H' a) dx (.xd (fs.zip (vs++[])).reverse)) b=some o:=λb o hb=>by
   have nb:b≠a:=λz=>by subst z;rw[na]at hb;cases hb
   have nd':b≠dx:=λz=>by subst z;rw[nd]at hb;cases hb
   rw[upd_ne nd',del_ne nb];exact kp b o nb (by rw[upd_ne nb];exact hb)
  have ex:Ex H1 (upd (del H' a) dx (.xd (fs.zip (vs++[])).reverse)):=λb o hb=>kp' b o hb;have I1:=I.ex e1;refine z σ _ g (.ref C) (some dx) (Gr.ex (e1.trans ex)) (I1.ex ex) ⟨C,g2,rfl,.inr ⟨dx,_,rfl,upd_same,?_⟩⟩;rw[aqY];have:=(adJ (fs:=fs) r1).gr (Gr.ex (q:=true) ex) I1.kd;rw[aqY]at this;exact kE.less (g:=g) (g':=g.fr) rfl (vP g) this
end
section
variable{P:Program}{w:World}{K:aqe}{mg:Str->Option Value}{base:Heap}{C f:Addr}{fd:FuncData}{qual:Str}{st:Stmt}
theorem vis_par{N ps:List Str}{sc:Scope}(S:FnScope N ps sc){y:Str}(h:y∈ps):Vis sc y:=(S.par y h).elim (λz=>.inl z) λz=>.inr (.inl z)
theorem acM{s a1 a2 a3 f1 f2 f3:Str}{p1 p2 p3 p4 p5 p6 p7 p8 p9 p10 p11 p12:Pos}(F:L2.Fun K "__init__" qual st f fd)(S:FnScope [s,a1,a2,a3] [s,a1,a2,a3] (defScope st))(T:OexC K C)
  (hb:defBody st=[.Assign [.Attribute (.Name s p1) f1 p2] (.Name a1 p3) p4,.Assign [.Attribute (.Name s p5) f2 p6] (.Name a2 p7) p8,.Assign [.Attribute (.Name s p9) f3 p10] (.Name a3 p11) p12])
  (dz:∀y∈[s,a1,a2,a3],(y==("__debug__" : Str))=false/\(y==("__classdict__" : Str))=false) (n1:PySem.W.findIn K (.ref C) f1=some none) (n2:PySem.W.findIn K (.ref C) f2=some none) (n3:PySem.W.findIn K (.ref C) f3=some none) :
  FnOk P w K mg base CX0 1 f fd [s,a1,a2,a3] (afa C [f1,f2,f3]):=by
 refine F.ok S (λvs H Q E h=>?_) (λcdv A outer s0 H vs Q E hr h=>?_)
 ·obtain⟨a,xs,rfl,hl,_⟩:=h;simp[hl]
 ·obtain⟨a,xs,rfl,hl,ha,q⟩:=h
  match xs,hl with
  |[x,y,z],_=>
  rw[hb];have v0:=vis_par S (y:=s) (by simp);have v1:=vis_par S (y:=a1) (by simp);have v2:=vis_par S (y:=a2) (by simp);have v3:=vis_par S (y:=a3) (by simp);obtain⟨c0,k0⟩:=dz s (by simp);obtain⟨c1,k1⟩:=dz a1 (by simp);obtain⟨c2,k2⟩:=dz a2 (by simp);obtain⟨c3,k3⟩:=dz a3 (by simp);refine⟨_,pss_cons (ps_ost (pe_var (i:=0) rfl v0 c0 k0) (pe_var (i:=1) rfl v1 c1 k1)) (pss_cons (ps_ost (pe_var (i:=0) rfl v0 c0 k0) (pe_var (i:=2) rfl v2 c2 k2)) (pss_one (ps_ost (pe_var (i:=0) rfl v0 c0 k0) (pe_var (i:=3) rfl v3 c3 k3)))),?_⟩;refine⟨_,rfl,_,rfl,a,C,rfl,T,n1,.inl ⟨ha,λdx nd ne=>?_⟩⟩;refine⟨_,rfl,_,rfl,a,C,rfl,T,n2,.inr ⟨dx,[(f1,x)],upd_same,(by rw[upd_ne ne];exact upd_same),(show 1<=900 by decide),?_⟩⟩;refine⟨_,rfl,_,rfl,a,C,rfl,T,n3,.inr ⟨dx,_,(by rw[upd_ne ne.symm];exact upd_same),upd_same,(show 2<=900 by decide),?_⟩⟩;refine q dx _ nd (λb o hb hB=>?_) (λb hB=>?_) (by rw[upd_ne ne.symm,upd_ne ne.symm];exact upd_same) upd_same
  ·have hbd:b≠dx:=ne_of_none hB nd;rw[upd_ne hbd,upd_ne hbd,upd_ne hb,upd_ne hbd];exact hB
  ·by_cases e:b=dx
   ·rw[e];exact nd
   ·by_cases e2:b=a
    ·subst e2;rw[upd_ne e,upd_ne e,upd_same]at hB;cases hB
    ·rw[upd_ne e,upd_ne e,upd_ne e2,upd_ne e]at hB;exact hB
end
structure Cl where
 c:Value
 nm:Option Nat
 ts:Addr->Value->Option Addr->TS
def al7(D:Ends)(i:Nat):Ends:={ nx:=λτ G=>D.nx (τ.set i none) G,rt:=D.rt,bk:=λτ G=>D.bk (τ.set i none) G,ct:=λτ G=>D.ct (τ.set i none) G }
def Xq(K:aqe)(Wo:WX)(D:Ends):List Cl->WX
 |[]=>Wo
 |l::r=>λcls d τ G=>∃b,PySem.W.exmOne K cls l.c=some b/\(b=true->∀a,G a=none->(match l.nm with
   |none=>l.ts a cls d D τ G
   |some i=>l.ts a cls d (al7 D i) (τ.set i (some (.ref a))) G))/\(b=false->Xq K Wo D r cls d τ G)
inductive Bm(X:Cx):List ExceptHandler->List Cl->Prop
 |nil:Bm X [] []
 |one {x:Str} {l:Cl} {s0:Stmt} {su:List Stmt} {np cp:Pos} {hds:List ExceptHandler} {ls:List Cl} (hc:Names X x l.c) (hn:l.nm=none)
   (hsu:∀(a:Addr) (oe:Obj) (cls:Value) (d:Option Addr) (pn:List (Addr×Obj)),Zc cls d oe->(∃vs,oe.data=.fields vs)->PSs (X.suite a ((a,oe)::pn)) (s0::su) (l.ts a cls d)) (r:Bm X hds ls) :
   Bm X (.ExceptHandler (some (.Name x np)) none (s0::su) cp::hds) (l::ls)
 |as {x n:Str} {i:Nat} {l:Cl} {s0:Stmt} {su:List Stmt} {np cp:Pos} {hds:List ExceptHandler} {ls:List Cl} (hc:Names X x l.c) (hn:l.nm=some i) (hi:X.N[i]?=some n) (hl:X.env.kindOf n=some .local)
   (hsu:∀(a:Addr) (oe:Obj) (cls:Value) (d:Option Addr) (pn:List (Addr×Obj)),Zc cls d oe->(∃vs,oe.data=.fields vs)->PSs (X.suite a ((a,oe)::pn)) (s0::su) (l.ts a cls d)) (r:Bm X hds ls) :
   Bm X (.ExceptHandler (some (.Name x np)) (some n) (s0::su) cp::hds) (l::ls)
section
variable{X:Cx}{body:List Stmt}{h0:ExceptHandler}{hds:List ExceptHandler}{ls:List Cl}{pos:Pos}{tb:WX->TS}{Wo:WX}
theorem afW(hs:X.stack=X.env::X.outer)(hf:X.env.frame=some X.env.locals)(hN:X.N.Nodup)(tk:Takes X Wo)
  (hb:∀(W:WX) (pn:List (Addr×Obj)) (xe:Value->Shared->Prop),Takes (X.tr pn xe) W->PassesOwn (model X.prog X.w) X.A X.env xe->PSs (X.tr pn xe) body (tb W))
  (hh:Bm X (h0::hds) ls):PS X (.Try body (h0::hds) [] [] pos) (λD σ H=>tb (Xq X.K Wo D ls) D σ H):=by
 constructor;intro pins s σ H D I h;have ok:=I.ok;have frm:X.A.frames=some (X.env::X.outer):=by rw[ok.frames,hs]
 have run:=(hb (Xq X.K Wo D ls) (X.pn++pins) (λe t₁=>wpAny (model X.prog X.w) X.A (noteFrame e X.env) (λ_ t₂=>wpAny (model X.prog X.w) X.A (setFlight e none) (λ_ t₃=>wpAny (model X.prog X.w) X.A (handleBy e X.env (h0::hds)) (SP X pins D) X.xe t₃) X.xe t₂) X.xe t₁) (λu t xx=>by
  obtain⟨a,B,sI,pins2,τ,G,cls,d,rfl,J2,nb,up,sky,na,os,ag,w⟩:=xx;have J:Inv X pins τ G sI:=J2.ofTry ok;have sky2:Sky B (X.env::X.outer) a (Zc cls d) X.env.locals t.heap:=by rw[←hs];exact sky
  show wpAny (model X.prog X.w) X.A (noteFrame (.ref a) X.env) _ _ _;refine Sky.land Zc.steady frm hf sky2 ?_;intro h3 fl3 up3;have J3:Inv X pins τ G { t with heap:=h3 }:=J.landed nb fl3.1 (up.trans up3) os ag;obtain⟨oe3,vs3,he3,hz3,hd3⟩:=fl3.there;have notF:a∉frs (X.env::X.outer):=λhm=>by
   obtain⟨_,o,eo,hnf⟩:=Heap.FunFrames.mem fl3.2.2.1 hm;rw[he3]at eo;cases eo;exact hnf _ hd3
  have nL:a≠X.env.locals:=λz=>notF (List.mem_filterMap.mpr ⟨X.env,aqj,(by rw[hf,z])⟩);have nF:a∉X.fs:=λhm=>by
   obtain⟨e,he,q⟩:=List.mem_filterMap.mp hm;exact notF (List.mem_filterMap.mpr ⟨e,aqk _ he,q⟩)
  have S3:=J3.suite he3 hd3 na nL nF;have look:PySem.W.Looks (model X.prog X.w) h3 (typeOf (.ref a)) cls:=λA Q E s k q=>wpAny_typeOf_ref (k _ _ he3) (by rw[hz3.1];exact q);have named:∀{x:Str} {c:Value} {np:Pos} {Q:Value->Shared->Prop} {E:Value->Shared->Prop},Names X x c->Q c { t with heap:=h3 }->wpAny (model X.prog X.w) (X.A.mark (some (.ref a))) (eval (.Name x np) X.env) Q E { t with heap:=h3 }:=by
   intro x c np Q E hc q;obtain⟨hg,hdb,hm⟩:=hc;rcases hm with hm|⟨hm,hv,hnn⟩
   ·exact ld_glob (X:=X.suite a ((a,oe3)::(X.pn++pins))) S3 hg hm q hdb
   ·exact ld_blt (X:=X.suite a ((a,oe3)::(X.pn++pins))) S3 hg hm hv q hnn hdb
  have all:∀{hds2:List ExceptHandler} {ls2:List Cl},Bm X hds2 ls2->Xq X.K Wo D ls2 cls d τ G->wpAny (model X.prog X.w) X.A (handleBy (.ref a) X.env hds2) (SP X pins D) X.xe { t with heap:=h3 }:=by
   intro hds2 ls2 hk
   induction hk with
   |nil=>
    intro w;refine wpAny_handleBy_nil ?_;obtain⟨k1,k2,k3,oe,vs,T,oT,ts2,he,hz,hd,h1,hr⟩:=id fl3;unfold PySem.passOn;refine wpAny_bind (wpAny_field he hd h1 ?_);have nT:¬((Value.ref T==Value.none)=true):=by simp
    rw[if_neg nT];have fin:wpAny (model X.prog X.w) X.A (setFlight (.ref a) X.env.frame) (λ_ s4=>wpAny (model X.prog X.w) X.A (throw (.ref a):Sem Flow) (SP X pins D) X.xe s4) X.xe { t with heap:=h3 }:=by rw[hf];refine HandSPX.setFlight_upZ fl3 ?_;intro h4 hh4 up4;refine wpAny_throw (tk _ _ ?_);exact⟨a,B,sI,pins,τ,G,cls,d,rfl,J,nb,(up.trans up3).trans up4,.inr (.inr (by rw[hs];exact hh4)),na,os,ag,w⟩
    first
     |exact wpAny_bind (wpAny_pure (wpAny_bind fin))
     |exact wpAny_bind fin
   | @one x l s0 su np cp hds3 ls3 hc hn hsu r ih=>
    intro w;obtain⟨b,hb1,yes,no⟩:=w;rw[hn]at yes;have LM:=PySem.W.exm_one (M:=model X.prog X.w) J3.kIn look hb1;refine wpAny_handleBy_cons (codeAny_handlers_test ?_) (by intro q;cases q);refine named hc (LM.here ?_);cases b with
    |false=>exact ih (no rfl)
    |true=>
     refine codeAny_handlers_suite ?_;refine HandSPX.lands_againZ fl3 ?_;intro h4 fl4 up4;have J4:Inv X pins τ G { t with heap:=h4 }:=J.landed nb fl4.1 ((up.trans up3).trans up4) os ag;obtain⟨oe4,vs4,he4,hz4,hd4⟩:=fl4.there;have S4:=J4.suite he4 hd4 na nL nF;refine wpAny_mono ((hsu a oe4 cls d (X.pn++pins) hz4 ⟨_,hd4⟩).run [] _ _ G _ S4 (yes rfl a na)) ?_ (λ_ _ z=>arq z);intro f s6 sp6;cases f with
     |ret u=>
      obtain⟨v6,τ6,G6,S6,r6,q6⟩:=sp6;exact⟨_,_,_,S6.unsuite ok,r6,q6⟩
     |next=>
      obtain⟨τ6,G6,S6,q6⟩:=sp6;exact⟨_,_,S6.unsuite ok,q6⟩
     |brk=>
      obtain⟨τ6,G6,S6,q6⟩:=sp6;exact⟨_,_,S6.unsuite ok,q6⟩
     |cont=>
      obtain⟨τ6,G6,S6,q6⟩:=sp6;exact⟨_,_,S6.unsuite ok,q6⟩
   | @as x n i l s0 su np cp hds3 ls3 hc hn hi hl hsu r ih=>
    intro w;obtain⟨b,hb1,yes,no⟩:=w;rw[hn]at yes;have LM:=PySem.W.exm_one (M:=model X.prog X.w) J3.kIn look hb1;refine wpAny_handleBy_cons (codeAny_handlers_test ?_) (by intro q;cases q);refine named hc (LM.here ?_);cases b with
    |false=>exact ih (no rfl)
    |true=>
     refine codeAny_handlers_suite_as ?_;refine HandSPX.lands_againZ fl3 ?_;intro h4 fl4 up4;have J4:Inv X pins τ G { t with heap:=h4 }:=J.landed nb fl4.1 ((up.trans up3).trans up4) os ag;obtain⟨oe4,vs4,he4,hz4,hd4⟩:=fl4.there;have S4:=J4.suite he4 hd4 na nL nF;refine store_ok (X:=X.suite a ((a,oe4)::(X.pn++pins))) (v:=.ref a) S4 hN hi (.inl hl) rfl ?_ (.inr hl);intro s5 S5;refine wpAny_mono ((hsu a oe4 cls d (X.pn++pins) hz4 ⟨_,hd4⟩).run [] s5 _ G _ S5 (yes rfl a na)) ?_ (λ_ _ z=>arq z);intro f s6 sp6;have bye:∀{τ6:L2.St} {G6:Hp} {Q:Shared->Prop},Inv (X.suite a ((a,oe4)::(X.pn++pins))) [] τ6 G6 s6->(∀s7,Inv X pins (τ6.set i none) G6 s7->Q s7)->
       wpAny (model X.prog X.w) X.A (do bindName X.env n .none;unbindBehindTheSuite X.env n cp) (λ_ s7=>Q s7) X.xe s6:=λS6 hq=>gone_ok (S6.unsuite ok) hN hi hl hq
     cases f with
     |ret u=>
      obtain⟨v6,τ6,G6,S6,r6,q6⟩:=sp6;exact bye S6 λs7 J7=>⟨_,_,_,J7,r6,q6⟩
     |next=>
      obtain⟨τ6,G6,S6,q6⟩:=sp6;exact bye S6 λs7 J7=>⟨_,_,J7,q6⟩
     |brk=>
      obtain⟨τ6,G6,S6,q6⟩:=sp6;exact bye S6 λs7 J7=>⟨_,_,J7,q6⟩
     |cont=>
      obtain⟨τ6,G6,S6,q6⟩:=sp6;exact bye S6 λs7 J7=>⟨_,_,J7,q6⟩
  exact all hh w) PassesOwn.looking).run [] s σ H D (I.toTry _) h
 refine wpAny_Try_except (wpAny_mono run ?_ (λ_ _ z=>z));intro f s1 sp1;cases f with
 |ret u=>
  obtain⟨v,τ,G,J2,r,q⟩:=sp1;exact⟨v,τ,G,J2.ofTry ok,r,q⟩
 |next=>
  obtain⟨τ,G,J2,q⟩:=sp1;exact wpAny_execs_nil ⟨τ,G,J2.ofTry ok,q⟩
 |brk=>
  obtain⟨τ,G,J2,q⟩:=sp1;exact⟨τ,G,J2.ofTry ok,q⟩
 |cont=>
  obtain⟨τ,G,J2,q⟩:=sp1;exact⟨τ,G,J2.ofTry ok,q⟩
end
inductive CV where
 |con (d:Dat)|fld (f:Str)|flds (fs:List Str)
def Ru(y:Str)(x:cY)(f:Str):Option Dat:=match x.cls==y with
 |true=>(x.fs.lookup f).bind λd=>match lf d with
  |true=>some d
  |false=>none
 |false=>none
def Lw(y:Str)(x:cY):List Str->Option (List Dat)
 |[]=>some []
 |f::fs=>(Ru y x f).bind λd=>(Lw y x fs).bind λds=>some (d::ds)
def Nt(y:Str)(x:cY):CV->Option Dat
 |.con d=>some d
 |.fld f=>Ru y x f
 |.flds fs=>(Lw y x fs).bind λds=>some (.tuple ds)
def Di(y:Str)(x:cY):List (Nat×CV)->Env->Option Env
 |[],Z=>some Z
 |(j,e)::r,Z=>(Nt y x e).bind λd=>Di y x r (Z.set j (some (.dat d)))
structure Hd where
 y:Str
 tk:Str->Option Bool
 nm:Option Nat
 st:List (Nat×CV)
def RD(Z:Env):Option Nat->Env
 |none=>Z
 |some i=>Z.set i none
def abf(Z:Env):Option Nat->Bool
 |none=>true
 |some i=>decide (i < Z.length)
def hdl:List Hd->cY->Env->Mo->uM
 |[],x,Z,M=>.exc x Z M
 |h::r,x,Z,M=>match h.tk x.cls with
  |some true=>match abf Z h.nm with
   |true=>match Di h.y x h.st (RD Z h.nm) with
    |some Z2=>.next (RD Z2 h.nm) M
    |none=>.bad
   |false=>.bad
  |some false=>hdl r x Z M
  |none=>.bad
def Zh(f:SF)(hs:List Hd):SF:=λM Z=>match f M Z with
 |.exc x Z' M'=>hdl hs x Z' M'
 |o=>o
structure XIn(K:aqe)(aj:aQ)(σ:L2.St)(H:Hp)(g:Gh)(Z:Env)(M:Mo)(x:cY)(a:Addr)(cls:Value)(d:Option Addr)(i:Option Nat):Prop where
 inv:SInv K aj σ H g Z M
 xr:pU K aj g.fr H x cls d
 sl:∀j,i=some j->σ[j]?=some (some (.ref a))
section
variable(K:aqe)(aj:aQ)(a:Addr)(cls:Value)(d:Option Addr)(i:Option Nat)
def tU(f:cY->Option Dat):TE:=λσ H Q=>∃g Z M x z,XIn K aj σ H g Z M x a cls d i/\f x=some z/\∀v H',Ex H H'->Rep K g H' v z->Q v H'
def tUA(f:cY->Option (List Dat)):TA:=λσ H Q=>∃g Z M x z,XIn K aj σ H g Z M x a cls d i/\f x=some z/\∀v H',Ex H H'->aJ K g H' v z->Q v H'
def tSu(y:Str)(st:List (Nat×CV)):TS:=λD σ H=>∃g Z M x Z2,XIn K aj σ H g Z M x a cls d i/\Di y x st Z=some Z2/\(∀p∈st,i≠some p.1)/\∀σ' H',Ex H H'->SInv K aj σ' H' g Z2 M->D.nx σ' H'
end
section
variable{K:aqe}{aj:aQ}{a:Addr}{cls:Value}{d:Option Addr}{i:Option Nat}{σ:L2.St}{H H':Hp}{g:Gh}{Z:Env}{M:Mo}{x:cY}
theorem kE.ex{fs:List (Str×V)}{gs:List (Str×Dat)}(e:Ex H H')(k:Kd g H)(h:kE K g H fs gs):kE K g H' fs gs:=h.gr (Gr.ex (q:=true) e) k
theorem pU.ex{c:Value}{dd:Option Addr}(e:Ex H H')(k:Kd g H)(h:pU K aj g H x c dd):pU K aj g H' x c dd:=by obtain⟨C,h1,h2,h3⟩:=h;exact⟨C,h1,h2,h3.imp id λ⟨b,fs,e1,e2,e3⟩=>⟨b,fs,e1,e _ _ e2,e3.ex e k⟩⟩
theorem XIn.ex(e:Ex H H')(h:XIn K aj σ H g Z M x a cls d i):XIn K aj σ H' g Z M x a cls d i:=⟨h.inv.ex e,h.xr.ex e h.inv.kd.fr,h.sl⟩
theorem kE.get{f:Str}{z:Dat}{fs:List (Str×V)}{gs:List (Str×Dat)}(h:kE K g H fs gs)(e:gs.lookup f=some z):∃v,fs.lookup f=some v/\Rep K g H v z:=by
 induction h with
 |nil=>cases e
 | @cons f' v d' _ _ r _ ih=>
  rw[aqG]at e;rw[aqG];cases hb:f==f' with
  |true=>
   rw[hb]at e;cases e;exact⟨v,rfl,r⟩
  |false=>
   rw[hb]at e;exact ih e
end
section
variable{X:Cx}{aj:aQ}{a C:Addr}{oe:Obj}{cls:Value}{d:Option Addr}{pn:List (Addr×Obj)}{y n:Str}{pos p:Pos}{j:Nat}
theorem acd{e:Expr}{z:Dat}{i:Option Nat}{t:TE}(h:PE (X.suite a ((a,oe)::pn)) e t)(ht:∀σ H Q,tU X.K aj a cls d i (λ_=>some z) σ H Q->t σ H Q):PE (X.suite a ((a,oe)::pn)) e (tU X.K aj a cls d i λ_=>some z):=PE.weak h ht
theorem ac5{f:Str}(hC:aj y=some C)(T:XfC X.K C)(hno:PySem.W.findIn X.K (.ref C) f=some none)(hz:Zc cls d oe)(hf:∃vs,oe.data=.fields vs)(hN:X.N[j]?=some n)(hv:Vis X.env.scope n)(hd:(n==("__debug__" : Str))=false)(hcd:(n==("__classdict__" : Str))=false) :
  PE (X.suite a ((a,oe)::pn)) (.Attribute (.Name n p) f pos) (tU X.K aj a cls d (some j) λx=>Ru y x f):=by
 refine PE.weak (pe_xf T hno hz hf (pe_var (i:=j) (X:=X.suite a ((a,oe)::pn)) hN hv hd hcd)) λσ H Q ⟨g,Z,M,x,z,I,e,k⟩=>?_;have e:Ru y x f=some z:=e;unfold Ru at e;split at e
 ·next ey=>
  obtain⟨z',l,e⟩:=aqd.mp e;split at e
  ·next hl=>
   cases e;obtain⟨C',c1,c2,c3⟩:=I.xr;rw[eq_of_beq ey,hC]at c1;cases c1;rcases c3 with⟨c3,_⟩|⟨b,fs,c3,c4,c5⟩
   ·rw[c3]at l;cases l
   ·obtain⟨v,l1,l2⟩:=c5.get l;exact⟨.ref a,I.sl j rfl,rfl,c2,b,fs,v,c3,c4,l1,k v H (Ex.refl H) (Rep.free (g:=g.fr) (g':=g) rfl hl l2)⟩
  ·cases e
 ·cases e
theorem abX{i:Option Nat}:PA (X.suite a ((a,oe)::pn)) [] (tUA X.K aj a cls d i λ_=>some []):=PA.weak pa_nil λσ H Q ⟨g,Z,M,x,z,I,e,k⟩=>by
 cases e;exact k [] H (Ex.refl H) .nil
theorem ahq{e:Expr}{es:List Expr}{i:Option Nat}{f:cY->Option Dat}{fr:cY->Option (List Dat)}(h:PE (X.suite a ((a,oe)::pn)) e (tU X.K aj a cls d i f))(hr:PA (X.suite a ((a,oe)::pn)) es (tUA X.K aj a cls d i fr))(hs:nst e=true) :
  PA (X.suite a ((a,oe)::pn)) (e::es) (tUA X.K aj a cls d i λx=>(f x).bind λz=>(fr x).bind λzs=>some (z::zs)):=by
 refine PA.weak (pa_cons h hr (cO hs es)) λσ H Q ⟨g,Z,M,x,z,I,e,k⟩=>?_;obtain⟨z1,e1,e⟩:=aqd.mp e;obtain⟨z2,e2,e⟩:=aqd.mp e;cases e;exact⟨g,Z,M,x,z1,I,e1,λv H1 x1 r1=>⟨g,Z,M,x,z2,I.ex x1,e2,λvs H2 x2 r2=>k (v::vs) H2 (x1.trans x2) (.cons (r1.ex x2 (I.ex x1).inv.kd) r2)⟩⟩
theorem abW{es:List Expr}{kk:Nat}{i:Option Nat}{fr:cY->Option (List Dat)}(hr:PA (X.suite a ((a,oe)::pn)) es (tUA X.K aj a cls d i fr))(hn:∀x zs,fr x=some zs->zs.length<=100000):PE (X.suite a ((a,oe)::pn)) (.Tuple es kk pos) (tU X.K aj a cls d i λx=>(fr x).bind λzs=>some (.tuple zs)):=by refine PE.weak (pe_tup hr) λσ H Q ⟨g,Z,M,x,z,I,e,k⟩=>?_;obtain⟨zs,e1,e⟩:=aqd.mp e;cases e;refine⟨g,Z,M,x,zs,I,e1,λvs H1 x1 r1=>⟨sz_of (by rw[r1.length];exact hn x zs e1),λp np=>?_⟩⟩;exact k (.ref p) _ (x1.trans (Ex.new np)) (.tup (st_of upd_same) (r1.ex (Ex.new np) (I.ex x1).inv.kd))
theorem U3{x:cY}:∀{fs:List Str} {zs:List Dat},Lw y x fs=some zs->zs.length=fs.length
 |[],zs,h=>by cases h;rfl
 |f::fs,zs,h=>by
  rw[Lw]at h;obtain⟨z1,e1,h⟩:=aqd.mp h;obtain⟨z2,e2,h⟩:=aqd.mp h;cases h;simp[U3 e2]
theorem aiN{i:Option Nat}{se:CV}{st:List (Nat×CV)}{D D':Ends}{σ:L2.St}{H:Hp}(h:tSu X.K aj a cls d i y ((j,se)::st) D σ H)(nx:∀σ' H',tSu X.K aj a cls d i y st D σ' H'->D'.nx σ' H') :
  tAsg (tU X.K aj a cls d i λx=>Nt y x se) (gName j) D' σ H:=by
 obtain⟨g,Z,M,x,Z2,I,e,nj,k⟩:=h;rw[Di]at e;obtain⟨z,e1,e⟩:=aqd.mp e;refine⟨g,Z,M,x,z,I,e1,λv H' x1 r1=>nx _ _ ⟨g,Z.set j (some (.dat z)),M,x,Z2,⟨(I.ex x1).inv.set r1,(I.ex x1).xr,λjj hj=>?_⟩,e,λp hp=>nj p (aqk _ hp),λσ' H2 x2 I2=>k σ' H2 (x1.trans x2) I2⟩⟩;have ne:j≠jj:=λz=>nj (j,se) aqj (by rw[hj,z]);rw[aqn ne];exact I.sl jj hj
theorem akc{i:Option Nat}{D:Ends}{σ:L2.St}{H:Hp}(h:tSu X.K aj a cls d i y [] D σ H):D.nx σ H:=by obtain⟨g,Z,M,x,Z2,I,e,nj,k⟩:=h;cases e;exact k σ H (Ex.refl H) I.inv
end
def amM(K:aqe)(aj:aQ)(h:Hd)(l:Cl):Prop:=(∃D,aj h.y=some D/\l.c=.ref D)/\abl K aj h.y h.tk/\l.nm=h.nm/\(l.ts=λa cls d=>tSu K aj a cls d h.nm h.y h.st)/\∀p∈h.st,h.nm≠some p.1
inductive Es(K:aqe)(aj:aQ):List Hd->List Cl->Prop
 |nil:Es K aj [] []
 |cons {h:Hd} {l:Cl} {hs:List Hd} {ls:List Cl} (o:amM K aj h l) (r:Es K aj hs ls):Es K aj (h::hs) (l::ls)
theorem SInv.off{K:aqe}{aj:aQ}{σ:L2.St}{H:Hp}{g:Gh}{Z:Env}{M:Mo}(I:SInv K aj σ H g Z M)(i:Nat)(v:Option V):SInv K aj (σ.set i v) H g (Z.set i none) M:=by
 have I2:=I.forget (j:=i);refine⟨I2.kd,I2.wok,by rw[aqD,aqD];exact I.len,λj d h=>?_,λj xs h=>?_,λj k xs ys l ne h1 h2 h3=>?_⟩
 ·by_cases e:j=i
  ·subst e;rw[aq5]at h;split at h<;>first | (split at h<;>cases h) | (exact absurd rfl ‹¬_›)
  ·obtain⟨v',a1,a2⟩:=I2.dat j d h;rw[aqn (Ne.symm e)]at a1;exact⟨v',by rw[aqn (Ne.symm e)];exact a1,a2⟩
 ·by_cases e:j=i
  ·subst e;rw[aq5]at h;split at h<;>first | (split at h<;>cases h) | (exact absurd rfl ‹¬_›)
  ·obtain⟨l,us,a1,a2⟩:=I2.own j xs h;rw[aqn (Ne.symm e)]at a1;exact⟨l,us,by rw[aqn (Ne.symm e)];exact a1,a2⟩
 ·have n1:j≠i:=λz=>by
   subst z;rw[aq5]at h1;split at h1<;>first | (split at h1<;>cases h1) | (exact absurd rfl ‹¬_›)
  have n2:k≠i:=λz=>by
   subst z;rw[aq5]at h2;split at h2<;>first | (split at h2<;>cases h2) | (exact absurd rfl ‹¬_›)
  rw[aqn (Ne.symm n1)]at h1 h3;rw[aqn (Ne.symm n2)]at h2 ⊢;exact I.sep j k xs ys l ne h1 h2 h3
section
variable{X:Cx}{aj:aQ}{W:WX}{q:Bool}{body:List Stmt}{h0:ExceptHandler}{hds:List ExceptHandler}{hs:List Hd}{ls:List Cl}{pos:Pos}{f:SF}
theorem ah1{D:Ends}{g g':Gh}{H H':Hp}{σ':L2.St}{Z':Env}{M':Mo}{x:cY}{c:Value}{dd:Option Addr}(ha:Es X.K aj hs ls)(r:Gr q g g' H H')(I:SInv X.K aj σ' H' g' Z' M')(xr:pU X.K aj g'.fr H' x c dd)
  (z:(hdl hs x Z' M').sat (sN X.K aj q D.nx g H) (sR X.K aj q D.rt g H) (sN X.K aj q D.bk g H) (sN X.K aj q D.ct g H) (sX X.K aj W q g H)):Xq X.K W D ls c dd σ' H':=by
 induction ha with
 |nil=>exact z σ' H' g' c dd r I xr
 | @cons h l hs ls o _ ih=>
  obtain⟨⟨D0,o1,o2⟩,o3,o4,o5,o6⟩:=o;rw[hdl]at z;obtain⟨C,c1,c2,c3⟩:=id xr;split at z
  ·next ht=>
   refine⟨true,by rw[c2,o2];exact o3 _ _ _ ht c1 _ o1,λ_ a na=>?_,λy=>nomatch y⟩;rw[o4,o5];split at z
   ·next hm=>
    split at z
    ·next Z2 hr=>
     cases hnm:h.nm with
     |none=>
      rw[hnm]at hr z o6;exact⟨g',Z',M',x,Z2,⟨I,xr,λj hj=>nomatch hj⟩,hr,o6,λσ2 H2 e2 I2=>z σ2 H2 g' (r.trans (Gr.ex e2)) I2⟩
     |some i=>
      rw[hnm]at hr z o6 hm;refine⟨g',Z'.set i none,M',x,Z2,⟨I.off i _,xr,λj hj=>?_⟩,hr,o6,λσ2 H2 e2 I2=>z _ H2 g' (r.trans (Gr.ex e2)) (I2.off i none)⟩;cases hj;have hl:i < Z'.length:=aru hm;rw[aqw (by rw[I.len];exact hl)]
    ·exact arq z
   ·exact arq z
  ·next ht=>exact⟨false,by rw[c2,o2];exact o3 _ _ _ ht c1 _ o1,(λy=>nomatch y),λ_=>ih z⟩
  ·exact arq z
theorem ahK(st:X.stack=X.env::X.outer)(hf:X.env.frame=some X.env.locals)(hN:X.N.Nodup)(tk:Takes X W)
  (hb:∀(W':WX) (pn:List (Addr×Obj)) (xe:Value->Shared->Prop),Takes (X.tr pn xe) W'->PassesOwn (model X.prog X.w) X.A X.env xe->Jf aj (X.tr pn xe) W' q body f)
  (hh:Bm X (h0::hds) ls) (ha:Es X.K aj hs ls):SE aj X W q (.Try body (h0::hds) [] [] pos) (Zh f hs):=by
 refine PS.weak (afW (tb:=λW'=>tS X.K aj W' q f) st hf hN tk (λW' pn xe t p=>hb W' pn xe t p) hh) λD σ H ⟨g,Z,M,I,z⟩=>?_;refine⟨g,Z,M,I,?_⟩;unfold Zh at z;cases hfm:f M Z with
 |next Z' M'=>rw[hfm]at z;exact z
 |ret d M'=>rw[hfm]at z;exact z
 |brk Z' M'=>rw[hfm]at z;exact z
 |cont Z' M'=>rw[hfm]at z;exact z
 |bad=>rw[hfm]at z;exact z
 |exc x Z' M'=>
  rw[hfm]at z;exact λσ' H' g' c dd r I' xr=>ah1 ha r I' xr z
end
section
variable{K:aqe}{aj:aQ}{W:WX}{g g':Gh}{H H':Hp}{σ:L2.St}{Z:Env}{M:Mo}
theorem ji.grow{l:Addr}(r:Gr false g g' H H')(e:Ex H H')(k:Kd g H):∀{n:Bool} {kvs:List (Dat×Dat)},ji K aj g H l n kvs->ji K aj g' H' l n kvs
 |false,_,⟨kv,h1,h2,h3⟩=>⟨kv,e _ _ h1,h2,h3.gr r k⟩
 |true,_,⟨o,xs,vs,h1,h2,h3,h4,h5,h6⟩=>⟨o,xs,vs,e _ _ h1,h2,h3,h4.gr r k,h5,h6.gr r k⟩
theorem dO.grow{h:Nat}{f:Str}{v:V}(r:Gr false g g' H H')(e:Ex H H')(o:g'.ow=g.ow)(k:Kd g H):∀{fl:iV},dO K aj g H h f v fl->dO K aj g' H' h f v fl
 |.dat _,z=>Rep.gr r k z
 |.lst _ _,⟨l,us,h1,h2,h3,h4,h5⟩=>⟨l,us,h1,e _ _ h2,by rw[o];exact h3,h4.gr r k,r.tb h5⟩
 |.dic _ _,⟨l,h1,h2,h3⟩=>⟨l,h1,by rw[o];exact h2,h3.grow r e k⟩
theorem cM.grow{h:Nat}(r:Gr false g g' H H')(e:Ex H H')(o:g'.ow=g.ow)(k:Kd g H){fs:List (Str×V)}{gs:List (Str×iV)}(t:cM K aj g H h fs gs):cM K aj g' H' h fs gs:=by
 induction t with
 |nil=>exact .nil
 |cons z _ ih=>exact .cons (z.grow r e o k) ih
def Gh.push(g:Gh)(x:Addr):Gh:={ g with tbl:=g.tbl++[x] }
theorem Y9{x a:Addr}(z:(g.push x).A a):g.A a∨a=x:=by
 rcases z with(z|z)|z|z
 ·rcases aqq.mp z with z|z
  ·exact .inl (.inl (.inl z))
  ·exact .inr (aql.mp z)
 ·exact .inl (.inl (.inr z))
 ·exact .inl (.inr (.inl z))
 ·exact .inl (.inr (.inr z))
theorem Xc{x a:Addr}(z:(g.push x).W a):g.W a∨a=x:=by
 rcases z with z|z
 ·rcases aqq.mp z with z|z
  ·exact .inl (.inl z)
  ·exact .inr (aql.mp z)
 ·exact .inl (.inr z)
theorem SQ{x:Addr}(e:Ex H H')(nx:H x=none):Gr false g (g.push x) H H' where
 keep:=λa o h _ _=>e a o h
 keepW:=λz=>nomatch z
 dom:=Cq e
 tbl:=⟨[x],rfl⟩
 W:=λa z=>z.elim (λz=>.inl (aqP _ z)) .inr
 nW:=λa z=>(Xc z).imp id λz=>by rw[z];exact nx
 qg:=λz=>nomatch z
 Lc:=rfl
 Lo:=λ_ z=>z
 nLo:=λ_ z=>.inl z
theorem aay{x:Addr}{o:HO}(k:Kd g H)(e:Ex H H')(nx:H x=none)(hx:H' x=some o)(m:Ij o):Kd (g.push x) H' where
 ob:=λa z=>by
  rcases Y9 z with z|rfl
  ·obtain⟨u,h1,h2⟩:=k.ob a z;exact⟨u,e _ _ h1,h2⟩
  ·exact⟨o,hx,m⟩
 lo:=λa z y=>by
  rcases Xc y with y|rfl
  ·exact k.lo a z y
  ·obtain⟨u,h1,_⟩:=k.ob a (.inr (.inr z));rw[nx]at h1;cases h1
 lc:=λa z=>by
  refine⟨λy=>?_,(k.lc a z).2⟩;rcases Xc y with y|rfl
  ·exact(k.lc a z).1 y
  ·obtain⟨u,h1,_⟩:=k.ob a (.inr (.inl z));rw[nx]at h1;cases h1
theorem Xr{x:Addr}{c:Str}(k:Kd g H)(w:fU K aj g H M)(e:Ex H H')(nx:H x=none)(hx:c=""∨∃C dx,aj c=some C/\H' x=some (.ins C dx [])):fU K aj (g.push x) H' (M++[⟨c,[]⟩]):=by
 have gt:∀{h:Nat} {a:Addr},(g.push x).tbl[h]?=some a->(g.tbl[h]?=some a)∨(h=M.length/\a=x):=λ{h a} z=>by
  have z:(g.tbl++[x])[h]?=some a:=z;by_cases hl:h < g.tbl.length
  ·rw[aqr hl]at z;exact .inl z
  ·rw[aqy (by omega)]at z;have:=(aqg.mp z).1;simp at this;have e0:h - g.tbl.length=0:=by omega
   rw[e0]at z;cases z;exact .inr ⟨by rw[←w.len];omega,rfl⟩
 have nin:∀{h:Nat},¬g.tbl[h]?=some x:=λ{h} z=>by
  obtain⟨u,h1,_⟩:=k.ob x (.inl (.inl (aqm z)));rw[nx]at h1;cases h1
 have ex:∀{h:Nat} {i:Inst},(M++[(⟨c,[]⟩:Inst)])[h]?=some i->M[h]?=some i∨i=⟨c,[]⟩:=λ{h i} h1=>by
  by_cases hl:h < M.length
  ·rw[aqr hl]at h1;exact .inl h1
  ·rw[aqy (by omega)]at h1;exact .inr (aql.mp (aqm h1))
 refine⟨by show(g.tbl++[x]).length=_;simp[w.len],λh j a h1 h2=>?_,λh a i h1 h2 hcn=>?_,λh i h1=>?_,λh i h1=>?_,λh a i h1 h2 hcn=>?_,λh i h1 hcn=>?_,w.nc⟩
 ·rcases gt h1 with z1|⟨z1,rfl⟩
  ·rcases gt h2 with z2|⟨z2,rfl⟩
   ·exact w.inj h j a z1 z2
   ·exact absurd z1 nin
  ·rcases gt h2 with z2|⟨z2,_⟩
   ·exact absurd z2 nin
   ·omega
 ·rcases gt h1 with z1|⟨rfl,rfl⟩
  ·have hl:h < M.length:=by rw[←w.len];exact(aqg.mp z1).1
   rw[aqr hl]at h2;obtain⟨C',dx',fs,c1,c2,c3⟩:=w.ins h a i z1 h2 hcn;exact⟨C',dx',fs,c1,e _ _ c2,c3.grow (SQ e nx) e rfl k⟩
  ·rw[aqy (aqF _),Nat.sub_self]at h2;cases h2;rcases hx with rfl|⟨C,dx,hc,hx⟩
   ·exact absurd rfl hcn
   ·exact⟨C,dx,[],hc,hx,.nil⟩
 ·rcases ex h1 with h1|rfl
  ·exact w.nd h i h1
  ·exact List.nodup_nil
 ·rcases ex h1 with h1|rfl
  ·exact w.fd h i h1
  ·exact λf hf=>absurd hf aqM
 ·rcases gt h1 with z1|⟨_,rfl⟩
  ·have hl:h < M.length:=by rw[←w.len];exact(aqg.mp z1).1
   rw[aqr hl]at h2;exact w.tw h a i z1 h2 hcn
  ·cases hz:g.ow a with
   |none=>exact hz
   |some p=>
    obtain⟨u,h2,_⟩:=k.ob a (.inl (.inr (by rw[hz];exact λy=>nomatch y)));rw[nx]at h2;cases h2
 ·rcases ex h1 with h1|rfl
  ·exact w.dm h i h1 hcn
  ·rfl
theorem SInv.grow{M':Mo}(r:Gr false g g' H H')(e:Ex H H')(lo:g'.Lo=g.Lo)(k':Kd g' H')(w':fU K aj g' H' M')(I:SInv K aj σ H g Z M):SInv K aj σ H' g' Z M' where
 kd:=k'
 wok:=w'
 len:=I.len
 dat:=λi d h=>by
  obtain⟨v,h1,h2⟩:=I.dat i d h;exact⟨v,h1,h2.gr r I.kd⟩
 own:=λi xs h=>by
  obtain⟨l,us,h1,h2,h3,h4⟩:=I.own i xs h;exact⟨l,us,h1,e _ _ h2,by rw[lo];exact h3,h4.gr r I.kd⟩
 sep:=I.sep
end
theorem abC{P:Program}{w:World}{K:aqe}{mg:Str->Option Value}{base:Heap}{k:Nat}{f:Addr}{fd:FuncData}{ps:List Str}{sp:Sp}(F:FnOk P w K mg base (L2.CX P w) k f fd ps sp):FnOk P w K mg base L2.CX0 k f fd ps λvs H Q _=>sp vs H Q λ_ _ _=>False:=
 ⟨λvs H Q E h=>F.len vs H Q _ h,λA outer s H args us vs Q E hr he hb hv h=>codeAny_mono (F.run A outer s H args us vs Q _ hr he hb hv h) λr s' z=>by
  unfold CR at z ⊢;split at z
  ·exact z
  ·exact z
  ·obtain⟨a,B,H',cls,d,_,_,_,_,_,_,_,y⟩:=z;exact arq y⟩
def Ac(x:Str)(m:Mo->List Dat->bB Dat)(as:QA):GF:=λM Z=>((as M Z).at M).bind λds _=>match m (M++[⟨x,[]⟩]) (obj M.length::ds) with
 |.ok .none M'=>.ok (obj M.length) M'
 |_=>.bad
section
variable{X:Cx}{aj:aQ}{W:WX}{x:Str}{pos p:Pos}{k n:Nat}{m:Mo->List Dat->bB Dat}{as:QA}{t:TA}{e:Expr}{es:List Expr}
theorem ab2{C f:Addr}{fd:FuncData}{ps:List Str}(hc:aj x=some C)(hp:ps.length=n+1)(hn:∀M Z ds,as M Z=.ok ds->ds.length=n)(ht:∀σ H Q,M6 X.K aj W as σ H Q->t σ H Q)(σ:L2.St)(H:Hp)(Q:VK)(h:tE X.K aj W false (Ac x m as) σ H Q) :
  tMake C (λvs H Q _=>Jc X.K aj ps.length m vs H Q λ_ _ _=>False) [] (λ_ _ _=>False) t σ H Q:=by
 obtain⟨g,Z,M,I,h⟩:=h;unfold Ac at h;have h:=h.bnd;refine ht σ H _ ⟨g,Z,M,I,?_⟩;cases has:as M Z with
 |exc x=>rw[has]at h;exact λH' c dd e r=>h H' g c dd (Gr.ex e) (I.ex e) r
 |bad=>rw[has]at h;exact arq h
 |ok ds=>
  rw[has]at h;intro vs H1 e1 r1 y dx ny ndx ne;have I1:=I.ex e1;have e2:Ex H1 (upd (upd H1 dx (.own y)) y (.ins C dx [])):=by refine(Ex.new ndx).trans (Ex.new ?_);rw[upd_ne ne.symm];exact ny
  have hy:upd (upd H1 dx (.own y)) y (.ins C dx []) y=some (.ins C dx []):=upd_same;have gr:=SQ (g:=g) e2 ny;have kd:=aay I1.kd e2 ny hy trivial;have wk:=Xr (c:=x) I1.kd I1.wok e2 ny (.inr ⟨C,dx,hc,hy⟩);have I2:=I1.grow gr e2 rfl kd wk;have hb:(g.push y).tbl[M.length]?=some y:=by
   show(g.tbl++[y])[M.length]?=_
   rw[←I1.wok.len,aqy (aqF _),Nat.sub_self];rfl
  refine⟨by rw[aqY,aqu,r1.length,hn M Z ds has,hp],g.push y,M++[⟨x,[]⟩],obj M.length::ds,kd,wk,.cons (.obj hb) (by rw[aqY];exact r1.gr gr I1.kd),?_⟩;have h:bB.sat (match m (M++[(⟨x,[]⟩:Inst)]) (obj M.length::ds) with
   |.ok .none M'=>bB.ok (obj M.length) M'
   |_=>.bad) (λd M'=>∀v H' g',Gr false g g' H H'->SInv X.K aj σ H' g' Z M'->Rep X.K g' H' v d->Q v H') (gE X.K aj W false g H σ Z):=h
  cases hm:m (M++[⟨x,[]⟩]) (obj M.length::ds) with
  |bad=>rw[hm]at h;exact arq h
  |exc z M'=>rw[hm]at h;exact arq h
  |ok d M'=>
   rw[hm]at h;cases d with
   |none=>exact λv H' g' c k' w' r'=>⟨by cases r';rfl,h (.ref y) H' g' (((Gr.ex e1).trans gr).trans c.gr) (I2.call c k' w') (.obj (c.gr.tb hb))⟩
   |_=>exact arq h
theorem ajk(hr:Room k X.A)(g:bx X.prog X.w X.K X.mg X.base aj k x (.cls n m))(hg:Gl X x)(hd:(x==("__debug__" : Str))=false)(ha:Fe aj X W (e::es) as)(hs:(e::es).all nst=true)(hn:∀M Z ds,as M Z=.ok ds->ds.length=n) :
  GE aj X W false (.Call (.Name x p) (e::es) [] pos) (Ac x m as):=by
 obtain⟨C,f,fd,ps,j,g1,g2,_,g3,hj,hp,hB,F⟩:=g;have hs':=hs;rw[aqS,aqf]at hs';exact PE.weak (pe_make (E:=λ_ _ _=>False) g3 (abC F) (hr.mono hj) hg g1 hB .nil pass0 ha hd (cO hs'.1 es) (star_any es hs'.2)) λσ H Q h=>ab2 (f:=f) (fd:=fd) g2 hp hn (λ_ _ _ z=>z) σ H Q h
theorem agE(hr:Room k X.A)(g:bx X.prog X.w X.K X.mg X.base aj k x (.cls 0 m))(hg:Gl X x)(hd:(x==("__debug__" : Str))=false):GE aj X W false (.Call (.Name x p) [] [] pos) (Ac x m au):=by obtain⟨C,f,fd,ps,j,g1,g2,_,g3,hj,hp,hB,F⟩:=g;exact PE.weak (pe_make0 (E:=λ_ _ _=>False) g3 (abC F) (hr.mono hj) hg g1 hB .nil pass0 hd) λσ H Q h=>ab2 (f:=f) (fd:=fd) (as:=au) g2 hp (λM Z ds z=>by cases z;rfl) (λσ H Q ⟨g,Z,M,I,z⟩=>z [] H (Ex.refl H) .nil) σ H Q h
end
def WL(m:Mo->List Dat->bB Dat)(as:QA):GF:=λM Z=>((as M Z).at M).bind λds _=>m M ds
section
variable{X:Cx}{aj:aQ}{W:WX}{e:Expr}{es:List Expr}{pos p:Pos}{x:Str}{k:Nat}{f:Addr}{fd:FuncData}{ps:List Str}
theorem ahu{m:Mo->List Dat->bB Dat}{as:QA}(tk:Takes X W)(F:FnOk X.prog X.w X.K X.mg X.base (L2.CX X.prog X.w) k f fd ps (Jc X.K aj ps.length m))(hr:Room k X.A)(hg:Gl X x)(hm:X.mg x=some (.ref f))(hk:PySem.W.keepIn X.K (.ref f)=true)(hb:Binds X.K fd ps [])
  (ha:Fe aj X W (e::es) as) (hl:(e::es).length=ps.length) (hd:(x==("__debug__" : Str))=false) (hs:(e::es).all nst=true) (hn:∀M Z ds,as M Z=.ok ds->ds.length=(e::es).length):GE aj X W false (.Call (.Name x p) (e::es) [] pos) (WL m as):=by
 have hs':=hs;rw[aqS,aqf]at hs';refine PE.weak (pe_callS (E:=λσ=>WE W σ) F hr hg hm hk hb (λσ=>passAt tk σ) ha hd (cO hs'.1 es) (star_any es hs'.2)) λσ H Q ⟨g,Z,M,I,h⟩=>?_;refine⟨g,Z,M,I,?_⟩;have h:=h.bnd;cases has:as M Z with
 |exc x=>rw[has]at h;exact λH' c dd e r=>h H' g c dd (Gr.ex e) (I.ex e) r
 |bad=>rw[has]at h;exact arq h
 |ok ds=>
  rw[has]at h;have h:(m M ds).sat (λd M'=>∀v H' g',Gr false g g' H H'->SInv X.K aj σ H' g' Z M'->Rep X.K g' H' v d->Q v H') (gE X.K aj W false g H σ Z):=h;intro vs H1 e1 r1;exact⟨by rw[r1.length,hn M Z ds has];exact hl,g,M,ds,I.kd.ex e1,I.wok.ex e1 I.kd,r1,h.mono (λd M' kk v H' g' c k' w' r'=>kk v H' g' ((Gr.ex e1).trans c.gr) ((I.ex e1).call c k' w') r') λx M' kk H' g' cc dd c k' w' r'=>kk H' g' cc dd ((Gr.ex e1).trans c.gr) ((I.ex e1).call c k' w') r'⟩
end
def Ft.has(ft:Ft)(c f:Str):Bool:=match ft.lookup c with
 |some fs=>fs.contains f
 |none=>false
def KY(ft:Ft)(aj:aQ):Prop:=∀c f,ft.has c f=true->f∈aj.fl c
def unH:Dat->Option Nat
 |.dict [(.none,.int (.ofNat h))]=>some h
 |_=>none
theorem aeJ{d:Dat}{h:Nat}(e:unH d=some h):d=obj h:=by
 unfold unH at e;split at e
 ·cases e;rfl
 ·cases e
def jT(M:Mo)(d:Dat):Option (Nat×Inst):=(unH d).bind λh=>(M[h]?).bind λi=>match i.cls=="" with
 |true=>none
 |false=>some (h,i)
theorem Ht{M:Mo}{d:Dat}{h:Nat}{i:Inst}(e:jT M d=some (h,i)):d=obj h/\M[h]?=some i/\i.cls≠"":=by
 unfold jT at e;obtain⟨h',e1,e⟩:=aqd.mp e;obtain⟨i',e2,e⟩:=aqd.mp e;split at e
 ·cases e
 ·next hc=>
  cases e;exact⟨aeJ e1,e2,λz=>by rw[z]at hc;cases hc⟩
def ug(ft:Ft)(o:QF)(f:Str)(e:GF):SF:=λM Z=>(e M Z).then Z λd M1=>((o M1 Z).at M1).then Z λod M2=>match jT M2 od with
 |some (h,i)=>match ft.has i.cls f&&decide (i.fs.length < 100) with
  |true=>.next Z (M2.set h (i.put f (.dat d)))
  |false=>.bad
 |none=>.bad
theorem SInv.chg{K:aqe}{aj:aQ}{σ:L2.St}{H H':Hp}{g g':Gh}{Z:Env}{M M':Mo}{h:Nat}{f:Str}(I:SInv K aj σ H g Z M)(c:Chg M g g' H H' h f)(w:fU K aj g' H' M'):SInv K aj σ H' g' Z M':=I.call c.gc c.kd w
section
variable{X:Cx}{aj:aQ}{W:WX}{o e:Expr}{f:Str}{pos pos':Pos}{ft:Ft}{fo:QF}
theorem Fq{K:aqe}{g:Gh}{H:Hp}{M:Mo}{d:Dat}{v:V}{h:Nat}{i:Inst}(co:jk K aj)(fk:KY ft aj)(w:fU K aj g H M)(r:dZ K g H v d)(hi:jT M d=some (h,i))(hf:ft.has i.cls f=true):∃a C dx fs,d=obj h/\M[h]?=some i/\i.cls≠""/\g.tbl[h]?=some a/\v=.ref a/\aj i.cls=some C/\H a=some (.ins C dx fs)/\cM K aj g H h fs i.fs/\Cls K C/\NoAttr K C f/\f∈aj.fl i.cls:=by obtain⟨rfl,h1,h2⟩:=Ht hi;obtain⟨a,rfl,ha⟩:=Ku r;obtain⟨C,dx,fs,c1,c2,c3⟩:=w.ins h a i ha h1 h2;have hfl:=fk _ _ hf;obtain⟨k1,k2⟩:=co i.cls C f c1 hfl;exact⟨a,C,dx,fs,rfl,h1,h2,ha,rfl,c1,c2,c3,k1,k2,hfl⟩
theorem agl{fe:GF}(co:jk X.K aj)(fk:KY ft aj)(ho:QW aj X W o fo)(he:GE aj X W false e fe)(hs:swapsWith e (some (.Attribute o f pos')) pos.line X.env=pure false):SE aj X W false (.Assign [.Attribute o f pos'] e pos) (ug ft fo f fe):=by
 refine PS.weak (ps_fld ho he hs) λD σ H ⟨g,Z,M,I,z⟩=>?_;refine tE.go I (dD (σ:=σ) z) λd M1 v H1 g1 k1 r1 I1 rv=>?_;refine tW.go I1 (k:=λod=>((match jT M1 od with
  |some (h,i)=>match ft.has i.cls f&&decide (i.fs.length < 100) with
   |true=>uM.next Z (M1.set h (i.put f (.dat d)))
   |false=>.bad
  |none=>.bad).sat (sN X.K aj false D.nx g H) (sR X.K aj false D.rt g H) (sN X.K aj false D.bk g H) (sN X.K aj false D.ct g H) (sX X.K aj W false g H))) ?_ λod u H2 k2 e2 ru=>?_
 ·have k1:=Out.jc (dD (σ:=σ) k1);exact k1.mono (λ_ y=>y) λx y H' c dd ex rx=>y H' g1 c dd (r1.trans (Gr.ex ex)) (I1.ex ex) rx
 ·have I2:=I1.ex e2;split at k2
  ·next h i hi=>
   split at k2
   ·next hb=>
    rw[aqf]at hb;obtain⟨a,C,dx,fs,_,m1,m2,ha,rfl,c1,c2,c3,c4,c5,c6⟩:=Fq co fk I2.wok ru hi hb.1;refine⟨a,C,dx,fs,rfl,c2,c4,c5,?_,?_⟩
    ·have:=aru hb.2;rw[c3.len];omega
    ·have ch:=T8 (f:=f) (C:=C) (dx:=dx) (fs':=putF f v fs) I2.kd I2.wok ha m1 m2;have w':=I2.wok.chg I2.kd ch ha m1 m2 c6 c1 c3 upd_same (fl:=.dat d) (show Rep X.K g1 _ v d from(rv.ex e2 I1.kd).gr ch.gc.gr I2.kd);exact k2 σ _ g1 ((r1.trans (Gr.ex e2)).trans ch.gc.gr) (I2.chg ch w')
   ·exact arq k2
  ·exact arq k2
end
mutual
theorem Rep.mv{K:aqe}{g g':Gh}{H:Hp}(tb:∀(h:Nat) (a:Addr),g.tbl[h]?=some a->g'.tbl[h]?=some a)(n:∀a,g'.A a->g.A a):∀{v:V} {d:Dat},Rep K g H v d->Rep K g' H v d
 |_,_,.non=>.non
 |_,_,.bl b=>.bl b
 |_,_,.int i=>.int i
 |_,_,.str x=>.str x
 |_,_,.tup h t=>.tup h (aJ.mv tb n t)
 |_,_,.lst h t=>.lst (h.elim (λz=>.inl ⟨z.1,λy=>z.2 (n _ y)⟩) .inr) (aJ.mv tb n t)
 |_,_,.obj h=>.obj (tb _ _ h)
theorem aJ.mv{K:aqe}{g g':Gh}{H:Hp}(tb:∀(h:Nat) (a:Addr),g.tbl[h]?=some a->g'.tbl[h]?=some a)(n:∀a,g'.A a->g.A a):∀{vs:List V} {ds:List Dat},aJ K g H vs ds->aJ K g' H vs ds
 |_,_,.nil=>.nil
 |_,_,.cons h t=>.cons (Rep.mv tb n h) (aJ.mv tb n t)
end
def Dt(ft:Ft)(o:QF)(f:Str)(e:IF):SF:=λM Z=>((e M Z).at M).then Z λxs M0=>((o (M0++[⟨"",[]⟩]) Z).at (M0++[⟨"",[]⟩])).then Z λod M2=>match jT M2 od with
 |some (h,i)=>match ft.has i.cls f&&decide (i.fs.length < 100) with
  |true=>.next Z (M2.set h (i.put f (.lst M0.length xs)))
  |false=>.bad
 |none=>.bad
theorem JT{K:aqe}{aj:aQ}{σ:L2.St}{H H':Hp}{g:Gh}{Z:Env}{M:Mo}{l:Addr}{o:HO}(I:SInv K aj σ H g Z M)(nl:H l=none)(e:Ex H H')(hl:H' l=some o)(m:Ij o):Gr false g (g.push l) H H'/\SInv K aj σ H' (g.push l) Z (M++[⟨"",[]⟩])/\(g.push l).tbl[M.length]?=some l/\(g.push l).ow l=none/\(M++[(⟨"",[]⟩:Inst)])[M.length]?=some ⟨"",[]⟩:=by
 have gr:=SQ (g:=g) e nl;have kd:=aay I.kd e nl hl m;have wk:=Xr (c:="") I.kd I.wok e nl (.inl rfl)
 refine⟨gr,I.grow gr e rfl kd wk,?_,?_,?_⟩
 ·show(g.tbl++[l])[M.length]?=_
  rw[←I.wok.len,aqy (aqF _),Nat.sub_self];rfl
 ·cases hz:g.ow l with
  |none=>exact hz
  |some p=>
   obtain⟨u,h1,_⟩:=I.kd.ob l (.inl (.inr (by rw[hz];exact λy=>nomatch y)));rw[nl]at h1;cases h1
 ·rw[aqy (aqF _),Nat.sub_self];rfl
section
variable{X:Cx}{aj:aQ}{W:WX}{o e:Expr}{f:Str}{pos pos' p1 apos epos spos:Pos}{ft:Ft}{fo:QF}
theorem ahy{fe:IF}(co:jk X.K aj)(fk:KY ft aj)(ho:QW aj X W o fo)(he:FE aj X W e fe)(hs:swapsWith e (some (.Attribute o f pos')) pos.line X.env=pure false):SE aj X W false (.Assign [.Attribute o f pos'] e pos) (Dt ft fo f fe):=by
 refine PS.weak (ps_fld ho he hs) λD σ H ⟨g,Z,M,I,z⟩=>?_;refine⟨g,Z,M,I,?_⟩;unfold Dt at z;cases hf:fe M Z with
 |exc x=>rw[hf]at z;exact λH' c dd e r=>z σ H' g c dd (Gr.ex e) (I.ex e) r.fr
 |bad=>rw[hf]at z;exact arq z
 |ok xs=>
  rw[hf]at z;intro l us H1 nl e1 hl rs;obtain⟨gr,I1,tb,ow,mm⟩:=JT I nl e1 hl trivial;have rs1:aJ X.K (g.push l) H1 us xs:=aJ.mv (g:=g.add l) (g':=g.push l) (λh a z=>gr.tb (g:=g) z) (λa z=>by
   rcases Y9 z with z|rfl
   ·rcases z with z|z|z
    ·exact .inl z
    ·exact .inr (.inl z)
    ·exact .inr (.inr (show g.Lo a∨a=l from Or.inl z))
   ·exact .inr (.inr (show g.Lo a∨a=a from Or.inr rfl))) rs
  have z:(((fo (M++[⟨"",[]⟩]) Z).at (M++[⟨"",[]⟩])).then Z λod M2=>match jT M2 od with
   |some (h,i)=>match ft.has i.cls f&&decide (i.fs.length < 100) with
    |true=>.next Z (M2.set h (i.put f (.lst M.length xs)))
    |false=>.bad
   |none=>.bad).sat (sN X.K aj false D.nx g H) (sR X.K aj false D.rt g H) (sN X.K aj false D.bk g H) (sN X.K aj false D.ct g H) (sX X.K aj W false g H):=z
  have k1:=Out.jc (dD (σ:=σ) z);refine tW.go I1 (k1.mono (λ_ y=>y) λx y H' c dd ex rx=>y H' _ c dd (gr.trans (Gr.ex ex)) (I1.ex ex) rx) λod u H2 k2 e2 ru=>?_;have I2:=I1.ex e2;split at k2
  ·next h i hi=>
   split at k2
   ·next hb=>
    rw[aqf]at hb;obtain⟨a,C,dx,fs,_,m1,m2,ha,rfl,c1,c2,c3,c4,c5,c6⟩:=Fq co fk I2.wok ru hi hb.1;have nla:l≠a:=λz=>by
     subst z;cases I2.wok.inj _ _ _ ha tb;rw[mm]at m1;cases m1;exact m2 rfl
    refine⟨a,C,dx,fs,rfl,c2,c4,c5,?_,?_⟩
    ·have:=aru hb.2;rw[c3.len];omega
    ·have ch:=Sh (f:=f) (C:=C) (dx:=dx) (fs':=putF f (.ref l) fs) I2.kd I2.wok ha m1 m2 tb mm ow;have w':=I2.wok.chg I2.kd ch ha m1 m2 c6 c1 c3 upd_same (v:=.ref l) (fl:=.lst M.length xs) ⟨l,us,rfl,by rw[upd_ne nla];exact e2 _ _ hl,if_pos rfl,(rs1.ex e2 I1.kd).gr ch.gc.gr I2.kd,ch.gc.gr.tb tb⟩;exact k2 σ _ _ ((gr.trans (Gr.ex e2)).trans ch.gc.gr) (I2.chg ch w')
   ·exact arq k2
  ·exact arq k2
def Eb(M:Mo)(f:Str)(d:Dat):Option (Nat×Inst×Nat×List Dat):=(jT M d).bind λp=>match p.2.fs.lookup f with
 |some (.lst n xs)=>some (p.1,p.2,n,xs)
 |_=>none
theorem Rx{K:aqe}{g:Gh}{H:Hp}{M:Mo}{d:Dat}{v:V}{h n:Nat}{i:Inst}{xs:List Dat}(co:jk K aj)(w:fU K aj g H M)(r:dZ K g H v d)(hi:Eb M f d=some (h,i,n,xs)) :
  ∃a C dx fs l us,d=obj h/\M[h]?=some i/\i.cls≠""/\i.fs.lookup f=some (.lst n xs)/\g.tbl[h]?=some a/\v=.ref a/\aj i.cls=some C/\H a=some (.ins C dx fs)/\cM K aj g H h fs i.fs/\Cls K C/\NoAttr K C f/\f∈aj.fl i.cls/\fs.lookup f=some (.ref l)/\H l=some (.lst us)/\g.ow l=some (h,f)/\aJ K g H us xs/\g.tbl[n]?=some l:=by
 unfold Eb at hi;obtain⟨⟨h',i'⟩,h1,hi⟩:=aqd.mp hi;split at hi
 ·next n' xs' hl=>
  cases hi;obtain⟨rfl,m1,m2⟩:=Ht h1;obtain⟨a,rfl,ha⟩:=Ku r;obtain⟨C,dx,fs,c1,c2,c3⟩:=w.ins _ a _ ha m1 m2;have hfl:=w.fd _ _ m1 f (lookup_mem hl);obtain⟨k1,k2⟩:=co _ C f c1 hfl;obtain⟨u,l1,l,us,rfl,l3,l4,l5,l6⟩:=c3.get hl;exact⟨a,C,dx,fs,l,us,rfl,m1,m2,hl,ha,rfl,c1,c2,c3,k1,k2,hfl,l1,l3,l4,l5,l6⟩
 ·cases hi
theorem aaf{K:aqe}{σ:L2.St}{Z:Env}{g:Gh}{H:Hp}{M:Mo}{h n:Nat}{i:Inst}{ys:List Dat}{a C dx l:Addr}{fs:List (Str×V)}{us':List V}(I:SInv K aj σ H g Z M)(m1:M[h]?=some i)(m2:i.cls≠"")(ha:g.tbl[h]?=some a)(c1:aj i.cls=some C)(c2:H a=some (.ins C dx fs))(c3:cM K aj g H h fs i.fs)(hfl:f∈aj.fl i.cls)(l1:fs.lookup f=some (.ref l))(l4:g.ow l=some (h,f))(l6:g.tbl[n]?=some l)(rs:aJ K g H us' ys) :
  Gr false g g H (upd H l (.lst us'))/\SInv K aj σ (upd H l (.lst us')) g Z (M.set h (i.put f (.lst n ys))):=by
 have ch:=acp (o':=.lst us') I.kd I.wok l4 trivial;have nla:a≠l:=λz=>by
  subst z;rw[I.wok.tw h a i ha m1 m2]at l4;cases l4
 have w':=I.wok.chg I.kd ch ha m1 m2 hfl c1 (dx:=dx) c3 (v:=.ref l) (fl:=.lst n ys) (by rw[upd_ne nla,J9 l1];exact c2) ⟨l,us',rfl,upd_same,l4,rs.gr ch.gc.gr I.kd,l6⟩;exact⟨ch.gc.gr,I.chg ch w'⟩
def Dd(f:Str)(o:QF)(e:GF):SF:=λM Z=>((o M Z).at M).then Z λod M0=>match Eb M0 f od with
 |some (_,_,n,_)=>(e M0 Z).then Z λd M1=>match Eb M1 f od with
  |some (h,i,n',xs)=>match n==n'&&decide (xs.length < 100000) with
   |true=>.next Z (M1.set h (i.put f (.lst n (xs++[d]))))
   |false=>.bad
  |none=>.bad
 |none=>.bad
theorem ag5{fe:GF}(co:jk X.K aj)(ho:QW aj X W o fo)(hb:baseOk o=true)(he:GE aj X W false e fe)(hs:nst e=true)(hl:(apos.endLine==pos.line)=true) :
  SE aj X W false (.Expr (.Call (.Attribute (.Attribute o f p1) "append" apos) [e] [] pos) epos) (Dd f fo fe):=by
 have h0:=pe_fld (X:=X) (pos:=p1) (f:=f) ho (lO hb);have h1:=pa_cons he pa_nil (cO hs []);have key:=pe_bm (X:=X) (cpos:=pos) (apos:=apos) PySem.F.plainAttrs_list PySem.F.slot_list_append PySem.F.type_list_append mt_append h0 h1 (lO rfl) (few (by simp[hs]) (by simp)) hl (cO hs []) (by with_unfolding_all rfl);refine PS.weak (ps_expr key (by with_unfolding_all rfl)) λD σ H ⟨g,Z,M,I,z⟩=>?_;unfold Dd at z;have k1:=Out.jc (dD (σ:=σ) z);refine tW.go I (k1.mono (λ_ y=>y) λx y H' c dd ex rx=>y H' _ c dd (Gr.ex ex) (I.ex ex) rx) λod u H1 k2 e1 ru=>?_;have I1:=I.ex e1;split at k2
 ·next h0' i0 n xs0 hi=>
  obtain⟨a,C,dx,fs,l,us,rfl,m1,m2,ml,ha,rfl,c1,c2,c3,c4,c5,c6,l1,l3,l4,l5,l6⟩:=Rx co I1.wok ru hi;refine⟨a,C,dx,fs,.ref l,rfl,c2,c4,c5,l1,.inl ⟨rfl,us,sq_of l3⟩,?_⟩;refine tE.go I1 ((dD (σ:=σ) k2).mono (λ_ _ y=>y) λx M' y=>y.gr (Gr.ex e1)) λd M1 v H2 g2 k3 r2 I2 rv=>?_;split at k3
  ·next h i n' xs hi2=>
   split at k3
   ·next hg=>
    rw[aqf]at hg;cases eq_of_beq hg.1;have ru2:dZ X.K g2 H2 (.ref a) (obj h0'):=Rep.weak (.obj (r2.tb ha));obtain⟨a',C',dx',fs',l',us',eh,n1,n2,nl,hb',ea,d1,d2,d3,d4,d5,d6,p1,p3,p4,p5,p6⟩:=Rx co I2.wok ru2 hi2;cases ea;have el:l'=l:=aqC (p6.symm.trans (r2.tb l6));subst el;obtain⟨gr,I3⟩:=aaf (us':=us'++[v]) (ys:=xs++[d]) I2 n1 n2 hb' d1 d2 d3 d6 p1 p4 p6 (p5.append (.cons rv .nil));refine⟨l',us',v,rfl,rfl,p3,sz_lt (by rw[p5.length];exact aru hg.2),?_⟩;exact k3 σ _ g2 (((Gr.ex e1).trans r2).trans gr) I3
   ·exact arq k3
  ·exact arq k3
 ·exact arq k2
def PN(f:Str)(o fi e:QF):SF:=λM Z=>((e M Z).at M).then Z λd _=>((o M Z).at M).then Z λod _=>match Eb M f od with
 |some (h,i,n,xs)=>((fi M Z).at M).then Z λk _=>match k with
  |.int k=>match ixN xs.length k with
   |some j=>.next Z (M.set h (i.put f (.lst n (xs.set j d))))
   |none=>.bad
  |_=>.bad
 |none=>.bad
theorem af4{i:Expr}{fi fe:QF}(co:jk X.K aj)(ho:QW aj X W o fo)(hb:baseOk o=true)(he:QE aj X W e fe)(hi:QE aj X W i fi)
  (ha:∀v,assign (.Subscript (.Attribute o f p1) i spos) X.env v=(do
   let ov ←holding [v] (eval (.Attribute o f p1) X.env)
   let iv ←holding [v,ov] (eval i X.env)
   standAt spos
   holding [v,ov,iv] (setItem ov iv v)
   release [v,ov,iv] []))
  (hs:swapsWithSole [.Subscript (.Attribute o f p1) i spos] e pos.line X.env=pure false) (h1:(assignEach [.Subscript (.Attribute o f p1) i spos] X.env).map (·.2)=[assign (.Subscript (.Attribute o f p1) i spos) X.env]):SE aj X W false (.Assign [.Subscript (.Attribute o f p1) i spos] e pos) (PN f fo fi fe):=by
 have h0:=pe_fld (X:=X) (pos:=p1) (f:=f) ho (lO hb);refine PS.weak (ps_asg he (pg_sub h0 hi set_list ha) hs (by with_unfolding_all rfl) h1) λD σ H ⟨g,Z,M,I,z⟩=>?_;unfold PN at z;have k1:=Out.jc (dD (σ:=σ) z);refine tQ.go I (k1.mono (λ_ y=>y) λx y H' c dd ex rx=>y H' _ c dd (Gr.ex ex) (I.ex ex) rx) λd v H1 k2 e1 rv=>?_;have I1:=I.ex e1;have k2:=Out.jc (dD (σ:=σ) k2);refine tW.go I1 (k2.mono (λ_ y=>y) λx y H' c dd ex rx=>y H' _ c dd ((Gr.ex e1).trans (Gr.ex ex)) (I1.ex ex) rx) λod u H2 k3 e2 ru=>?_;have I2:=I1.ex e2;have e12:=e1.trans e2;split at k3
 ·next h i' n xs hl=>
  obtain⟨a,C,dx,fs,l,us,rfl,m1,m2,ml,ha',rfl,c1,c2,c3,c4,c5,c6,l1,l3,l4,l5,l6⟩:=Rx co I2.wok ru hl;refine⟨a,C,dx,fs,.ref l,rfl,c2,c4,c5,l1,?_⟩;have k3:=Out.jc (dD (σ:=σ) k3);refine tQ.go I2 (k3.mono (λ_ y=>y) λx y H' c dd ex rx=>y H' _ c dd ((Gr.ex e12).trans (Gr.ex ex)) (I2.ex ex) rx) λk w H3 k4 e3 rw'=>?_;have I3:=I2.ex e3;cases k with
  |int k=>
   simp only at k4;split at k4
   ·next j hj=>
    cases rw';obtain⟨gr,I4⟩:=aaf (us':=us.set j v) (ys:=xs.set j d) I3 m1 m2 ha' c1 (e3 _ _ c2) (c3.ex e3 I2.kd) c6 l1 l4 l6 (((l5.ex e3 I2.kd).set ((rv.ex e2 I1.kd).ex e3 I2.kd) j));refine⟨l,us,k,j,rfl,rfl,e3 _ _ l3,by rw[l5.length];exact hj,?_⟩;exact k4 σ _ g ((Gr.ex (e12.trans e3)).trans gr) I4
   ·exact arq k4
  |_=>exact arq k4
 ·exact arq k3
def QZ(ft:Ft)(f:Str)(o e:QF):SF:=λM Z=>((o M Z).at M).then Z λod _=>match jT M od with
 |some (h,i)=>match i.fs.lookup f,ft.has i.cls f&&decide (i.fs.length < 100) with
  |some (.dat (.int a)),true=>((e M Z).at M).then Z λd _=>match d with
   |.int b=>.next Z (M.set h (i.put f (.dat (.int (a+b)))))
   |_=>.bad
  |_,_=>.bad
 |none=>.bad
theorem afh:InOp X .Add (λx y H Q=>∃i j,x=.int i/\y=.int j/\Q (.int (i+j)) H):=by intro pins s σ H x y u v Q I rx ry h;obtain⟨i,j,rfl,rfl,q⟩:=h;exact iop_add pins s σ H _ _ u v Q I rx ry ⟨i,j,rfl,rfl,q⟩
theorem agR{fe:QF}{tpos:Pos}(co:jk X.K aj)(fk:KY ft aj)(ho:QW aj X W o fo)(he:QE aj X W e fe):SE aj X W false (.AugAssign (.Attribute o f tpos) .Add e pos) (QZ ft f fo fe):=by
 refine PS.weak (ps_fldaug ho he afh) λD σ H ⟨g,Z,M,I,z⟩=>?_;unfold QZ at z;have k1:=Out.jc (dD (σ:=σ) z);refine tW.go I (k1.mono (λ_ y=>y) λx y H' c dd ex rx=>y H' _ c dd (Gr.ex ex) (I.ex ex) rx) λod u H1 k2 e1 ru=>?_;have I1:=I.ex e1;split at k2
 ·next h i hi=>
  split at k2
  ·next b hlk hb=>
   rw[aqf]at hb;obtain⟨a,C,dx,fs,_,m1,m2,ha,rfl,c1,c2,c3,c4,c5,c6⟩:=Fq co fk I1.wok ru hi hb.1;obtain⟨v,l1,l2⟩:=c3.get hlk;refine⟨a,C,dx,fs,v,rfl,c2,c4,c5,l1,?_⟩;have k2:=Out.jc (dD (σ:=σ) k2);refine tQ.go I1 (k2.mono (λ_ y=>y) λx y H' c dd ex rx=>y H' _ c dd ((Gr.ex e1).trans (Gr.ex ex)) (I1.ex ex) rx) λd w H2 k3 e2 rd=>?_;have I2:=I1.ex e2;cases d with
   |int j=>
    cases rd;have l2:Rep X.K g H1 v (.int b):=l2;cases l2;refine⟨b,j,rfl,rfl,dx,fs,e2 _ _ c2,?_,?_⟩
    ·have:=aru hb.2;rw[c3.len];omega
    ·have ch:=T8 (f:=f) (C:=C) (dx:=dx) (fs':=putF f (.int (b+j)) fs) I2.kd I2.wok ha m1 m2;have w':=I2.wok.chg I2.kd ch ha m1 m2 c6 c1 (c3.ex e2 I1.kd) upd_same (v:=.int (b+j)) (fl:=.dat (.int (b+j))) (show Rep X.K g _ _ _ from .int _);exact k3 σ _ g ((Gr.ex (e1.trans e2)).trans ch.gc.gr) (I2.chg ch w')
   |_=>exact arq k3
  ·exact arq k2
 ·exact arq k2
end
mutual
def rR:Dat->Option NestedKey
 |.none=>some .none
 |.int i=>some (.num i)
 |.str x=>some (.text x)
 |.tuple ds=>(wz ds).map .tup
 |.bool _=>none
 |.list _=>none
 |.dict _=>none
def wz:List Dat->Option (List NestedKey)
 |[]=>some []
 |d::ds=>(rR d).bind λk=>(wz ds).bind λks=>some (k::ks)
end
mutual
theorem zN:∀{d:Dat} {k:NestedKey},rR d=some k->k.data=d
 |.none,_,h=>by cases h;rfl
 |.int i,_,h=>by cases h;rfl
 |.str x,_,h=>by cases h;rfl
 |.tuple ds,_,h=>by
  rw[rR,aq1]at h;obtain⟨ks,h1,rfl⟩:=h;rw[NestedKey.data,Qg h1]
theorem Qg:∀{ds:List Dat} {ks:List NestedKey},wz ds=some ks->NestedKey.datas ks=ds
 |[],_,h=>by cases h;rfl
 |d::ds,_,h=>by
  rw[wz]at h;obtain⟨k,h1,h⟩:=aqd.mp h;obtain⟨ks,h2,h⟩:=aqd.mp h;cases h;rw[NestedKey.datas,zN h1,Qg h2]
end
mutual
theorem aag:∀a b:NestedKey,PyData.eqv a.data b.data=NestedKey.beq a b
 |.none,.none=>by simp[NestedKey.data,PyData.eqv,NestedKey.beq]
 |.none,.num _=>by simp[NestedKey.data,PyData.eqv,NestedKey.beq]
 |.none,.text _=>by simp[NestedKey.data,PyData.eqv,NestedKey.beq]
 |.none,.tup _=>by simp[NestedKey.data,PyData.eqv,NestedKey.beq]
 |.num _,.none=>by simp[NestedKey.data,PyData.eqv,NestedKey.beq]
 |.num a,.num b=>by simp[NestedKey.data,PyData.eqv,NestedKey.beq];rfl
 |.num _,.text _=>by simp[NestedKey.data,PyData.eqv,NestedKey.beq]
 |.num _,.tup _=>by simp[NestedKey.data,PyData.eqv,NestedKey.beq]
 |.text _,.none=>by simp[NestedKey.data,PyData.eqv,NestedKey.beq]
 |.text _,.num _=>by simp[NestedKey.data,PyData.eqv,NestedKey.beq]
 |.text a,.text b=>by simp[NestedKey.data,PyData.eqv,NestedKey.beq];rfl
 |.text _,.tup _=>by simp[NestedKey.data,PyData.eqv,NestedKey.beq]
 |.tup _,.none=>by simp[NestedKey.data,PyData.eqv,NestedKey.beq]
 |.tup _,.num _=>by simp[NestedKey.data,PyData.eqv,NestedKey.beq]
 |.tup _,.text _=>by simp[NestedKey.data,PyData.eqv,NestedKey.beq]
 |.tup as,.tup bs=>by
  rw[NestedKey.data,NestedKey.data,PyData.eqv,NestedKey.beq];exact YL as bs
theorem YL:∀as bs:List NestedKey,PyData.eqvAll (NestedKey.datas as) (NestedKey.datas bs)=NestedKey.beqAll as bs
 |[],[]=>by simp[NestedKey.datas,PyData.eqvAll,NestedKey.beqAll]
 |[],_::_=>by simp[NestedKey.datas,PyData.eqvAll,NestedKey.beqAll]
 |_::_,[]=>by simp[NestedKey.datas,PyData.eqvAll,NestedKey.beqAll]
 |a::as,b::bs=>by
  rw[NestedKey.datas,NestedKey.datas,PyData.eqvAll,NestedKey.beqAll,aag a b,YL as bs]
end
theorem aau(a b:NestedKey):PyData.eqv a.data b.data=decide (a=b):=by rw[aag,NestedKey.decide_eq]
section
variable{X:Cx}{pins:List (Addr×Obj)}{σ:L2.St}{H:Hp}{s:Shared}{g:Gh}
mutual
theorem key_is(I:L2.Inv X pins σ H s):∀{v:V} {d:Dat} {k:NestedKey} {u:Value},Rep X.K g H v d->rR d=some k->RelV v u->NestedIs s.heap k u
 |_,_,_,u,.non,e,r=>by
  cases e
  obtain rfl:u=.none:=r
  exact .none
 |_,_,_,_,.int i,e,r=>by
  cases e;obtain⟨t,rfl⟩:=r;exact .int i t
 |_,_,_,_,.str x,e,r=>by
  cases e;obtain⟨t,rfl⟩:=r;exact .text x t
 |_,_,_,u,.tup (a:=a) h t,e,r=>by
  rw[rR,aq1]at e;obtain⟨ks,h1,rfl⟩:=e
  obtain rfl:u=.ref a:=r
  obtain⟨its,r1,⟨o,e1,c1,n,d1⟩,_⟩:=I.tuple h;exact .tup e1 c1 d1 (by simpa using aaD I t h1 r1)
 |_,_,_,_,.bl b,e,r=>by cases e
 |_,_,_,_,.lst _ _,e,r=>by cases e
 |_,_,_,_,.obj _,e,r=>by cases e
theorem aaD(I:L2.Inv X pins σ H s):∀{vs:List V} {ds:List Dat} {ks:List NestedKey} {us:List Value},aJ X.K g H vs ds->wz ds=some ks->Vals vs us->NestedAll s.heap ks us
 |_,_,_,_,.nil,e,r=>by
  cases e;cases r;exact .nil
 |_,_,_,_,.cons h t,e,r=>by
  rw[wz]at e;obtain⟨k,h1,e⟩:=aqd.mp e;obtain⟨ks,h2,e⟩:=aqd.mp e;cases e;cases r with
  |cons r1 r2=>exact .cons (key_is I h h1 r1) (aaD I t h2 r2)
end
end
mutual
theorem aaq:∀k:NestedKey,rR k.data=some k
 |.none=>rfl
 |.num _=>rfl
 |.text _=>rfl
 |.tup ks=>by rw[NestedKey.data,rR,W3 ks];rfl
theorem W3:∀ks:List NestedKey,wz (NestedKey.datas ks)=some ks
 |[]=>rfl
 |k::ks=>by rw[NestedKey.datas,wz,aaq k,W3 ks];rfl
end
def dhas:Bool->List (Dat×Dat)->Dat->Out Bool
 |false,kvs,.int i=>.ok (kvs.any λp=>PyData.eqv p.1 (.int i))
 |true,kvs,.tuple ds=>match rR (.tuple ds) with
  |some k=>match decide (k.depth<=8) with
   |true=>.ok (kvs.any λp=>PyData.eqv p.1 (.tuple ds))
   |false=>.bad
  |none=>.bad
 |_,_,_=>.bad
def yC(M:Mo)(f:Str)(d:Dat):Option (Nat×Inst×Bool×List (Dat×Dat)):=(jT M d).bind λp=>match p.2.fs.lookup f with
 |some (.dic b kvs)=>some (p.1,p.2,b,kvs)
 |_=>none
section
variable{aj:aQ}{f:Str}
theorem Ei{K:aqe}{g:Gh}{H:Hp}{M:Mo}{d:Dat}{v:V}{h:Nat}{i:Inst}{b:Bool}{kvs:List (Dat×Dat)}(co:jk K aj)(w:fU K aj g H M)(r:dZ K g H v d)(hi:yC M f d=some (h,i,b,kvs)) :
  ∃a C dx fs l,d=obj h/\M[h]?=some i/\i.cls≠""/\i.fs.lookup f=some (.dic b kvs)/\g.tbl[h]?=some a/\v=.ref a/\aj i.cls=some C/\H a=some (.ins C dx fs)/\cM K aj g H h fs i.fs/\Cls K C/\NoAttr K C f/\f∈aj.fl i.cls/\fs.lookup f=some (.ref l)/\g.ow l=some (h,f)/\ji K aj g H l b kvs:=by
 unfold yC at hi;obtain⟨⟨h',i'⟩,h1,hi⟩:=aqd.mp hi;split at hi
 ·next b' kvs' hl=>
  cases hi;obtain⟨rfl,m1,m2⟩:=Ht h1;obtain⟨a,rfl,ha⟩:=Ku r;obtain⟨C,dx,fs,c1,c2,c3⟩:=w.ins _ a _ ha m1 m2;have hfl:=w.fd _ _ m1 f (lookup_mem hl);obtain⟨k1,k2⟩:=co _ C f c1 hfl;obtain⟨u,l1,l,rfl,l3,l4⟩:=c3.get hl;exact⟨a,C,dx,fs,l,rfl,m1,m2,hl,ha,rfl,c1,c2,c3,k1,k2,hfl,l1,l3,l4⟩
 ·cases hi
end
theorem RG{kv:List (Key×V)}{i:Int}:∀{kvs:List (Dat×Dat)},kvs.map (·.1)=kv.map (λp=>keyD p.1)->(kvs.any λp=>PyData.eqv p.1 (.int i))=(valV kv (Sum.inl i)).isSome:=by
 induction kv with
 |nil=>
  intro kvs e;cases kvs with
  |nil=>rfl
  |cons _ _=>cases e
 |cons p r ih=>
  intro kvs e;cases kvs with
  |nil=>cases e
  |cons q t=>
   simp only[aqh,List.cons.injEq]at e;rw[aq8,ih e.2,e.1];by_cases h:p.1=Sum.inl i
   ·rw[valV_pos h,h];simp[keyD,PyData.eqv]
   ·rw[valV_neg h];have:PyData.eqv (keyD p.1) (.int i)=false:=by
     cases hp:p.1 with
     |inl j=>
      have:j≠i:=λz=>h (by rw[hp,z]);simp[keyD,PyData.eqv,this]
     |inr x=>simp[keyD,PyData.eqv]
    rw[this,Bool.false_or]
theorem Hh{xs:List lZ}{k:NestedKey}:∀{kvs:List (Dat×Dat)},kvs.map (·.1)=xs.map (λx=>x.1.data)->(kvs.any λp=>PyData.eqv p.1 k.data)=(atKey xs k).isSome:=by
 induction xs with
 |nil=>
  intro kvs e;cases kvs with
  |nil=>rfl
  |cons _ _=>cases e
 |cons p r ih=>
  intro kvs e;cases kvs with
  |nil=>cases e
  |cons q t=>
   simp only[aqh,List.cons.injEq]at e;rw[aq8,ih e.2,e.1,aau];unfold atKey;rw[List.find?_cons];cases hd:decide (p.1=k) with
   |true=>rfl
   |false=>rfl
theorem Gn{X:Cx}{pins:List (Addr×Obj)}{σ:L2.St}{H:Hp}{s:Shared}{g:Gh}{l:Addr}{o:Obj}{xs:List lZ}{ks:List Dat}(I:L2.Inv X pins σ H s)(h1:H l=some (iG l o))(h2:lg X.w l o xs)(h3:ks=xs.map λx=>x.1.data)(h4:aJ X.K g H (xs.map λx=>V.ref x.2.1) ks) :
  s.heap.DictOfH (nestedKind X.prog X.w) l xs:=by
 obtain⟨z1,_,_⟩:=(show ObjOk X.prog X.w H s.heap l (iG l o) from I.hok l _ h1);obtain⟨es,ep,e1,e2⟩:=h2.ent;refine⟨o,es,ep,z1,h2.ex,e1,e2,λx hx=>?_,h2.nd⟩;refine⟨?_,h2.dep x hx⟩;obtain⟨n,hn⟩:=List.mem_iff_getElem?.mp hx;obtain⟨d,hd1,hd2⟩:=h4.get' (i:=n) (v:=V.ref x.2.1) (by rw[aqs,hn];rfl);rw[h3,aqs,hn]at hd1;cases hd1;exact key_is I hd2 (aaq x.1) rfl
def rInD(X:Cx)(neg:Bool):R2:=λx y H Q=>(∃l kv i,y=.ref l/\H l=some (.dK kv)/\x=.int i/\Q (.bl (neg ^^ (valV kv (Sum.inl i)).isSome)) H)∨
 ∃(l:Addr) (o:Obj) (xs:List lZ) (g:Gh) (d:Dat) (b:Addr) (k:NestedKey),y=.ref l/\H l=some (iG l o)/\lg X.w l o xs/\aJ X.K g H (xs.map λx=>V.ref x.2.1) (xs.map λx=>x.1.data)/\x=.ref b/\Rep X.K g H x d/\rR d=some k/\k.depth<=8/\Q (.bl (neg ^^ (atKey xs k).isSome)) H
section
variable{X:Cx}
theorem op_inD(hu:X.A.units+64 < cLine):OpR X (compareOp .In) (rInD X false):=by
 intro pins s σ H x y v u Q I rx ry h;rcases h with⟨l,kv,i,rfl,hl,rfl,q⟩|⟨l,o,xs,g,d,b,k,rfl,h1,h2,h3,rfl,h4,h5,h6,q⟩
 ·obtain rfl:u=Value.ref l:=ry
  exact d_in (by omega) I (DGet.k (k:=Sum.inl i) hl) rx λs' I'=>⟨.bl _,H,I',rfl,by simpa using q⟩
 ·obtain rfl:u=Value.ref l:=ry
  obtain rfl:v=Value.ref b:=rx
  refine wpAny_in_heap (knd:=nestedKind X.prog X.w) (k:=k) (show X.A.in1.units+8 < cLine by show X.A.units+1+8 < cLine;omega) ⟨key_is I h4 h5 rfl,h6⟩ h2.sys (Gn I h1 h2 rfl h3) ?_;exact⟨.bl _,H,I.tok _,rfl,by simpa using q⟩
theorem op_notInD(hu:X.A.units+64 < cLine):OpR X (compareOp .NotIn) (rInD X true):=by
 intro pins s σ H x y v u Q I rx ry h;rcases h with⟨l,kv,i,rfl,hl,rfl,q⟩|⟨l,o,xs,g,d,b,k,rfl,h1,h2,h3,rfl,h4,h5,h6,q⟩
 ·obtain rfl:u=Value.ref l:=ry
  exact d_notIn (by omega) I (DGet.k (k:=Sum.inl i) hl) rx λs' I'=>⟨.bl _,H,I',rfl,by simpa using q⟩
 ·obtain rfl:u=Value.ref l:=ry
  obtain rfl:v=Value.ref b:=rx
  refine notIn_keyed (knd:=nestedKind X.prog X.w) (k:=k) (show X.A.in1.units+8 < cLine by show X.A.units+1+8 < cLine;omega) ⟨key_is I h4 h5 rfl,h6⟩ h2.sys ⟨xs,Gn I h1 h2 rfl h3,rfl⟩ ?_;rw[valueAt_pairsH,Option.isSome_map];exact⟨.bl _,H,I.tok _,rfl,by simpa using q⟩
end
def Ou(neg:Bool)(f:Str)(k o:QF):QF:=λM Z=>(k M Z).bind λd=>(o M Z).bind λod=>match yC M f od with
 |some (_,_,b,kvs)=>(dhas b kvs d).bind λr=>.ok (.bool (neg ^^ r))
 |none=>.bad
section
variable{X:Cx}{aj:aQ}{W:WX}{o k:Expr}{f:Str}{pos p1:Pos}{fo fk:QF}{neg:Bool}{op:CmpOp}
theorem afy(co:jk X.K aj)(hw:aj.w=X.w)(σ:L2.St)(H:Hp)(Q:VK)(h:tQ X.K aj W (Ou neg f fk fo) σ H Q):tOp (rInD X neg) (tQ X.K aj W fk) (tFld X.K (tW X.K aj W fo) f) σ H Q:=by
 obtain⟨g,Z,M,I,h⟩:=h;refine tQ.go I h.bnd λd v H1 h1 e1 r1=>?_;have I1:=I.ex e1;refine tW.go I1 (h1.bnd.mono (λ_ z=>z) λ_ z=>z.ex e1) λod u H2 h2 e2 r2=>?_;have I2:=I1.ex e2;split at h2
 ·next hh i b kvs hd=>
  obtain⟨a,C,dx,fs,l,rfl,m1,m2,ml,ha,rfl,c1,c2,c3,c4,c5,c6,l1,l2,l3⟩:=Ei co I2.wok r2 hd;refine⟨a,C,dx,fs,.ref l,rfl,c2,c4,c5,l1,?_⟩;have r1':=r1.ex e2 I1.kd;unfold dhas at h2;split at h2
  ·next i'=>
   obtain⟨kv,k1,k2,k3⟩:=l3;cases r1';refine .inl ⟨l,kv,i',rfl,k1,rfl,?_⟩;rw[RG k2]at h2;exact h2 _ H2 (e1.trans e2) (.bl _)
  ·next ds=>
   split at h2
   ·next kk hk=>
    split at h2
    ·next hdep=>
     obtain⟨o',xs,vs,k1,k2,k3,k4,k5,k6⟩:=l3;have ek:=zN hk;rw[←ek,Hh k3]at h2;rw[k3]at k4;rw[hw]at k2;cases r1' with
     | @tup b us _ hs ht=>exact .inr ⟨l,o',xs,g,_,b,kk,rfl,k1,k2,k4,rfl,.tup hs ht,hk,aru hdep,h2 _ H2 (e1.trans e2) (.bl _)⟩
    ·exact arq h2
   ·exact arq h2
  ·exact arq h2
 ·exact arq h2
theorem aje(co:jk X.K aj)(hw:aj.w=X.w)(hr:OpR X (compareOp op) (rInD X neg))(hk:QE aj X W k fk)(ho:QW aj X W o fo)(hb:baseOk o=true):QE aj X W (.Compare k [op] [.Attribute o f p1] pos) (Ou neg f fk fo):=
 PE.weak (pe_cmpR hr hk (pe_fld ho (lO hb)) (by cases op<;>rfl)) λσ H Q h=>afy co hw σ H Q h
end
def DPx(X:Cx)(H:Hp)(a:Addr)(y v:V)(R:Hp->Prop):Prop:=(∃kvs i,H a=some (.dK kvs)/\y=.int i/\kvs.length < sizeLine/\R (upd H a (.dK (putK kvs (Sum.inl i) v))))∨
 ∃(o:Obj) (xs:List lZ) (g:Gh) (d:Dat) (b:Addr) (k:NestedKey),H a=some (iG a o)/\lg X.w a o xs/\aJ X.K g H (xs.map λx=>V.ref x.2.1) (xs.map λx=>x.1.data)/\y=.ref b/\Rep X.K g H y d/\rR d=some k/\k.depth<=8/\xs.length < sizeLine/\∀(o':Obj) (u:Value),RelV v u->lg X.w a o' (storedH xs k b u)->R (upd H a (iG a o'))
theorem JG{P:Program}{w:World}{H:Hp}{h:Heap}{l:Addr}{o:Obj}(e:h.get? l=some o):ObjOk P w H h l (iG l o):=⟨e,⟨o,e⟩,λ_ _ e1 k=>k _ e1⟩
theorem ZL{xs:List lZ}{k:NestedKey}{b:Addr}{u:Value}:(storedH xs k b u).map (·.1)=if (atKey xs k).isSome then xs.map (·.1) else xs.map (·.1)++[k]:=by
 unfold storedH;split
 ·rw[aqJ];refine List.map_congr_left λx _=>?_
  show(putAt k u x).1=x.1
  unfold putAt
  split<;>rfl
 ·simp
theorem PL{xs:List lZ}{k:NestedKey}{b:Addr}{u:Value}:(storedH xs k b u).length<=xs.length+1:=by
 unfold storedH
 split<;>simp
theorem Ro{xs:List lZ}{k:NestedKey}{b:Addr}{u:Value}(h:∀x∈xs,x.1.depth<=8)(hk:k.depth<=8):∀x∈storedH xs k b u,x.1.depth<=8:=λx hx=>by
 have:x.1∈(storedH xs k b u).map (·.1):=aqp.mpr ⟨x,hx,rfl⟩;rw[ZL]at this;have old:∀{z:NestedKey},z∈xs.map (·.1)->z.depth<=8:=λ{z} m=>by
  obtain⟨y,hy,rfl⟩:=aqp.mp m;exact h y hy
 split at this
 ·exact old this
 ·rcases aqq.mp this with z|z
  ·exact old z
  ·rw[aql.mp z];exact hk
section
variable{X:Cx}{o i value:Expr}{td ty tv:TE}{pos pos':Pos}
def amf(X:Cx)(td ty tv:TE):TS:=λD σ H=>tv σ H λv H1=>td σ H1 λx H2=>ty σ H2 λy H3=>∃a,x=.ref a/\DPx X H3 a y v λH4=>D.nx σ H4
theorem aex(hu:X.A.units+64 < cLine)(ho:PE X o td)(hi:PE X i ty)(hv:PE X value tv)(hs:swapsWith value (some (.Subscript o i pos')) pos.line X.env=pure false):PS X (.Assign [.Subscript o i pos'] value pos) (amf X td ty tv):=by
 refine⟨λpins s σ H D I h=>?_⟩;refine wpAny_Assign_Subscript (thn (hv.run pins s σ H _ I h) λr s1 ⟨v,H1,I1,rv,q1⟩=>thn (ho.run pins s1 σ H1 _ I1 q1) λu s2 ⟨x,H2,I2,rx,q2⟩=>thn (hi.run pins s2 σ H2 _ I2 q2) λiv s3 ⟨y,H3,I3,ry,a,ex,q3⟩=>?_) hs;subst ex
 obtain rfl:u=Value.ref a:=rx
 rcases q3 with⟨kvs,j,h1,rfl,hl,q⟩|⟨ob,xs,g,d,b,k,h1,h2,h3,rfl,h4,h5,h6,hl,q⟩
 ·exact d_setItem (by omega) I3 (DPut.k (k:=Sum.inl j) h1 hl) ry rv λs4 I4=>⟨σ,_,I4,q⟩
 ·obtain rfl:iv=Value.ref b:=ry
  refine wpAny_setItem_heap (knd:=nestedKind X.prog X.w) (k:=k) (hsz:=Nat.le_of_lt hl) (show X.A.in1.units+8 < cLine by show X.A.units+1+8 < cLine;omega) ⟨key_is I3 h4 h5 rfl,h6⟩ (Gn I3 h1 h2 rfl h3) λh' dd hs'=>?_;obtain⟨o',es,ep,g1,g2,g3,g4,g5,g6⟩:=dd;have nd:lg X.w a o' (storedH xs k b r):=⟨h2.sys,g2,⟨es,ep,g3,g4⟩,g6,by have:=PL (xs:=xs) (k:=k) (b:=b) (u:=r);omega,Ro h2.dep h6⟩;exact⟨σ,_,d_write I3 (by rw[h1];exact True.intro) hs' ⟨o',g1⟩ (JG g1),q o' r rv nd⟩
end
theorem aJ.back{K:aqe}{g:Gh}{H:Hp}{vs:List V}{ds:List Dat}{v:V}{d:Dat}(h:aJ K g H vs ds)(r:Rep K g H v d):aJ K g H (vs++[v]) (ds++[d]):=h.append (.cons r .nil)
theorem La{K:aqe}{aj:aQ}{f:Str}{σ:L2.St}{Z:Env}{g:Gh}{H:Hp}{M:Mo}{h:Nat}{i:Inst}{b:Bool}{kvs':List (Dat×Dat)}{a C dx l:Addr}{fs:List (Str×V)}{o':HO}(I:SInv K aj σ H g Z M)(m1:M[h]?=some i)(m2:i.cls≠"")(ha:g.tbl[h]?=some a)(c1:aj i.cls=some C)(c2:H a=some (.ins C dx fs))(c3:cM K aj g H h fs i.fs)(hfl:f∈aj.fl i.cls)(l1:fs.lookup f=some (.ref l))(l4:g.ow l=some (h,f))(mu:Ij o')
  (new:Gr false g g H (upd H l o')->ji K aj g (upd H l o') l b kvs'):Gr false g g H (upd H l o')/\SInv K aj σ (upd H l o') g Z (M.set h (i.put f (.dic b kvs'))):=by
 have ch:=acp (o':=o') I.kd I.wok l4 mu;have nla:a≠l:=λz=>by
  subst z;rw[I.wok.tw h a i ha m1 m2]at l4;cases l4
 have w':=I.wok.chg I.kd ch ha m1 m2 hfl c1 (dx:=dx) c3 (v:=.ref l) (fl:=.dic b kvs') (by rw[upd_ne nla,J9 l1];exact c2) ⟨l,rfl,l4,new ch.gc.gr⟩;exact⟨ch.gc.gr,I.chg ch w'⟩
def LQ(f:Str)(o k e:QF):SF:=λM Z=>((e M Z).at M).then Z λv _=>((o M Z).at M).then Z λod _=>match yC M f od with
 |some (h,i,b,kvs)=>((k M Z).at M).then Z λd _=>match dhas b kvs d,decide (kvs.length < 100000) with
  |.ok false,true=>.next Z (M.set h (i.put f (.dic b (kvs++[(d,v)]))))
  |_,_=>.bad
 |none=>.bad
def Ls(f:Str)(o k:QF):SF:=λM Z=>((o M Z).at M).then Z λod _=>match yC M f od with
 |some (h,i,b,kvs)=>((k M Z).at M).then Z λd _=>match dhas b kvs d,decide (kvs.length<=100000) with
  |.ok true,true=>.next Z (M.set h (i.put f (.dic b (kvs.filter λp=>!PyData.eqv p.1 d))))
  |_,_=>.bad
 |none=>.bad
theorem Ua{kvs:List (Dat×Dat)}{b r:Bool}{d:Dat}(h:dhas b kvs d=.ok r):(kvs.any λp=>PyData.eqv p.1 d)=r/\((b=false/\∃i,d=.int i)∨(b=true/\∃ds k,d=.tuple ds/\rR d=some k/\k.depth<=8)):=by
 unfold dhas at h;split at h
 ·next i=>
  cases h;exact⟨rfl,.inl ⟨rfl,i,rfl⟩⟩
 ·next ds=>
  split at h
  ·next k hk=>
   split at h
   ·next hd=>
    cases h;exact⟨rfl,.inr ⟨rfl,ds,k,rfl,hk,aru hd⟩⟩
   ·cases h
  ·cases h
 ·cases h
section
variable{X:Cx}{aj:aQ}{W:WX}{o e i:Expr}{f:Str}{pos pos' p1:Pos}{fo fe fk:QF}
theorem ag6(co:jk X.K aj)(hw:aj.w=X.w)(hu:X.A.units+64 < cLine)(ho:QW aj X W o fo)(hb:baseOk o=true)(hk:QE aj X W i fk)(he:QE aj X W e fe)(hs:swapsWith e (some (.Subscript (.Attribute o f p1) i pos')) pos.line X.env=pure false) :
  SE aj X W false (.Assign [.Subscript (.Attribute o f p1) i pos'] e pos) (LQ f fo fk fe):=by
 refine PS.weak (aex hu (pe_fld ho (lO hb)) hk he hs) λD σ H ⟨g,Z,M,I,z⟩=>?_;unfold LQ at z;have k1:=Out.jc (dD (σ:=σ) z);refine tQ.go I (k1.mono (λ_ y=>y) λx y H' c dd ex rx=>y H' _ c dd (Gr.ex ex) (I.ex ex) rx) λd v H1 k2 e1 rv=>?_;have I1:=I.ex e1;have k2:=Out.jc (dD (σ:=σ) k2);refine tW.go I1 (k2.mono (λ_ y=>y) λx y H' c dd ex rx=>y H' _ c dd ((Gr.ex e1).trans (Gr.ex ex)) (I1.ex ex) rx) λod u H2 k3 e2 ru=>?_;have I2:=I1.ex e2;have e12:=e1.trans e2;split at k3
 ·next h i' b kvs hl=>
  obtain⟨a,C,dx,fs,l,rfl,m1,m2,ml,ha,rfl,c1,c2,c3,c4,c5,c6,l1,l2,l3⟩:=Ei co I2.wok ru hl;refine⟨a,C,dx,fs,.ref l,rfl,c2,c4,c5,l1,?_⟩;have k3:=Out.jc (dD (σ:=σ) k3);refine tQ.go I2 (k3.mono (λ_ y=>y) λx y H' c dd ex rx=>y H' _ c dd ((Gr.ex e12).trans (Gr.ex ex)) (I2.ex ex) rx) λkd w H3 k4 e3 rk=>?_;have I3:=I2.ex e3;have l3':=l3.ex e3 I2.kd;have rv3:=(rv.ex e2 I1.kd).ex e3 I2.kd;refine⟨l,rfl,?_⟩;split at k4
  ·next hh hz=>
   obtain⟨ha2,hcase⟩:=Ua hh;have hz:=aru hz;rcases hcase with⟨rfl,j,rfl⟩|⟨rfl,ds,kk,rfl,hkk,hdep⟩
   ·obtain⟨kv,q1,q2,q3⟩:=l3';cases rk;have hlen:kv.length=kvs.length:=by
     have:=congrArg List.length q2;simpa using this.symm
    rw[RG q2]at ha2;have hn:valV kv (Sum.inl j)=none:=by
     cases hv:valV kv (Sum.inl j) with
     |none=>rfl
     |some _=>rw[hv]at ha2;cases ha2
    refine .inl ⟨kv,j,q1,rfl,sz_lt (by rw[hlen];exact hz),?_⟩;rw[putK_new v hn];obtain⟨gr,I4⟩:=La (b:=false) (kvs':=kvs++[(.int j,d)]) (o':=.dK (kv++[(Sum.inl j,v)])) I3 m1 m2 ha c1 (e3 _ _ c2) (c3.ex e3 I2.kd) c6 l1 l2 trivial λgr=>⟨_,upd_same,by simp[q2,keyD],by
     rw[List.map_append,List.map_append];exact(q3.gr gr I3.kd).back (rv3.gr gr I3.kd)⟩
    exact k4 σ _ g ((Gr.ex (e12.trans e3)).trans gr) I4
   ·obtain⟨o',xs,vs,q1,q2,q3,q4,q5,q6⟩:=l3';have hlen:xs.length=kvs.length:=by
     have:=congrArg List.length q3;simpa using this.symm
    have ek:=zN hkk;rw[←ek,Hh q3]at ha2;have hn:atKey xs kk=none:=by
     cases hv:atKey xs kk with
     |none=>rfl
     |some _=>rw[hv]at ha2;cases ha2
    have q4':=q4;rw[q3]at q4';rw[hw]at q2;cases rk with
    | @tup bb us _ hs' ht=>
     refine .inr ⟨o',xs,g,_,bb,kk,q1,q2,q4',rfl,.tup hs' ht,hkk,hdep,sz_lt (by rw[hlen];exact hz),λo2 u2 ru2 nd=>?_⟩;rw[storedH_new hn]at nd;obtain⟨gr,I4⟩:=La (b:=true) (kvs':=kvs++[(.tuple ds,d)]) (o':=iG l o2) I3 m1 m2 ha c1 (e3 _ _ c2) (c3.ex e3 I2.kd) c6 l1 l2 trivial λgr=>⟨o2,xs++[(kk,bb,u2)],vs++[v],upd_same,by rw[hw];exact nd,by simp[q3,ek],by
      rw[List.map_append,List.map_append];exact(q4.gr gr I3.kd).back ((Rep.tup hs' ht).gr gr I3.kd),by
      rw[List.map_append];exact q5.append (.cons ru2 .nil),by
      rw[List.map_append];exact(q6.gr gr I3.kd).back (rv3.gr gr I3.kd)⟩
     exact k4 σ _ g ((Gr.ex (e12.trans e3)).trans gr) I4
  ·exact arq k4
 ·exact arq k3
end
section
variable{X:Cx}{o i:Expr}{td ty:TE}{pos tpos:Pos}
def al3(X:Cx)(td ty:TE):TS:=λD σ H=>td σ H λx H2=>ty σ H2 λy H3=>∃a,x=.ref a/\((∃kvs i,H3 a=some (.dK kvs)/\y=.int i/\(valV kvs (Sum.inl i)).isSome=true/\D.nx σ (upd H3 a (.dK (dropK kvs (Sum.inl i)))))∨
 ∃(o:Obj) (xs:List lZ) (g:Gh) (d:Dat) (b:Addr) (k:NestedKey),H3 a=some (iG a o)/\lg X.w a o xs/\aJ X.K g H3 (xs.map λx=>V.ref x.2.1) (xs.map λx=>x.1.data)/\y=.ref b/\Rep X.K g H3 y d/\rR d=some k/\k.depth<=8/\(atKey xs k).isSome=true/\∀(o':Obj),lg X.w a o' (withoutH xs k)->D.nx σ (upd H3 a (iG a o')))
theorem afm(hu:X.A.units+64 < cLine)(ho:PE X o td)(hi:PE X i ty):PS X (.Delete [.Subscript o i tpos] pos) (al3 X td ty):=by
 refine⟨λpins s σ H D I h=>?_⟩;refine wpAny_Delete (wpAny_deleteEach_cons (wpAny_delete_Subscript (thn (ho.run pins s σ H _ I h) λu s1 ⟨x,H1,I1,rx,q1⟩=>thn (hi.run pins s1 σ H1 _ I1 q1) λiv s2 ⟨y,H2,I2,ry,a,ex,q2⟩=>?_)));subst ex
 obtain rfl:u=Value.ref a:=rx
 rcases q2 with⟨kvs,j,h1,rfl,hl,q⟩|⟨ob,xs,g,d,b,k,h1,h2,h3,rfl,h4,h5,h6,hl,q⟩
 ·exact d_delItem (k:=Sum.inl j) I2 h1 ry hl λs3 I3=>wpAny_deleteEach_nil ⟨σ,_,I3,q⟩
 ·obtain rfl:iv=Value.ref b:=ry
  obtain⟨p,hp⟩:=Option.isSome_iff_exists.mp hl;refine wpAny_delItem_heap (knd:=nestedKind X.prog X.w) (k:=k) (hsz:=h2.len) (show X.A.in1.units+8 < cLine by show X.A.units+1+8 < cLine;omega) ⟨key_is I2 h4 h5 rfl,h6⟩ h2.sys (Gn I2 h1 h2 rfl h3) hp λh' dd hs'=>?_;obtain⟨o',es,ep,g1,g2,g3,g4,g5,g6⟩:=dd;have nd:lg X.w a o' (withoutH xs k):=⟨h2.sys,g2,⟨es,ep,g3,g4⟩,g6,aqE (aqv _ _) h2.len,λx hx=>h2.dep x (aqA.mp hx).1⟩;exact wpAny_deleteEach_nil ⟨σ,_,d_write I2 (by rw[h1];exact True.intro) hs' ⟨o',g1⟩ (JG g1),q o' nd⟩
end
theorem N6{α β:Type}(f:α->β)(c:α->Bool):∀l:List α,(((l.map f).zip l).filter λp=>c p.2).map (·.1)=(l.filter c).map f
 |[]=>rfl
 |a::l=>by
  rw[aqh,aq0,aqQ,aqQ];cases c a
  ·exact N6 f c l
  ·simp only[if_true,aqh,N6 f c l]
theorem afI{K:aqe}{g:Gh}{H:Hp}(kk:NestedKey):∀{xs:List lZ} {vs:List V} {kvs:List (Dat×Dat)},kvs.map (·.1)=xs.map (λx=>x.1.data)->aJ K g H (xs.map λx=>V.ref x.2.1) (kvs.map (·.1))->Vals vs (xs.map (·.2.2))->aJ K g H vs (kvs.map (·.2))->
  ∃vs',(kvs.filter λp=>!PyData.eqv p.1 kk.data).map (·.1)=(withoutH xs kk).map (λx=>x.1.data)/\aJ K g H ((withoutH xs kk).map λx=>V.ref x.2.1) ((kvs.filter λp=>!PyData.eqv p.1 kk.data).map (·.1))/\Vals vs' ((withoutH xs kk).map (·.2.2))/\aJ K g H vs' ((kvs.filter λp=>!PyData.eqv p.1 kk.data).map (·.2))
 |[],_,[],_,_,.nil,_=>⟨[],rfl,.nil,.nil,.nil⟩
 |[],_,_::_,h,_,_,_=>by cases h
 |_::_,_,[],h,_,_,_=>by cases h
 |x::xs,_,q::qs,h1,.cons r1 t1,.cons w1 w2,.cons r2 t2=>by
  simp only[aqh,List.cons.injEq]at h1;obtain⟨vs',i1,i2,i3,i4⟩:=afI kk h1.2 t1 w2 t2;have hq:(!PyData.eqv q.1 kk.data)=decide (x.1≠kk):=by rw[h1.1,aau];by_cases hz:x.1=kk<;>simp[hz]
  unfold withoutH;rw[aqQ,aqQ,hq];cases hb:decide (x.1≠kk) with
  |true=>exact⟨_::vs',by simp only[if_true,aqh,h1.1];exact congrArg _ i1,by simp only[if_true,aqh];exact .cons r1 i2,by simp only[if_true,aqh];exact .cons w1 i3,by simp only[if_true,aqh];exact .cons r2 i4⟩
  |false=>
   simp only[aqI,if_false];exact⟨vs',i1,i2,i3,i4⟩
theorem ajf{K:aqe}{g:Gh}{H:Hp}{α:Type}(c:α->Bool)(key:α->Dat)(dd:Dat->Bool):∀{vs:List V} {kvs:List (Dat×Dat)} {xs:List α},(∀x∈xs,c x=dd (key x))->kvs.map (·.1)=xs.map key->vs.length=xs.length->aJ K g H vs (kvs.map (·.2))->
  (kvs.filter λp=>dd p.1).map (·.1)=(xs.filter c).map key/\aJ K g H (((vs.zip xs).filter λp=>c p.2).map (·.1)) ((kvs.filter λp=>dd p.1).map (·.2))
 |[],[],[],_,_,_,_=>⟨rfl,.nil⟩
 |[],[],_::_,_,h,_,_=>by cases h
 |[],_::_,_,_,_,_,h=>by cases h
 |_::_,[],_,_,_,_,h=>by cases h
 |_::_,_::_,[],_,h,_,_=>by cases h
 |u::us,q::qs,x::xs,hc,hk,hl,.cons h t=>by
  simp only[aqh,List.cons.injEq]at hk;have hq:=hc x aqj;rw[←hk.1]at hq;obtain⟨i1,i2⟩:=ajf c key dd (λy hy=>hc y (aqk _ hy)) hk.2 (arn hl) t;rw[aq0,aqQ,aqQ,aqQ,hq];cases hb:dd q.1 with
  |true=>exact⟨by simp only[if_true,aqh,i1,hk.1],by simp only[if_true,aqh];exact .cons h i2⟩
  |false=>exact⟨by simpa using i1,by simpa using i2⟩
section
variable{X:Cx}{aj:aQ}{W:WX}{o i:Expr}{f:Str}{pos tpos p1:Pos}{fo fk:QF}
theorem af3(co:jk X.K aj)(hw:aj.w=X.w)(hu:X.A.units+64 < cLine)(ho:QW aj X W o fo)(hb:baseOk o=true)(hk:QE aj X W i fk):SE aj X W false (.Delete [.Subscript (.Attribute o f p1) i tpos] pos) (Ls f fo fk):=by
 refine PS.weak (afm hu (pe_fld ho (lO hb)) hk) λD σ H ⟨g,Z,M,I,z⟩=>?_;unfold Ls at z;have k2:=Out.jc (dD (σ:=σ) z);refine tW.go I (k2.mono (λ_ y=>y) λx y H' c dd ex rx=>y H' _ c dd (Gr.ex ex) (I.ex ex) rx) λod u H2 k3 e2 ru=>?_;have I2:=I.ex e2;split at k3
 ·next h i' b kvs hl=>
  obtain⟨a,C,dx,fs,l,rfl,m1,m2,ml,ha,rfl,c1,c2,c3,c4,c5,c6,l1,l2,l3⟩:=Ei co I2.wok ru hl;refine⟨a,C,dx,fs,.ref l,rfl,c2,c4,c5,l1,?_⟩;have k3:=Out.jc (dD (σ:=σ) k3);refine tQ.go I2 (k3.mono (λ_ y=>y) λx y H' c dd ex rx=>y H' _ c dd ((Gr.ex e2).trans (Gr.ex ex)) (I2.ex ex) rx) λkd w H3 k4 e3 rk=>?_;have I3:=I2.ex e3;have l3':=l3.ex e3 I2.kd;refine⟨l,rfl,?_⟩;split at k4
  ·next hh hz=>
   obtain⟨ha2,hcase⟩:=Ua hh;rcases hcase with⟨rfl,j,rfl⟩|⟨rfl,ds,kk,rfl,hkk,hdep⟩
   ·obtain⟨kv,q1,q2,q3⟩:=l3';cases rk;rw[RG q2]at ha2;refine .inl ⟨kv,j,q1,rfl,ha2,?_⟩;have hf:=λ(H':Hp)(r:aJ X.K g H' (kv.map (·.2)) (kvs.map (·.2)))=>ajf (K:=X.K) (g:=g) (H:=H') (λp:Key×V=>decide (p.1≠Sum.inl j)) (λp=>keyD p.1) (λz=>!PyData.eqv z (.int j)) (vs:=kv.map (·.2)) (kvs:=kvs) (xs:=kv) (λx _=>by
     cases hx:x.1 with
     |inl z=>by_cases hz:z=j<;>simp[keyD,PyData.eqv,hz]
     |inr z=>simp[keyD,PyData.eqv]) q2 (by simp) r
    have ez:(((kv.map (·.2)).zip kv).filter λp=>decide (p.2.1≠Sum.inl j)).map (·.1)=(dropK kv (Sum.inl j)).map (·.2):=N6 (·.2) (λp:Key×V=>decide (p.1≠Sum.inl j)) kv;obtain⟨gr,I4⟩:=La (b:=false) (kvs':=kvs.filter λp=>!PyData.eqv p.1 (.int j)) (o':=.dK (dropK kv (Sum.inl j))) I3 m1 m2 ha c1 (e3 _ _ c2) (c3.ex e3 I2.kd) c6 l1 l2 trivial λgr=>⟨_,upd_same,(hf _ (q3.gr gr I3.kd)).1,by
     rw[←ez];exact(hf _ (q3.gr gr I3.kd)).2⟩
    exact k4 σ _ g ((Gr.ex (e2.trans e3)).trans gr) I4
   ·obtain⟨o',xs,vs,q1,q2,q3,q4,q5,q6⟩:=l3';have ek:=zN hkk;rw[←ek,Hh q3]at ha2;rw[hw]at q2;have q4':=q4;rw[q3]at q4';cases rk with
    | @tup bb us _ hs' ht=>
     refine .inr ⟨o',xs,g,_,bb,kk,q1,q2,q4',rfl,.tup hs' ht,hkk,hdep,ha2,λo2 nd=>?_⟩;obtain⟨gr,I4⟩:=La (b:=true) (kvs':=kvs.filter λp=>!PyData.eqv p.1 (.tuple ds)) (o':=iG l o2) I3 m1 m2 ha c1 (e3 _ _ c2) (c3.ex e3 I2.kd) c6 l1 l2 trivial λgr=>by
      obtain⟨vs',i1,i2,i3,i4⟩:=afI kk q3 (q4.gr gr I3.kd) q5 (q6.gr gr I3.kd);rw[ek]at i1 i2 i4;exact⟨o2,withoutH xs kk,vs',upd_same,by rw[hw];exact nd,i1,i2,i3,i4⟩
     exact k4 σ _ g ((Gr.ex (e2.trans e3)).trans gr) I4
  ·exact arq k4
 ·exact arq k3
end
def ItD(l:Addr)(o:Obj)(xs:List lZ):It:=
 ⟨λi H=>H l=some (iG l o)/\i < xs.length,λi H x H'=>H'=H/\∃e,xs[i]?=some e/\x=.ref e.2.1,λi H=>H l=some (iG l o)/\xs.length<=i⟩
theorem pin_at{X:Cx}{pins:List (Addr×Obj)}{σ:L2.St}{H:Hp}{s:Shared}{l:Addr}{o:Obj}(I:L2.Inv X pins σ H s)(h:H l=some (iG l o)):s.heap.get? l=some o:=(show ObjOk X.prog X.w H s.heap l (iG l o) from I.hok l _ h).1
theorem lg.at{w:World}{l:Addr}{o:Obj}{xs:List lZ}{es:Array DictEntry}{ep:Nat}(n:lg w l o xs)(h:o.data=.dict es ep):es.size=xs.length/\∀(i:Nat) (e:lZ),xs[i]?=some e->∃en,es[i]?=some en/\en.key=.ref e.2.1:=by
 obtain⟨es',ep',h1,h2⟩:=n.ent;rw[h]at h1;cases h1;refine⟨?_,λi e hi=>⟨adk w e,?_,rfl⟩⟩
 ·have:=congrArg List.length h2;simpa using this
 ·rw[←aqU,h2,aqs,hi];rfl
theorem alw{P:Program}{w:World}{K:aqe}{tg:Expr}{l:Addr}{o:Obj}{xs:List lZ}{es:Array DictEntry}{ep:Nat}(it:Addr)(n:lg w l o xs)(hod:o.data=.dict es ep):Turn P w K tg (ItD l o xs) [it] it (λi h=>h.IsKeyIter it l i xs.length ep) where
 mem:=aql.mpr rfl
 obj:=λi h st b hb=>by
  cases aql.mp hb;obtain⟨oi,e,c,dd⟩:=st;refine⟨oi,e,λv z=>?_⟩;rw[dd]at z;cases z
 keep:=λi h h' st k=>st.at (k it (aql.mpr rfl))
 item:=by intro X hP hw hK hc i pins s σ H E I hf st hg;subst hP hw hK;obtain⟨g0,g1,g2,g3,g4,g5⟩:=hf it (aql.mpr rfl);obtain⟨sz,ent⟩:=n.at hod;have hlt:i < xs.length:=hg.2;have hx:xs[i]?=some xs[i]:=aqi hlt;obtain⟨en,e1,e2⟩:=ent i _ hx;refine next_key_item st (pin_at I hg.1) hod sz e1 ?_;intro h' st' sb;have J:L2.Inv X pins σ H { s with heap:=h' }:=I.turned (t':=s.toks) (λb ob hb e=>(sb.2 b hb).trans e) g0 g1 g3 g4 g5;obtain⟨oi,a1,a2,a3⟩:=id st';exact⟨en.key,rfl,go_of (s:={ s with heap:=h' }) a1 a2 a3 (by decide) ⟨.ref xs[i].2.1,H,J,e2,⟨rfl,_,hx,rfl⟩,st',λb hb=>(hf b hb).1⟩⟩
 done:=by intro X hP hw hK hc i pins s σ H E I hf st hg;subst hP hw hK;obtain⟨g0,g1,g2,g3,g4,g5⟩:=hf it (aql.mpr rfl);exact next_key_end (I.ok.hd hc) st (pin_at I hg.1) hod (n.at hod).1 hg.2 λh' eb=>⟨rfl,I.turned (t':=s.toks) (λb ob hb e=>eb b ob hb e) g0 g1 g3 g4 g5⟩
 self:=λA i s Q E st h=>by
  refine wpAny_pyIter_slot st.typeIs PySem.F.slot_dict_keyiterator_iter (wpAny_call_entry PySem.F.slot_dict_keyiterator_iter st.typeIs PySem.F.entry_dict_keyiterator_iter ?_ (PySem.F.args_dict_keyiterator_iter_1 _));exact wpAny_pure ⟨_,rfl,"dict_keyiterator",_,st.typeIs,PySem.F.slot_dict_keyiterator_next.lookup,h⟩
def amH(X:Cx)(td:TE):TI:=λσ H R=>td σ H λx H1=>∃l o xs,x=.ref l/\H1 l=some (iG l o)/\lg X.w l o xs/\R (ItD l o xs) H1
theorem ajZ{X:Cx}{tg e:Expr}{td:TE}(he:PE X e td):PI X tg e (amH X td):=by
 constructor;intro pins s σ H R I h;refine thn (he.run pins s σ H _ I h) ?_;rintro u s1 ⟨x,H1,I1,rx,l,o,xs,rfl,hl,n,q⟩
 obtain rfl:u=Value.ref l:=rx
 obtain⟨es,ep,hd,_⟩:=n.ent;refine iter_keys n.sys (pin_at I1 hl) n.ex hd (pi_one (tk:=s1.toks) I1 _ (alw _ n hd) ⟨_,Heap.get?_push_size _ rfl,rfl,?_⟩ q);rw[(n.at hd).1]<;>rfl
theorem agI{K:aqe}{aj:aQ}{l:Addr}{o:Obj}{xs:List lZ}{ks:List Dat}:IK K (ItD l o xs) (λg H=>H l=some (iG l o)/\aJ K g H (xs.map λx=>V.ref x.2.1) ks) ks where
 go:=λg i H c hi=>⟨c.1,by have:=c.2.length;simp at this;omega⟩
 yld:=λg i H x H' d k c e y=>by
  obtain⟨rfl,en,h1,rfl⟩:=y;obtain⟨v,h2,h3⟩:=c.2.get e;rw[aqs,h1]at h2;cases h2;exact⟨Ex.refl _,h3⟩
 stop:=λg i H c e=>⟨c.1,by have:=c.2.length;simp at this;omega⟩
 ex:=λg H H' k c e=>⟨e _ _ c.1,c.2.ex e k⟩
 add:=λg g' H H' k c r e=>⟨e _ _ c.1,c.2.gr r k⟩
def BR(f:Str)(o:QF):IF:=λM Z=>(o M Z).bind λod=>match yC M f od with
 |some (_,_,true,kvs)=>.ok (kvs.map (·.1))
 |_=>.bad
def Cm(f:Str)(o:QF):QF:=λM Z=>(o M Z).bind λod=>match yC M f od with
 |some (_,_,_,kvs)=>.ok (.list (kvs.map (·.1)))
 |none=>.bad
section
variable{X:Cx}{aj:aQ}{W:WX}{o tg:Expr}{f:Str}{pos p p1:Pos}{fo:QF}
theorem ae5(co:jk X.K aj)(hw:aj.w=X.w)(ho:QW aj X W o fo)(hb:baseOk o=true):QI aj X W false tg (.Attribute o f p1) (BR f fo):=by
 have h0:=ajZ (tg:=tg) (pe_fld (X:=X) (pos:=p1) (f:=f) ho (lO hb));refine⟨λpins s σ H R I h=>h0.run pins s σ H R I ?_⟩;obtain⟨g,Z,M,J,h⟩:=h;unfold BR at h;refine tW.go J h.bnd λod u H1 k2 e1 ru=>?_;have J1:=J.ex e1;split at k2
 ·next h i kvs hl=>
  obtain⟨a,C,dx,fs,l,rfl,m1,m2,ml,ha,rfl,c1,c2,c3,c4,c5,c6,l1,l2,o',xs,vs,q1,q2,q3,q4,q5,q6⟩:=Ei co J1.wok ru hl;rw[hw]at q2;exact⟨a,C,dx,fs,.ref l,rfl,c2,c4,c5,l1,l,o',xs,rfl,q1,q2,k2 _ _ H1 e1 (agI (aj:=aj)) ⟨q1,q4⟩ λz=>nomatch z⟩
 ·exact arq k2
end
theorem aeR{P:Program}{w:World}{A:Around}{l I:Addr}{o:Obj}{xs:List lZ}{es:Array DictEntry}{ep:Nat}(hh:A.handled=none)(hne:l≠I)(n:lg w l o xs)(hd:o.data=.dict es ep):Walks P w A I [I,l] [I] xs.length (λi v=>∃e,xs[i]?=some e/\v=Value.ref e.2.1) (λi h=>h.IsKeyIter I l i xs.length ep/\h.get? l=some o) where
 sub:=λb hb=>by simp at hb;simp[hb]
 frame:=λi h h' st k=>⟨st.1.at (k I (by simp)),k l (by simp) o st.2⟩
 item:=λi s Q E hi st hQ=>by
  obtain⟨sz,ent⟩:=n.at hd;have hx:xs[i]?=some xs[i]:=aqi hi;obtain⟨en,e1,e2⟩:=ent i _ hx;refine next_key_item st.1 st.2 hd sz e1 ?_;intro h' st' sb;exact hQ en.key h' s.toks ⟨_,hx,e2⟩ ⟨st',(sb.2 l hne).trans st.2⟩ λb ob hb e=>(sb.2 b λz=>hb (by simp[z])).trans e
 done:=λs Q E st hQ=>next_key_end hh st.1 st.2 hd (n.at hd).1 (aqF _) λh' eb=>hQ h' s.toks λb ob hb e=>eb b ob (λz=>hb (by simp[z])) e
 self:=λi s Q E st hQ=>wpAny_pyIter_keyiter st.1 hQ
theorem af7{P:Program}{w:World}{l:Addr}{o:Obj}{xs:List lZ}(n:lg w l o xs):PySem.W.KdlSrc P w "dict" l l xs.length (λi v=>∃e,xs[i]?=some e/\v=Value.ref e.2.1) (λh=>h.get? l=some o) where
 type:=λs e=>⟨o,e,n.ex.1⟩
 there:=λh e=>⟨Heap.lt_size e,Heap.lt_size e⟩
 keep:=λh h' e k=>k l (.inl rfl) o e
 notList:=by decide
 notTuple:=by decide
 hint:=λA E s Q e hq=>PySem.W.kdl_hint_dict ⟨o,e,n.ex.1⟩ hq
 iter:=λA s hh e=>by
  obtain⟨es,ep,hd,_⟩:=n.ent;refine⟨_,_,λE Q hq=>iter_keys n.sys e n.ex hd hq,aeR hh (aqL (Heap.lt_size e)) n hd,⟨_,Heap.get?_push_size _ rfl,rfl,?_⟩,Heap.get?_push_of_some _ e⟩;rw[(n.at hd).1]<;>rfl
def acY(X:Cx):List V->Hp->VK->Prop:=λxs H Q=>(∃p kvs,xs=[.ref p]/\H p=some (.dK kvs)/\∀q,H q=none->Q (.ref q) (upd H q (.lst (kvs.map λkv=>kV kv.1))))∨∃p o es,xs=[.ref p]/\H p=some (iG p o)/\lg X.w p o es/\∀q,H q=none->Q (.ref q) (upd H q (.lst (es.map λe=>V.ref e.2.1)))
theorem abP{X:Cx}(hc:X.calm=true):CallR X (.type "list") (acY X):=by
 intro pins s σ H xs us Q I r h;rcases h with h|⟨p,o,es,rfl,hp,n,q⟩
 ·exact call_list_dK hc pins s σ H xs us Q I r h
 ·obtain⟨u,rfl,rx⟩:=vals1 r
  obtain rfl:u=Value.ref p:=rx
  refine PySem.W.kdl_call (af7 n) (I.ok.hd hc) (pin_at I hp) n.len ?_;intro h' tk acc c' keep hS hacc;have el:acc.toList.length=es.length:=by rw[aqN];exact hacc.1
  refine⟨.ref s.heap.objs.size,upd H s.heap.objs.size (.lst (es.map λe=>V.ref e.2.1)),I.laid keep (aqF _) (show ObjOk X.prog X.w _ _ _ (.lst (es.map λe=>V.ref e.2.1)) from⟨by rw[aqo];exact n.len,acc.toList,c',?_,?_⟩),rfl,q _ (I.hok.fresh (aqF _))⟩
  ·refine vals_of_at (by rw[aqo,el]) λj x w h1 h2=>?_;obtain⟨e,he,rfl⟩:=hacc.2 j w (by rw[←aqU];exact h2);rw[aqs,he]at h1;cases h1;rfl
  ·rw[Array.toArray_toList];exact hS
section
variable{X:Cx}{aj:aQ}{W:WX}{o e:Expr}{f:Str}{pos p p1 pos':Pos}{fo:QF}
theorem Xl{K:aqe}{g:Gh}{H:Hp}:∀{kv:List (Key×V)} {kvs:List (Dat×Dat)},kvs.map (·.1)=kv.map (λp=>keyD p.1)->aJ K g H (kv.map λp=>kV p.1) (kvs.map (·.1))
 |[],[],_=>.nil
 |[],_::_,h=>by cases h
 |_::_,[],h=>by cases h
 |a::kv,b::kvs,h=>by
  simp only[aqh,List.cons.injEq]at h;rw[aqh,aqh,h.1];refine .cons ?_ (Xl h.2);cases a.1 with
  |inl i=>exact .int i
  |inr x=>exact .str x
theorem afg(co:jk X.K aj)(hw:aj.w=X.w)(σ:L2.St)(H:Hp)(Q:VK)(h:tQ X.K aj W (Cm f fo) σ H Q):tFld X.K (tW X.K aj W fo) f σ H λx H1=>acY X [x] H1 Q:=by
 obtain⟨g,Z,M,J,h⟩:=h;unfold Cm at h;refine tW.go J h.bnd λod u H1 k2 e1 ru=>?_;have J1:=J.ex e1;split at k2
 ·next h i b kvs hl=>
  obtain⟨a,C,dx,fs,l,rfl,m1,m2,ml,ha,rfl,c1,c2,c3,c4,c5,c6,l1,l2,l3⟩:=Ei co J1.wok ru hl;refine⟨a,C,dx,fs,.ref l,rfl,c2,c4,c5,l1,?_⟩;cases b with
  |false=>
   obtain⟨kv,q1,q2,q3⟩:=l3;exact .inl ⟨l,kv,rfl,q1,λq nq=>k2 (.ref q) _ (e1.trans (Ex.new nq)) (.lst (.inl ⟨.inl upd_same,J1.kd.fresh nq⟩) (Xl q2))⟩
  |true=>
   obtain⟨o',xs,vs,q1,q2,q3,q4,q5,q6⟩:=l3;rw[hw]at q2;exact .inr ⟨l,o',xs,rfl,q1,q2,λq nq=>k2 (.ref q) _ (e1.trans (Ex.new nq)) (.lst (.inl ⟨.inl upd_same,J1.kd.fresh nq⟩) (q4.ex (Ex.new nq) J1.kd))⟩
 ·exact arq k2
theorem aeX(co:jk X.K aj)(hw:aj.w=X.w)(hc:X.calm=true)(hg:Gl X "list")(hm:X.mg "list"=none)(ho:QW aj X W o fo)(hb:baseOk o=true):QE aj X W (.Call (.Name "list" p) [.Attribute o f p1] [] pos) (Cm f fo):=by
 have h1:=pa_cons (pe_fld (X:=X) (pos:=p1) (f:=f) ho (lO hb)) pa_nil (cO rfl []);have hv:BV (.type "list") "list":=⟨by decide +kernel,by decide,by decide⟩
 refine PE.weak (pe_callTy (pos:=pos) (p:=p) (abP hc) hg hm hv.1 h1 hv.2.1 hv.2.2 (cO rfl []) (by with_unfolding_all rfl)) λσ H Q h=>?_;exact afg co hw σ H Q h
def Lp(ft:Ft)(o:QF)(f:Str)(b:Bool):SF:=λM Z=>((o (M++[⟨"",[]⟩]) Z).at (M++[⟨"",[]⟩])).then Z λod M2=>match jT M2 od with
 |some (h,i)=>match ft.has i.cls f&&decide (i.fs.length < 100) with
  |true=>.next Z (M2.set h (i.put f (.dic b [])))
  |false=>.bad
 |none=>.bad
def ak0(X:Cx)(b:Bool):TE:=λ_ H Q=>∀p,H p=none->match b with
 |false=>Q (.ref p) (upd H p (.dK []))
 |true=>∀o,lg X.w p o []->Q (.ref p) (upd H p (iG p o))
theorem agf{b:Bool}:PE X (.Dict [] [] pos) (ak0 X b):=by
 cases b with
 |false=>exact PE.weak pe_dnewK λσ H Q h p np=>h p np
 |true=>
  refine⟨λpins s σ H Q I h=>wpAny_Dict_empty ?_⟩;have hz:(s.heap.push { cls:=.type "dict",data:=.dict #[] }).get? s.heap.objs.size=some { cls:=.type "dict",data:=.dict #[] }:=Heap.get?_push_size _ rfl
  have hs:(s.heap.objs.size==sysModules)=false:=beq_eq_false_iff_ne.mpr (Ne.symm (aqL I.big));exact⟨.ref s.heap.objs.size,_,I.laid (a:=s.heap.objs.size) (o:=iG s.heap.objs.size _) (t':=s.toks) (λ_ _ q=>Heap.get?_push_of_some _ q) (aqF _) (JG hz),rfl,h _ (I.hok.fresh (aqF _)) _ ⟨hs,⟨rfl,rfl,rfl⟩,⟨#[],0,rfl,rfl⟩,List.nodup_nil,aqT _,λx hx=>absurd hx aqM⟩⟩
theorem agU{ft:Ft}{b:Bool}(co:jk X.K aj)(fk:KY ft aj)(hw:aj.w=X.w)(ho:QW aj X W o fo)(hs:swapsWith (.Dict [] [] p) (some (.Attribute o f pos')) pos.line X.env=pure false):SE aj X W false (.Assign [.Attribute o f pos'] (.Dict [] [] p) pos) (Lp ft fo f b):=by
 refine PS.weak (ps_fld ho (agf (b:=b)) hs) λD σ H ⟨g,Z,M,I,z⟩=>?_;have core:∀(l:Addr) (ob:HO),H l=none->Ij ob->(∀(g':Gh) (H':Hp),H' l=some ob->ji X.K aj g' H' l b [])->tW X.K aj W fo σ (upd H l ob) (λx H2=>∃a C dx fs,x=.ref a/\H2 a=some (.ins C dx fs)/\Cls X.K C/\NoAttr X.K C f/\fs.length < 1000/\D.nx σ (upd H2 a (.ins C dx (putF f (.ref l) fs)))):=by
  intro l ob nl mu at';obtain⟨gr,I1,tb,ow,mm⟩:=JT I nl (Ex.new nl) upd_same mu;unfold Lp at z;have k1:=Out.jc (dD (σ:=σ) z);refine tW.go I1 (k1.mono (λ_ y=>y) λx y H' c dd ex rx=>y H' _ c dd (gr.trans (Gr.ex ex)) (I1.ex ex) rx) λod u H2 k2 e2 ru=>?_;have I2:=I1.ex e2;split at k2
  ·next h i hi=>
   split at k2
   ·next hb=>
    rw[aqf]at hb;obtain⟨a,C,dx,fs,_,m1,m2,ha,rfl,c1,c2,c3,c4,c5,c6⟩:=Fq co fk I2.wok ru hi hb.1;have nla:l≠a:=λz=>by
     subst z;cases I2.wok.inj _ _ _ ha tb;rw[mm]at m1;cases m1;exact m2 rfl
    refine⟨a,C,dx,fs,rfl,c2,c4,c5,?_,?_⟩
    ·have:=aru hb.2;rw[c3.len];omega
    ·have ch:=Sh (f:=f) (C:=C) (dx:=dx) (fs':=putF f (.ref l) fs) I2.kd I2.wok ha m1 m2 tb mm ow;have w':=I2.wok.chg I2.kd ch ha m1 m2 c6 c1 c3 upd_same (v:=.ref l) (fl:=.dic b []) ⟨l,rfl,if_pos rfl,at' _ _ (by rw[upd_ne nla];exact e2 _ _ upd_same)⟩;exact k2 σ _ _ ((gr.trans (Gr.ex e2)).trans ch.gc.gr) (I2.chg ch w')
   ·exact arq k2
  ·exact arq k2
 intro l nl;cases b with
 |false=>exact core l _ nl trivial λg' H' h=>⟨[],h,rfl,.nil⟩
 |true=>exact λob nd=>core l _ nl trivial λg' H' h=>⟨ob,[],[],h,by rw[hw];exact nd,rfl,.nil,.nil,.nil⟩
end
def aia(X:Cx)(D:Addr)(vs:List Nat)(g:TG)(tk:TE)(σ:L2.St)(Nx:Hp->Prop)(x:V)(H:Hp):Prop:=
 g x (L2.wipe σ vs) H λσ2 H2=>L2.wipe σ2 vs=L2.wipe σ vs/\tk σ2 H2 λy H4=>∃(o:Obj) (xs:List lZ) (gg:Gh) (d:Dat) (b:Addr) (k:NestedKey),y=.ref b/\H4 D=some (iG D o)/\lg X.w D o xs/\aJ X.K gg H4 (xs.map λx=>V.ref x.2.1) (xs.map λx=>x.1.data)/\Rep X.K gg H4 y d/\rR d=some k/\k.depth<=8/\xs.length < sizeLine/\
  ∀o',lg X.w D o' (storedH xs k b (.bool true))->Nx (upd H4 D (iG D o'))
def ai6(X:Cx)(wi:TI)(g:TG)(tk:TE)(vs:List Nat):TE:=λσ H Q=>wi σ H λJ H1=>∀D,H1 D=none->∃W:Nat->Nat->Hp->Prop,(∃m,∀o,lg X.w D o []->W 0 m (upd H1 D (iG D o)))/\
 ∀i m H,W i m H->(J.stop i H/\Q (.ref D) H)∨(J.go i H/\∃Nx:Hp->Prop,(∀H',Nx H'->∃m',m' < m/\W (i+1) m' H')/\∀x H',J.yld i H x H'->aia X D vs g tk σ Nx x H')
section
variable{X:Cx}
theorem ae6{pins:List (Addr×Obj)}{σ:L2.St}{H:Hp}{s:Shared}{E:Value->Shared->Prop}{D b:Addr}{o:Obj}{xs:List lZ}{gg:Gh}{d:Dat}{k:NestedKey}{u:Value}{Q:Unit->Shared->Prop}(hu:X.A.units+64 < cLine)(I:L2.Inv X pins σ H s)(hD:H D=some (iG D o))(n:lg X.w D o xs)(hr:aJ X.K gg H (xs.map λx=>V.ref x.2.1) (xs.map λx=>x.1.data))(hk:Rep X.K gg H (.ref b) d)(hd:rR d=some k)(h8:k.depth<=8)(hz:xs.length < sizeLine)(ru:RelV (.bl true) u)
  (q:∀s' o',lg X.w D o' (storedH xs k b (.bool true))->L2.Inv X pins σ (upd H D (iG D o')) s'->Q () s'):wpAny (model X.prog X.w) X.A (dictSet D (.ref b) u) Q E s:=by
 obtain rfl:u=.bool true:=ru
 refine wpAny_dictSet_heap (knd:=nestedKind X.prog X.w) (k:=k) (hsz:=Nat.le_of_lt hz) (show X.A.units+8 < cLine by omega) ⟨key_is I hk hd rfl,h8⟩ (Gn I hD n rfl hr) ?_;intro h' dd hs';obtain⟨o',es,ep,g1,g2,g3,g4,g5,g6⟩:=dd;have nd:lg X.w D o' (storedH xs k b (.bool true)):=⟨n.sys,g2,⟨es,ep,g3,g4⟩,g6,by have:=PL (xs:=xs) (k:=k) (b:=b) (u:=.bool true);omega,Ro n.dep h8⟩;exact q _ o' nd (d_write I (by rw[hD];exact True.intro) hs' ⟨o',g1⟩ (JG g1))
theorem aip{kx tg iter:Expr}{scope:Scope}{own:List (PySem.Str×Nat)}{pos vp:Pos}{vj:Nat}{wi:TI}{g:TG}{tk:TE}(hc:X.calm=true)(hN:X.N.Nodup)(hu:X.A.units+64 < cLine)(hi:PI X tg iter wi)(ok:BlkOk X.N X.env.scope scope own)
  (hg:∀(t:Shared) (G:Hp) (C:Addr) (cl:List (PySem.Str×Addr)) (fp:List Addr),PG (X.blk t G scope (compEnvC scope cl C X.env) fp) tg g)
  (hk:∀(t:Shared) (G:Hp) (C:Addr) (cl:List (PySem.Str×Addr)) (fp:List Addr),PE (X.blk t G scope (compEnvC scope cl C X.env) fp) kx tk) (hs:∀x,foldedSetIterable iter X.env x=pure x) :
  PE X (.DictComp kx (.Constant (.bool true) vj vp) [⟨tg,iter,[],0⟩] scope pos) (ai6 X wi g tk (own.map (·.2))):=by
 refine⟨λpins s σ H Q I h=>?_⟩;rw[arm_eval_DictComp];have cells:∀y∈scope.names,y.2=.free->∃c,X.env.cells.lookup y.1=some c:=λy hy e=>(ok.free y hy e).elim (λk=>I.ok.has _ (.inl k)) (λk=>I.ok.has _ (.inr k));refine wpAny_comprehension_free rfl hs (closure_ok cells) ok.kind (λy hy e=>by rw[ok.uniq y hy,e]) (thn (hi.run pins s σ H _ I h) λ_ _ hx=>thn hx λitv t0 h0=>?_);obtain⟨it,fp,tn,J,G0,rfl,I0,T,st0,f0,q⟩:=h0;refine wpAny_newObj_type (newEnv_comp ?_)
 -- the new dict,at D
 obtain⟨D,hD⟩:∃D,D=t0.heap.objs.size:=⟨_,rfl⟩;rw[←hD];obtain⟨W,⟨m0,w00⟩,turn⟩:=q D (I0.hok.fresh (Nat.le_of_eq hD.symm));obtain⟨ob,hob⟩:∃ob:Obj,ob={ cls:=.type "dict",data:=.dict #[] }:=⟨_,rfl⟩
 have nd0:lg X.w D ob []:=by rw[hob];exact⟨by rw[hD];exact beq_eq_false_iff_ne.mpr (Ne.symm (aqL I0.big)),⟨rfl,rfl,rfl⟩,⟨#[],0,rfl,rfl⟩,List.nodup_nil,aqT _,λx hx=>absurd hx aqM⟩
 have w0:=w00 ob nd0;rw[←hob];obtain⟨t1,ht1⟩:∃t1:Shared,t1={ t0 with heap:=t0.heap.push ob }:=⟨_,rfl⟩;obtain⟨G1,hG1⟩:∃G1,G1=upd G0 D (iG D ob):=⟨_,rfl⟩;rw[←hG1]at w0;have grow:∀b o,t0.heap.get? b=some o->t1.heap.get? b=some o:=λb o e=>by rw[ht1];exact Heap.get?_push_of_some _ e
 have I1:L2.Inv X pins σ G1 t1:=by rw[ht1,hG1];refine I0.laid (t':=t0.toks) (λb o e=>Heap.get?_push_of_some _ e) (Nat.le_of_eq hD.symm) (JG ?_);rw[hD];exact Heap.get?_push_size _ (by rw[hob];rfl)
 have small:∀b∈fp,b < t0.heap.objs.size:=λb hb=>by
  obtain⟨o,e,_⟩:=T.obj _ _ st0 b hb;exact Heap.lt_size e
 have f1:∀b∈fp,FpOk X pins G1 b/\b < t1.heap.objs.size:=λb hb=>by
  have hlt:=small b hb;refine⟨⟨?_,(f0 b hb).2⟩,by rw[ht1];show b < (t0.heap.push ob).objs.size;rw[Heap.size_push];exact aq9 hlt⟩;rw[hG1,upd_ne (by rw[hD];exact aqL hlt)];exact(f0 b hb).1
 have st1:tn 0 t1.heap:=T.keep _ _ _ st0 λb _ o e=>grow b o e;have I2:=block_start I1 ok hN f1;have pg:=hg t1 G1 t1.heap.objs.size (cellsFrom (t1.heap.objs.size+1) scope.names (cloFrom X.env.cells scope.names [])) fp;have pk:=hk t1 G1 t1.heap.objs.size (cellsFrom (t1.heap.objs.size+1) scope.names (cloFrom X.env.cells scope.names [])) fp;have none1:∀b∈fp,G1 b=none:=λb hb=>(f1 b hb).1.1;rw[show({ t0 with heap:=t0.heap.push ob }:Shared)=t1 from ht1.symm];obtain⟨ce,hce⟩:∃ce,ce=compEnvC scope (cellsFrom (t1.heap.objs.size+1) scope.names (cloFrom X.env.cells scope.names [])) t1.heap.objs.size X.env:=⟨_,rfl⟩;rw[←hce]at I2 pg pk;have cL:ce.locals=t1.heap.objs.size:=by rw[hce];rfl
 obtain⟨t2,ht2⟩:∃t2:Shared,t2={ t1 with heap:=pushCells (t1.heap.push { cls:=.type "dict",data:=.dict #[] }) scope.names }:=⟨_,rfl⟩
 rw[←ht2]at I2;have st2:tn 0 t2.heap:=T.keep _ _ _ st1 λb _ o e=>by rw[ht2];exact pushCells_keeps _ _ _ _ (Heap.get?_push_of_some _ e)
 have still:∀{σ':L2.St} {G':Hp} {t':Shared},L2.Inv (X.blk t1 G1 scope ce fp) [] σ' G' t'->(∀b∈fp,G' b=none)->∀b∈fp,FpOk (X.blk t1 G1 scope ce fp) [] G' b:=λI' hn b hb=>
  ⟨hn b hb,(I'.ok.exf b hb).1,I'.ok.exfs b hb,.inl hb,λx c e=>(I'.ok.exf b hb).2 x c e,λp hp=>absurd (show p∈([]:List (Addr×Obj))++[] from hp) (by simp)⟩
 have pt:PTs (X.blk t1 G1 scope ce fp) [] tYes:=pts_nil;have pv:PE (X.blk t1 G1 scope ce fp) (.Constant (.bool true) vj vp) (tC (.bl true)):=pe_bl;have loop:codeAny (model X.prog X.w) X.A (.compLoop (.DictComp kx (.Constant (.bool true) vj vp) [⟨tg,iter,[],0⟩] scope pos) 0 (.ref it) (.ref D) ce) (compPost (model X.prog X.w) X.A X.xe none (EP X pins σ Q) (.ref D) t1.heap.objs.size) t2:=by
  refine compLoop_anyD (λn t'=>∃i G',L2.Inv (X.blk t1 G1 scope ce fp) [] (L2.wipe σ (own.map (·.2))) G' t'/\tn i t'.heap/\(∀b∈fp,G' b=none)/\W i n G') ?_ m0 ⟨0,G1,I2,st2,none1,w0⟩;rintro n t3 ⟨i,G3,I3,st3,n3,w3⟩;rcases turn i n G3 w3 with⟨stop,fin⟩|⟨go,Nx,hNx,step⟩
  ·refine thnF (T.done (X.blk t1 G1 scope ce fp) rfl rfl rfl hc i [] t3 _ G3 (λ_ _=>False) I3 (still I3 n3) st3 stop) λr t4 ⟨hr,I4⟩=>?_;subst hr;have I5:L2.Inv X pins σ G3 t4:=I1.call' (ch:=fp) I4.os I4.base I4.hok I4.bare λb hb=>⟨(f1 b hb).1.2.2.2.1,(f1 b hb).1.2.1,(f1 b hb).1.2.2.2.2.1,(f1 b hb).1.2.2.2.2.2⟩;have nC:G3 t1.heap.objs.size=none:=by rw[←cL];exact I4.free
   obtain⟨m,hn,_⟩:=I4.loc;have hn':t4.heap.Ns t1.heap.objs.size m:=by rw[←cL];exact hn
   obtain⟨a0,a1,_,a3,a4,a5⟩:=I1.fpOk (aqF _) nC;exact⟨m,hn',λh'' sb=>⟨.ref D,G3,I5.turned (t':=t4.toks) (λb o hb e=>(sb.2 b hb).trans e) a0 a1 a3 a4 a5,rfl,fin⟩⟩
  ·refine thnF (T.item (X.blk t1 G1 scope ce fp) rfl rfl rfl hc i [] t3 _ G3 (λ_ _=>False) I3 (still I3 n3) st3 go) λr t4 ⟨u,hr,h4⟩=>?_;subst hr;refine thnF h4 λ_ t5 ⟨x,G5,I5,r5,y5,st5,n5⟩=>?_;refine thnF (pg.run _ t5 _ G5 x u _ (I5.pinned (still I5 n5) (T.obj _ _ st5)) r5 (step x G5 y5)) λ_ t6 ⟨σ6,G6,I6,hw6,q6⟩=>?_;refine thnF (pt.run _ t6 σ6 G6 (λb G=>b=true/\G=G6) I6 ⟨rfl,rfl⟩) λb t7 ⟨G7,I7,hb7,hG7⟩=>?_;subst hb7 hG7;have over:∀{t':Shared} {G':Hp},L2.Inv (X.blk t1 G1 scope ce fp) ([]++pinsAt fp t5.heap) σ6 G' t'->Nx G'->∃m,m < n/\∃i G',L2.Inv (X.blk t1 G1 scope ce fp) [] (L2.wipe σ (own.map (·.2))) G' t'/\tn i t'.heap/\(∀b∈fp,G' b=none)/\W i m G':=λ{t' G'} I' nx=>by
    obtain⟨m',hm,w'⟩:=hNx G' nx;have pin:∀b∈fp,∀o,t5.heap.get? b=some o->t'.heap.get? b=some o/\G' b=none:=λb hb o e=>
     let z:=I'.pin (b,o) (aqZ _ (aqZ _ (mem_pinsAt hb e)))
     ⟨z.1,z.2.1⟩
    refine⟨m',hm,i+1,G',(I'.unpinned (pins:=[])).weak (by rw[←hw6,wipe_length]) (λj v e=>?_),T.keep _ _ _ st5 λb hb o e=>(pin b hb o e).1,λb hb=>?_,w'⟩
    ·rw[←hw6]at e;exact(wipe_some e).1
    ·obtain⟨o,e,_⟩:=T.obj _ _ st5 b hb;exact(pin b hb o e).2
   simp only[if_true];refine thnF (pk.run _ t7 σ6 _ _ I7 q6) λz t8 ⟨yv,G8,I8,r8,o8,xs8,g8,d8,b8,k8,ey,hD8,n8,hr8,hk8,hd8,h88,hz8,nx⟩=>?_;subst ey
   obtain rfl:z=Value.ref b8:=r8
   refine thnF (pv.run _ t8 σ6 G8 (λv G=>v=.bl true/\G=G8) I8 ⟨rfl,rfl⟩) λz2 t9 ⟨y9,G9,I9,r9,hv9,hG9⟩=>?_;subst hv9 hG9;exact ae6 (X:=X.blk t1 G1 scope ce fp) hu I9 hD8 n8 hr8 hk8 hd8 h88 hz8 r9 λs' o' nd I10=>over I10 (nx o' nd)
 have done:=codeAny_compStart_dict loop (T.self X.A 0 _ _ _ st2 loop);rw[hce,ht2]at done;subst hob;exact done
end
def Df(tg:fM)(tk:QF)(M:Mo)(Z:Env):List Dat->List (Dat×Dat)->Out (List (Dat×Dat))
 |[],acc=>.ok acc
 |d::ds,acc=>match tg d Z with
  |none=>.bad
  |some Z1=>(xQ (tk M Z1)).bind λkd=>(dhas true acc kd).bind λr=>Df tg tk M Z ds (match r with
   |true=>acc
   |false=>acc++[(kd,.bool true)])
def qDc(it:IF)(tg:fM)(vs:List Nat)(tk:QF):Mo->Env->Out (List (Dat×Dat)):=λM Z=>(it M Z).bind λds=>Out.when (decide (ds.length<=50000)) (Df tg tk M (cD Z vs) ds [])
def akl(K:aqe)(aj:aQ)(W:WX)(f:Mo->Env->Out (List (Dat×Dat))):TE:=λσ H Q=>∃g Z M,SInv K aj σ H g Z M/\(f M Z).sat (λkvs=>∀l o H',H l=none->Ex H H'->H' l=some (iG l o)->ji K aj (g.add l) H' l true kvs->Q (.ref l) H') (qG K aj W g H σ)
section
variable{X:Cx}{aj:aQ}{W:WX}
theorem Vh{tg:fM}{tk:QF}{M:Mo}{Z:Env}:∀{ds:List Dat} {acc:List (Dat×Dat)} {x:cY},Df tg tk M Z ds acc≠.exc x
 |[],_,_,h=>nomatch h
 |d::ds,acc,x,h=>by
  rw[Df]at h;split at h
  ·cases h
  ·next Z1 e=>
   cases h1:tk M Z1 with
   |bad=>rw[h1]at h;cases h
   |exc y=>rw[h1]at h;cases h
   |ok kd=>
    rw[h1]at h;have h:((dhas true acc kd).bind λr=>Df tg tk M Z ds (match r with
     |true=>acc
     |false=>acc++[(kd,.bool true)]))=.exc x:=h
    cases h2:dhas true acc kd with
    |bad=>rw[h2]at h;cases h
    |exc y=>
     unfold dhas at h2;split at h2
     ·cases h2
     ·split at h2
      ·split at h2<;>cases h2
      ·cases h2
     ·cases h2
    |ok r=>
     rw[h2]at h;exact Vh h
theorem adW{xs:List lZ}{k:NestedKey}(h:∀x∈xs,x.2.2=.bool true):xs.map (putAt k (.bool true))=xs:=by
 have:∀x∈xs,putAt k (.bool true) x=x:=λx hx=>by
  unfold putAt;split
  ·obtain⟨a,b,c⟩:=x;have:c=.bool true:=h _ hx;rw[this]
  ·rfl
 calc xs.map (putAt k (.bool true))=xs.map id:=List.map_congr_left this
  _=xs:=List.map_id xs
theorem aaA:∀{xs:List lZ},(∀x∈xs,x.2.2=.bool true)->Vals (List.replicate xs.length (.bl true)) (xs.map (·.2.2))
 |[],_=>.nil
 |x::xs,h=>by
  rw[aqu,List.replicate_succ,aqh,h x aqj];exact .cons rfl (aaA λy hy=>h y (aqk _ hy))
theorem aax{K:aqe}{g:Gh}{H:Hp}:∀{kvs:List (Dat×Dat)} {n:Nat},n=kvs.length->(∀p∈kvs,p.2=.bool true)->aJ K g H (List.replicate n (.bl true)) (kvs.map (·.2))
 |[],_,h,_=>by subst h;exact .nil
 |p::kvs,_,e,h=>by
  subst e;rw[aqu,List.replicate_succ,aqh,h p aqj];exact .cons (.bl true) (aax rfl λy hy=>h y (aqk _ hy))
theorem alA{it:IF}{tg:fM}{js vs:List Nat}{tk:QF}(hw:aj.w=X.w)(hj:∀j∈js,j∈vs)(σ:L2.St)(H:Hp)(Q:VK)(h:akl X.K aj W (qDc it tg vs tk) σ H Q) :
  ai6 X (tI X.K aj W false it) (zL X.K aj js tg) (tQ X.K aj WF tk) vs σ H Q:=by
 obtain⟨g,Z,M,I,h⟩:=h;refine⟨g,Z,M,I,h.bnd.mono (λds hk J C H1 e1 w c _ D nD=>?_) λ_ z=>z⟩;obtain⟨hz,hk⟩:=hk.pP;have hlen:=aru hz;obtain⟨total,htot,hQ⟩:∃total,Df tg tk M (cD Z vs) ds []=.ok total/\∀l o H',H l=none->Ex H H'->H' l=some (iG l o)->ji X.K aj (g.add l) H' l true total->Q (.ref l) H':=by
  cases hc:Df tg tk M (cD Z vs) ds [] with
  |bad=>rw[hc]at hk;exact arq hk
  |exc x=>exact absurd hc Vh
  |ok total=>
   rw[hc]at hk;exact⟨total,rfl,hk⟩
 have I1:=(I.ex e1).wipe vs;have kD:∀{Ha:Hp} {o:Obj},Ex H1 Ha->Ha D=some (iG D o)->SInv X.K aj (L2.wipe σ vs) Ha (g.add D) (cD Z vs) M:=λea hu=>I1.add nD ea hu trivial
 let Pv:Nat->Hp->Prop:=λi Ha=>Ex H1 Ha/\i<=ds.length/\∃o xs acc,Ha D=some (iG D o)/\lg X.w D o xs/\acc.map (·.1)=xs.map (λx=>x.1.data)/\aJ X.K (g.add D) Ha (xs.map λx=>V.ref x.2.1) (acc.map (·.1))/\(∀x∈xs,x.2.2=.bool true)/\(∀p∈acc,p.2=.bool true)/\acc.length<=i/\Df tg tk M (cD Z vs) (ds.drop i) acc=.ok total
 refine⟨λi m Ha=>m=ds.length - i/\Pv i Ha,⟨ds.length,λo n0=>⟨rfl,Ex.new nD,aqT _,o,[],[],upd_same,n0,rfl,.nil,λx hx=>absurd hx aqM,λx hx=>absurd hx aqM,aqF _,by rw[aro];exact htot⟩⟩,?_⟩;rintro i m Ha ⟨rfl,ea,hi,o,xs,acc,hu,nd,hK,hR,hT,hA,hy,hs⟩;have Ia:=kD ea hu;have Ca:=w.add g (g.add D) H1 Ha (I.kd.ex e1) c (Gh.Fl nD ea) ea;have lxs:xs.length=acc.length:=by have:=congrArg List.length hK;simpa using this.symm
 by_cases hlt:i < ds.length
 ·refine .inr ⟨w.go _ i Ha Ca hlt,Pv (i+1),λH' p=>⟨ds.length - (i+1),by omega,rfl,p⟩,λx H' y=>?_⟩;have hd:ds[i]?=some ds[i]:=aqi hlt;obtain⟨e2,rx⟩:=w.yld _ i Ha x H' _ Ia.kd Ca hd y;have I2:=Ia.ex e2;rw[aq2 hlt,Df]at hs;split at hs
  ·cases hs
  ·next Z1 he=>
   refine⟨g.add D,_,M,_,Z1,I2,rx,he,λws I3=>⟨zQ js ws _ vs hj |>.trans (CW σ vs),?_⟩⟩;cases htk:tk M Z1 with
   |bad=>rw[htk]at hs;cases hs
   |exc z=>rw[htk]at hs;cases hs
   |ok kd=>
    rw[htk]at hs;have hs:((dhas true acc kd).bind λr=>Df tg tk M (cD Z vs) (ds.drop (i+1)) (match r with
     |true=>acc
     |false=>acc++[(kd,.bool true)]))=.ok total:=hs
    refine⟨g.add D,Z1,M,I3,?_⟩;rw[htk];intro v H4 e4 ry;have I4:=I3.ex e4;have hu4:=e4 _ _ (e2 _ _ hu);have hR4:=(hR.ex e2 Ia.kd).ex e4 I2.kd;cases hh:dhas true acc kd with
    |bad=>rw[hh]at hs;cases hs
    |exc z=>rw[hh]at hs;cases hs
    |ok r=>
     rw[hh]at hs;obtain⟨ha2,hcase⟩:=Ua hh;rcases hcase with⟨z,_⟩|⟨_,dd,kk,rfl,hkk,hdep⟩
     ·cases z
     ·have ek:=zN hkk;rw[←ek,Hh hK]at ha2;have hRx:=hR4;rw[hK]at hRx;cases ry with
      | @tup bb us _ hs' ht=>
       refine⟨o,xs,g.add D,_,bb,kk,rfl,hu4,nd,hRx,.tup hs' ht,hkk,hdep,sz_lt (by omega),λo' nd'=>?_⟩;have eD:Ex H1 (upd H4 D (iG D o')):=Ex.mut ((ea.trans e2).trans e4) nD;have lD:(g.add D).Lo D:=.inr rfl;have up:Gr true (g.add D) (g.add D) H4 (upd H4 D (iG D o')):=Gr.upd I4.kd hu4 (.inr lD);cases r with
       |true=>
        obtain⟨q,hq⟩:=Option.isSome_iff_exists.mp ha2;rw[storedH_old hq,adW hT]at nd';exact⟨eD,hlt,o',xs,acc,upd_same,nd',hK,hR4.gr up I4.kd,hT,hA,by omega,hs⟩
       |false=>
        have hn:atKey xs kk=none:=by
         cases hv:atKey xs kk with
         |none=>rfl
         |some _=>rw[hv]at ha2;cases ha2
        rw[storedH_new hn]at nd';have hs:Df tg tk M (cD Z vs) (ds.drop (i+1)) (acc++[(.tuple dd,.bool true)])=.ok total:=hs;refine⟨eD,hlt,o',xs++[(kk,bb,.bool true)],acc++[(.tuple dd,.bool true)],upd_same,nd',by simp[hK,ek],?_,?_,?_,by simp;omega,hs⟩
        ·rw[List.map_append,List.map_append];exact(hR4.gr up I4.kd).back ((Rep.tup hs' ht).gr up I4.kd)
        ·intro x hx;rcases aqq.mp hx with z|z
         ·exact hT x z
         ·rw[aql.mp z]
        ·intro x hx;rcases aqq.mp hx with z|z
         ·exact hA x z
         ·rw[aql.mp z]
 ·have e:i=ds.length:=by omega
  refine .inl ⟨w.stop _ i Ha Ca e,?_⟩;rw[e,aq6]at hs;cases hs;exact hQ D o Ha (Cq e1 D nD) (e1.trans ea) hu ⟨o,xs,List.replicate xs.length (.bl true),hu,by rw[hw];exact nd,hK,hR,aaA hT,aax lxs hA⟩
def Rh(ft:Ft)(o:QF)(f:Str)(e:Mo->Env->Out (List (Dat×Dat))):SF:=λM Z=>((e M Z).at M).then Z λkvs _=>((o (M++[⟨"",[]⟩]) Z).at (M++[⟨"",[]⟩])).then Z λod M2=>match jT M2 od with
 |some (h,i)=>match ft.has i.cls f&&decide (i.fs.length < 100) with
  |true=>.next Z (M2.set h (i.put f (.dic true kvs)))
  |false=>.bad
 |none=>.bad
end
theorem XC{K:aqe}{g:Gh}{H:Hp}{l:Addr}{vs:List V}{ds:List Dat}(h:aJ K (g.add l) H vs ds):aJ K (g.push l) H vs ds:=aJ.mv (g:=g.add l) (g':=g.push l) (λh a z=>by
  have z:g.tbl[h]?=some a:=z
  show(g.tbl++[l])[h]?=some a
  rw[aqr (aqg.mp z).1];exact z) (λa z=>by
  rcases Y9 z with z|rfl
  ·rcases z with z|z|z
   ·exact .inl z
   ·exact .inr (.inl z)
   ·exact .inr (.inr (show g.Lo a∨a=l from Or.inl z))
  ·exact .inr (.inr (show g.Lo a∨a=a from Or.inr rfl))) h
section
variable{X:Cx}{aj:aQ}{W:WX}{o e:Expr}{f:Str}{pos pos':Pos}{ft:Ft}{fo:QF}
theorem aho{fe:Mo->Env->Out (List (Dat×Dat))}{te:TE}(co:jk X.K aj)(fk:KY ft aj)(ho:QW aj X W o fo)(he:PE X e te)(hte:∀σ H Q,akl X.K aj W fe σ H Q->te σ H Q)(hs:swapsWith e (some (.Attribute o f pos')) pos.line X.env=pure false):SE aj X W false (.Assign [.Attribute o f pos'] e pos) (Rh ft fo f fe):=by
 refine PS.weak (ps_fld ho he hs) λD σ H ⟨g,Z,M,I,z⟩=>hte σ H _ ⟨g,Z,M,I,?_⟩;unfold Rh at z;cases hf:fe M Z with
 |exc x=>rw[hf]at z;exact λH' c dd e r=>z σ H' g c dd (Gr.ex e) (I.ex e) r.fr
 |bad=>rw[hf]at z;exact arq z
 |ok kvs=>
  rw[hf]at z;intro l ob H1 nl e1 hl dic;obtain⟨gr,I1,tb,ow,mm⟩:=JT I nl e1 hl trivial;have dic1:ji X.K aj (g.push l) H1 l true kvs:=by obtain⟨o',xs,vs,q1,q2,q3,q4,q5,q6⟩:=dic;exact⟨o',xs,vs,q1,q2,q3,XC q4,q5,XC q6⟩
  have z:(((fo (M++[⟨"",[]⟩]) Z).at (M++[⟨"",[]⟩])).then Z λod M2=>match jT M2 od with
   |some (h,i)=>match ft.has i.cls f&&decide (i.fs.length < 100) with
    |true=>.next Z (M2.set h (i.put f (.dic true kvs)))
    |false=>.bad
   |none=>.bad).sat (sN X.K aj false D.nx g H) (sR X.K aj false D.rt g H) (sN X.K aj false D.bk g H) (sN X.K aj false D.ct g H) (sX X.K aj W false g H):=z
  have k1:=Out.jc (dD (σ:=σ) z);refine tW.go I1 (k1.mono (λ_ y=>y) λx y H' c dd ex rx=>y H' _ c dd (gr.trans (Gr.ex ex)) (I1.ex ex) rx) λod u H2 k2 e2 ru=>?_;have I2:=I1.ex e2;split at k2
  ·next h i hi=>
   split at k2
   ·next hb=>
    rw[aqf]at hb;obtain⟨a,C,dx,fs,_,m1,m2,ha,rfl,c1,c2,c3,c4,c5,c6⟩:=Fq co fk I2.wok ru hi hb.1;have nla:l≠a:=λz=>by
     subst z;cases I2.wok.inj _ _ _ ha tb;rw[mm]at m1;cases m1;exact m2 rfl
    refine⟨a,C,dx,fs,rfl,c2,c4,c5,?_,?_⟩
    ·have:=aru hb.2;rw[c3.len];omega
    ·have ch:=Sh (f:=f) (C:=C) (dx:=dx) (fs':=putF f (.ref l) fs) I2.kd I2.wok ha m1 m2 tb mm ow;have w':=I2.wok.chg I2.kd ch ha m1 m2 c6 c1 c3 upd_same (v:=.ref l) (fl:=.dic true kvs) ⟨l,rfl,if_pos rfl,ji.chg ch.gc.gr I2.kd (upd_ne nla) (dic1.ex e2 I1.kd)⟩;exact k2 σ _ _ ((gr.trans (Gr.ex e2)).trans ch.gc.gr) (I2.chg ch w')
   ·exact arq k2
  ·exact arq k2
end
end Rf
namespace Ear
open PySem PySem.Spec PyProof.Rows L2 Evl RZ
abbrev xq(K:aqe)(H:Hp)(v:V)(r:Rw):Prop:=Dp K H v (rD r)
@[irreducible]def JH (K:aqe) (w:World):List V->Hp->VK->Prop:=λvs H Q=>∃(l:Addr) (ws:List V) (R D:List Rw),vs=[V.ref l]/\SqL K H l ws/\fj (xq K H) ws R/\D.length<=76/\(∀r∈R,r∈D)/\
 ∀(p:Addr) (L:List Ent),H p=none->(∀e∈L,xq K H (.ref e.1) e.2)->(L.map Prod.snd).Nodup->(∀r,r∈L.map Prod.snd↔r∈R)->L.length<=76->Q (.ref p) (upd H p (Lk w p L))
@[irreducible]def Oa (K:aqe) (w:World):List V->Hp->VK->Prop:=λvs H Q=>∃(a:Addr) (L:List Ent),vs=[V.ref a]/\H a=some (Lk w a L)/\(∀e∈L,xq K H (.ref e.1) e.2)/\(L.map Prod.snd).Nodup/\L.length<=76/\
 ∀(ys:List V) (M:List Rw) (p:Addr),fj (xq K H) ys M->Gk M->(∀r,r∈M↔r∈L.map Prod.snd)->H p=none->Q (.ref p) (upd H p (.lst ys))
section
variable{X:Cx}
theorem ae4{pins:List (Addr×Obj)}{σ:L2.St}{H:Hp}{s:Shared}(I:Inv X pins σ H s){t:Addr}{r:Rw}(h:xq X.K H (.ref t) r):RI s.heap r t:=by
 refine⟨?_,by rw[aei];decide⟩;unfold xq rD dT at h;cases h with
 |tup h1 t1=>
  cases t1 with
  |cons a1 t1=>
   cases t1 with
   |cons a2 t1=>
    cases t1;cases a1;cases a2 with
    |tup h2 t2=>
     obtain⟨us,rv,⟨o,ho,hc,n,hd⟩,_⟩:=I.tuple h1;obtain⟨us2,rv2,⟨o2,ho2,hc2,n2,hd2⟩,_⟩:=I.tuple h2;refine .tup ho hc hd ?_;cases rv with
     |cons r1 rv=>
      cases rv with
      |cons r2 rv=>
       cases rv;obtain⟨tk,rfl⟩:=r1;cases r2;have e:∀{vs:List V} {l:List Int},DpAll X.K H vs (l.map PyData.int)->vs=l.map V.int:=by
        intro vs l
        induction l generalizing vs with
        |nil=>intro z;cases z;rfl
        |cons i l ih=>
         intro z;cases z with
         |cons b1 b2=>
          cases b1;rw[ih b2];rfl
       rw[e t2]at rv2;exact .cons (.int r.1 tk) (.cons (.tup ho2 hc2 hd2 (by simpa using Ux (P:=X.prog) (w:=X.w) r.2 us2 rv2)) .nil)
theorem Rj{K:aqe}{H:Hp}:∀(ws:List V) (R:List Rw),fj (xq K H) ws R->∃ks:List Ent,ws=(ks.map λp=>V.ref p.1)/\ks.map Prod.snd=R/\∀p∈ks,xq K H (.ref p.1) p.2
 |[],[],_=>⟨[],rfl,rfl,by simp⟩
 |[],_::_,h=>nomatch h.1
 |_::_,[],h=>nomatch h.1
 |v::ws,r::R,h=>by
  obtain⟨ks,e1,e2,e3⟩:=Rj ws R ⟨arn h.1,λi v x a b=>h.2 (i+1) v x a b⟩;have hr:xq K H v r:=h.2 0 v r rfl rfl;have ev:∃t,v=.ref t:=by
   have z:=hr;unfold xq rD at z;cases z with
   |tup _ _=>exact⟨_,rfl⟩
  obtain⟨t,rfl⟩:=ev;refine⟨(t,r)::ks,by rw[aqh,←e1],by rw[aqh,e2],λp hp=>?_⟩;rcases aqt.mp hp with e|hp
  ·rw[e];exact hr
  ·exact e3 p hp
theorem Zt(hu:X.A.units+65 < cLine)(hc:X.calm=true):CallR X (.type "set") (JH X.K X.w):=by
 intro pins s σ H vs us Q I r h;unfold JH at h;obtain⟨l,ws,R,D,rfl,hl,hA,hD,hRD,q⟩:=h;rw[Vals.ref1 r];obtain⟨ks,e1,e2,e3⟩:=Rj ws R hA;obtain⟨its,rv,pl,hz⟩:=I.list hl;rw[e1]at rv;have mem:∀p∈ks,p.2∈R:=λp hp=>by
  rw[←e2];exact aqp.mpr ⟨p,hp,rfl⟩
 have hn:H s.heap.objs.size=none:=I.hok.fresh (aqF _);refine Zz (P:=X.prog) (w:=X.w) (hf:=λr=>(mX X.prog X.w).hash r) (λ_=>rfl) ks D hD (λp hp=>hRD _ (mem p hp)) (I.ok.hd hc) pl.isList (by simpa using Vi rv) (λp hp=>ae4 I (e3 p hp)) (by omega) λh' tk L es ep t S g k=>?_;have fitL:t.fits es.size=true:=qD.fits (s:={ s with heap:=h',toks:=tk }) S;have new:ObjOk X.prog X.w (upd H s.heap.objs.size (Lk X.w s.heap.objs.size L)) h' s.heap.objs.size (Lk X.w s.heap.objs.size L):=by obtain⟨o,ho,hr⟩:=S.ob;refine⟨⟨_,es,ep,t,S.ob,S.en,fitL,S.tab.ris,S.ld⟩,⟨o,ho⟩,λh1 h2 z k2=>?_⟩;obtain⟨hf2,es2,ep2,t2,⟨o2,ho2,hr2⟩,rest⟩:=(show abt X.w h1 s.heap.objs.size L from z);exact⟨hf2,es2,ep2,t2,⟨o2,k2 o2 ho2,hr2⟩,rest⟩
 refine⟨.ref s.heap.objs.size,upd H s.heap.objs.size (Lk X.w s.heap.objs.size L),I.laid (t':=tk) k (aqF _) new,rfl,q _ L hn (λe he=>e3 e (ara (g.sub e he))) S.nd (λr=>⟨λm=>?_,λm=>?_⟩) S.few⟩
 ·obtain⟨e,he,e5⟩:=aqp.mp m;rw[←e5];exact mem e (ara (g.sub e he))
 ·rw[←e2]at m;obtain⟨p,hp,e5⟩:=aqp.mp m;rw[←e5];exact g.all p (by rw[List.take_length];exact hp)
theorem abr(hu:X.A.units+65 < cLine)(hc:X.calm=true):CallR X (.builtin "sorted") (Oa X.K X.w):=by
 intro pins s σ H vs us Q I r h;unfold Oa at h;obtain⟨a,L,rfl,ha,hL,nd,few,q⟩:=h;rw[Vals.ref1 r];obtain⟨hf,es,ep,t,⟨o,ho,hex,hd⟩,en,fit,ris,led⟩:abt X.w s.heap a L:=(I.hok a _ ha).1;have len:=yE en;have ev:∀K:List Ent,(∀p∈K,p∈L)->PySem.W.EachIs (λv (r:Rw)=>(∃p∈L,v=Value.ref p.1/\r=p.2)/\∃as,Reads s.heap v (rD r) as) ((ents hf K).map (·.2)) (K.map Prod.snd):=by
  intro K
  induction K with
  |nil=>exact λ_=>.nil
  |cons p K ih=>
   intro hK;have hp:=hK p aqj;exact .cons ⟨⟨p,hp,rfl,rfl⟩,Dp.reads I (rD p.2) (.ref p.1) (.ref p.1) (hL p hp) rfl⟩ (ih λx hx=>hK x (aqk _ hx))
 refine ZG (enc:=rD) (bs:=L.map Prod.snd) (I.ok.hd hc) ⟨o,ho,hex.1,hd⟩ fit (by unfold scanBound;omega) ris led (by rw[en];exact ev L λp hp=>hp) (PySem.W.AllAlike.of Ur) (PySem.W.Sortable.tuples λb=>⟨_,_,rfl⟩) (λb _=>by rw[(adf b).2];omega) λs' p out c cs k g' o' hp hg pc eo=>?_;have mp:=List.mergeSort_perm cs (PySem.W.dataLe false rD);have ndm:(cs.mergeSort (PySem.W.dataLe false rD)).Nodup:=(mp.trans pc).nodup_iff.mpr nd;have srt:=arb (le:=PySem.W.dataLe false rD) (λa b c k1 k2=>by rw[JV,ars]at *;exact List.le_trans k1 k2) (λa b=>by rw[JV,JV,arl,ars,ars];exact List.le_total _ _) cs;generalize cs.mergeSort (PySem.W.dataLe false rD)=M at mp ndm srt eo;obtain⟨ys,v1,v2⟩:=Um out M eo;have up:Gk M:=by
  refine List.Pairwise.imp₂ (λa b h1 h2=>?_) srt ndm;rw[JV,ars]at h1;by_cases c:rk a < rk b
  ·exact c
  ·exact absurd (XS (List.le_antisymm h1 (List.not_lt.mp c))) h2
 have hfr:H p=none:=I.hok.fresh hp;have hlen:ys.length<=sizeLine:=by rw[v2.1,mp.length_eq,pc.length_eq,aqo,sizeLine_eq];omega
 have J:Inv X pins σ (upd H p (.lst ys)) { s with heap:=s'.heap,gens:=s'.gens,drawn:=s'.drawn,toks:=s'.toks }:=
  I.call (ch:=[]) (Un.laid k hp hfr) (I.hok.laid k hp ⟨hlen,out,c,v1,hg⟩) (by rw[g'];exact I.bare) (λ_ z=>nomatch z)
 have es':s'={ s with heap:=s'.heap,gens:=s'.gens,drawn:=s'.drawn,toks:=s'.toks }:=by cases s';cases s;cases o';rfl
 rw[es'];refine⟨.ref p,_,J,rfl,q ys M p (v2.imp λv r ⟨e,he,h1,h2⟩=>?_) up (λr=>(mp.trans pc).mem_iff) hfr⟩;subst h1 h2;exact hL e he
end
end Ear
namespace Rf
open PySem PySem.Spec PyProof.Rows L2 Evl
def abk:Dat->Option Ear.Rw
 |.tuple [.int o,.tuple ds]=>(intsOf ds).map λl=>(o,l)
 |_=>none
def Bq:List Dat->Option (List Ear.Rw)
 |[]=>some []
 |d::ds=>(abk d).bind λr=>(Bq ds).bind λrs=>some (r::rs)
theorem J5:∀{ds:List Dat} {l:List Int},intsOf ds=some l->ds=l.map PyData.int
 |[],l,h=>by cases h;rfl
 |.int i::ds,l,h=>by
  rw[intsOf,aq1]at h;obtain⟨r,h1,rfl⟩:=h;rw[J5 h1];rfl
 |.none::_,_,h=>by cases h
 |.bool _::_,_,h=>by cases h
 |.str _::_,_,h=>by cases h
 |.list _::_,_,h=>by cases h
 |.tuple _::_,_,h=>by cases h
 |.dict _::_,_,h=>by cases h
theorem ahj{d:Dat}{r:Ear.Rw}(h:abk d=some r):d=Ear.rD r:=by
 unfold abk at h;split at h
 ·next o ds=>
  rw[aq1]at h;obtain⟨l,h1,rfl⟩:=h;rw[J5 h1];rfl
 ·cases h
theorem Oh:∀{ds:List Dat} {rs:List Ear.Rw},Bq ds=some rs->ds=rs.map Ear.rD
 |[],_,h=>by cases h;rfl
 |d::ds,_,h=>by
  rw[Bq]at h;obtain⟨r,h1,h⟩:=aqd.mp h;obtain⟨rs,h2,h⟩:=aqd.mp h;cases h;rw[ahj h1,Oh h2];rfl
def oH(R:List Ear.Rw):List Ear.Rw:=R.mergeSort λa b=>decide (Ear.rk a<=Ear.rk b)
def sortI(l:List Int):List Int:=l.mergeSort λa b=>decide (a<=b)
def bG(R:List Ear.Rw):List Ear.Rw:=oH R.eraseDups
def afu(l:List Int):List Int:=sortI l.eraseDups
theorem Yo:∀(n:Nat) (l:List Int),jY n (l.map PyData.int)=true:=λn l=>by
 induction l with
 |nil=>rfl
 |cons i l ih=>simp[jY,okd,ih]
theorem KJ(n:Nat)(r:Ear.Rw):okd (n+2) (Ear.rD r)=true:=by unfold Ear.rD Ear.dT;simp[okd,jY,Yo]
theorem aaH(n:Nat)(R:List Ear.Rw):jY (n+2) (R.map Ear.rD)=true:=by
 induction R with
 |nil=>rfl
 |cons r R ih=>simp[jY,KJ,ih]
def yZ:Dat->Out Dat
 |.list ds=>match intsOf ds with
  |some l=>.ok (.list ((sortI l).map PyData.int))
  |none=>match Bq ds with
   |some R=>.ok (.list ((oH R).map Ear.rD))
   |none=>.bad
 |_=>.bad
def Px:Dat->Out Dat
 |.list ds=>match Bq ds with
  |some R=>match decide (R.eraseDups.length<=76) with
   |true=>.ok (.list ((bG R).map Ear.rD))
   |false=>.bad
  |none=>.bad
 |_=>.bad
theorem Uv{β:Type}{enc:β->Dat}{le:β->β->Bool}(h:∀a b,PySem.W.dataLe false id (enc a) (enc b)=le a b)(l:List β):(l.map enc).mergeSort (PySem.W.dataLe false id)=(l.mergeSort le).map enc:=by rw[List.map_mergeSort (r:=le) (s:=PySem.W.dataLe false id) (λa _ b _=>(h a b).symm)]
theorem Ar{α:Type}[BEq α][LawfulBEq α]{l:List α}{x:α}:x∈l.eraseDups↔x∈l:=by
 induction hn:l.length using Nat.strongRecOn generalizing l with
 |_ n ih=>
  cases l with
  |nil=>simp
  |cons a r=>
   rw[List.eraseDups_cons];simp only[aqu]at hn;have hl:(r.filter λb=>!b==a).length<=r.length:=aqv _ _;rw[aqt,ih _ (by omega) rfl,aqA,aqt];constructor
   ·rintro(h|h)
    ·exact .inl h
    ·exact .inr h.1
   ·rintro(h|h)
    ·exact .inl h
    ·by_cases e:x=a
     ·exact .inl e
     ·exact .inr ⟨h,by simpa using e⟩
theorem Qo{α:Type}[BEq α][LawfulBEq α]{l:List α}:l.eraseDups.Nodup:=by
 induction hn:l.length using Nat.strongRecOn generalizing l with
 |_ n ih=>
  cases l with
  |nil=>simp
  |cons a r=>
   rw[List.eraseDups_cons];simp only[aqu]at hn;have hl:(r.filter λb=>!b==a).length<=r.length:=aqv _ _;refine ark.mpr ⟨λh=>?_,ih _ (by omega) rfl⟩;rw[Ar,aqA]at h;simpa using h.2
theorem dW{R:List Ear.Rw}{r:Ear.Rw}:r∈bG R↔r∈R:=by unfold bG oH;rw[List.mem_mergeSort,Ar]
theorem Nb(R:List Ear.Rw):Ear.Gk (bG R):=by
 unfold Ear.Gk bG oH;have srt:=arb (le:=λa b:Ear.Rw=>decide (Ear.rk a<=Ear.rk b)) (λa b c k1 k2=>by rw[ars]at *;exact List.le_trans k1 k2) (λa b=>by rw[arl,ars,ars];exact List.le_total _ _) R.eraseDups;have nd:(R.eraseDups.mergeSort λa b=>decide (Ear.rk a<=Ear.rk b)).Nodup:=(List.mergeSort_perm _ _).nodup_iff.mpr Qo;refine List.Pairwise.imp₂ (λa b h1 h2=>?_) srt nd;rw[ars]at h1;by_cases c:Ear.rk a < Ear.rk b
 ·exact c
 ·exact absurd (Ear.XS (List.le_antisymm h1 (List.not_lt.mp c))) h2
section
variable{K:aqe}{g:Gh}{H:Hp}
theorem N7{xs:List V}{ds:List Dat}(h:aJ K g H xs ds):∀{ys:List V} {es:List Dat},Ear.fj (Ear.aeg xs ds) ys es->aJ K g H ys es
 |[],[],_=>.nil
 |[],_::_,z=>nomatch z.1
 |_::_,[],z=>nomatch z.1
 |y::ys,e::es,z=>by
  obtain⟨i,h1,h2⟩:=z.2 0 y e rfl rfl;obtain⟨d,h3,h4⟩:=h.get' h1;rw[h2]at h3;cases h3;exact .cons h4 (N7 h ⟨arn z.1,λi v x a b=>z.2 (i+1) v x a b⟩)
end
section
variable{X:Cx}{aj:aQ}{W:WX}{a:Expr}{fa:QF}{p p2 pos pos2:Pos}
theorem ahk:Iz aj X.K W yZ (Ear.HF X.K):=λσ g H x d Q k rx h=>by
 unfold yZ at h;split at h
 ·next ds=>
  obtain⟨l,us,rfl,h1,h2⟩:=jf rx;unfold Ear.HF;split at h
  ·next ns hn=>
   have e:=J5 hn;subst e;refine⟨l,us,ns.map PyData.int,rfl,h1,h2.dp (n:=12) (Yo 12 ns),PySem.W.AllAlike.of (λa b=>by simp[PySem.W.alike]),PySem.W.Sortable.others (λb=>⟨(λz=>nomatch z),λxs z=>nomatch z⟩),λd hd=>by
    obtain⟨i,_,rfl⟩:=aqp.mp hd;simp[PyData.depth],λys q hy nq=>?_⟩
   have hs:=Uv (enc:=PyData.int) (le:=λa b:Int=>decide (a<=b)) (λa b=>congrFun (congrFun (PySem.W.dataLe_int (λk:Int=>k)) a) b) ns;rw[hs]at hy;exact h (.ref q) _ (Ex.new nq) (.lst (.inl ⟨.inl upd_same,k.fresh nq⟩) ((N7 h2 hy).ex (Ex.new nq) k))
  ·split at h
   ·next R hR=>
    have e:=Oh hR;subst e;refine⟨l,us,R.map Ear.rD,rfl,h1,h2.dp (n:=12) (aaH 10 R),PySem.W.AllAlike.of Ear.Ur,PySem.W.Sortable.tuples (λb=>⟨_,_,rfl⟩),λd hd=>by
     obtain⟨i,_,rfl⟩:=aqp.mp hd;rw[(Ear.adf i).2]
     decide,λys q hy nq=>?_⟩
    ·have hs:=Uv (enc:=Ear.rD) (le:=λa b:Ear.Rw=>decide (Ear.rk a<=Ear.rk b)) (λa b=>by rw[←Ear.JV];rfl) R;rw[hs]at hy;exact h (.ref q) _ (Ex.new nq) (.lst (.inl ⟨.inl upd_same,k.fresh nq⟩) ((N7 h2 hy).ex (Ex.new nq) k))
   ·exact arq h
 ·exact arq h
theorem ahr(hu:X.A.units+65 < cLine)(hg:Gl X "sorted")(hm:X.mg "sorted"=none)(ha:QW aj X W a fa)(hs:nst a=true):QE aj X W (.Call (.Name "sorted" p) [a] [] pos) (eO yZ fa):=
 afF (.inl rfl) (Ear.aa5 hu) ahk hg hm ⟨by decide +kernel,by decide,by decide⟩ ha hs
theorem aap{K:aqe}{g:Gh}{H:Hp}:∀{vs:List V} {l:List Int},DpAll K H vs (l.map PyData.int)->aJ K g H vs (l.map PyData.int)
 |_,[],.nil=>.nil
 |_,_::_,.cons (.int i) t=>.cons (.int i) (aap t)
theorem acK{K:aqe}{g:Gh}{H:Hp}{v:V}{r:Ear.Rw}(h:Ear.xq K H v r):Rep K g H v (Ear.rD r):=by
 unfold Ear.xq Ear.rD at h;cases h with
 |tup h1 t1=>
  cases t1 with
  |cons a1 t1=>
   cases a1;cases t1 with
   |cons a2 t2=>
    cases t2;cases a2 with
    |tup h2 t3=>exact .tup h1 (.cons (.int _) (.cons (.tup h2 (aap t3)) .nil))
theorem VD{K:aqe}{g:Gh}{H:Hp}:∀{vs:List V} {R:List Ear.Rw},aJ K g H vs (R.map Ear.rD)->Ear.fj (Ear.xq K H) vs R
 |_,[],.nil=>⟨rfl,λi v x a b=>by simp at a⟩
 |_,r::R,.cons h t=>by
  have ih:=VD t;refine⟨congrArg (· + 1) ih.1,λi v x a b=>?_⟩;cases i with
  |zero=>
   simp at a b;subst a b;exact h.dp (n:=12) (KJ 10 _)
  |succ i=>exact ih.2 i v x (by simpa using a) (by simpa using b)
theorem U4{K:aqe}{g:Gh}{H:Hp}:∀{vs:List V} {R:List Ear.Rw},Ear.fj (Ear.xq K H) vs R->aJ K g H vs (R.map Ear.rD)
 |[],[],_=>.nil
 |[],_::_,h=>nomatch h.1
 |_::_,[],h=>nomatch h.1
 |v::vs,r::R,h=>.cons (acK (h.2 0 v r rfl rfl)) (U4 ⟨arn h.1,λi v x a b=>h.2 (i+1) v x a b⟩)
theorem ahf(hu:X.A.units+65 < cLine)(hc:X.calm=true)(hg:Gl X "sorted")(hm:X.mg "sorted"=none)(hg2:Gl X "set")(hm2:X.mg "set"=none)(ha:QW aj X W a fa)(hs:nst a=true):QE aj X W (.Call (.Name "sorted" p) [.Call (.Name "set" p2) [a] [] pos2] [] pos) (eO Px fa):=by
 have h0:=pa_cons ha pa_nil (cO hs []);have h1:PE X (.Call (.Name "set" p2) [a] [] pos2) _:=pe_callTy (Ear.Zt hu hc) hg2 hm2 (by decide +kernel) h0 (by decide) (by decide) (cO hs []) (by with_unfolding_all rfl)
 have h2:=pa_cons h1 pa_nil (cO rfl []);refine PE.weak (pe_callB (p:=p) (pos:=pos) (Ear.abr hu hc) hg hm (by decide +kernel) h2 (by decide) (by decide) (cO rfl []) (by with_unfolding_all rfl)) λσ H Q ⟨g,Z,M,I,h⟩=>?_;refine tW.go I h.bnd λd v H1 h1 e1 r1=>?_;have I1:=I.ex e1;unfold Px at h1;split at h1
 ·next ds=>
  split at h1
  ·next R hR=>
   split at h1
   ·next hd=>
    have e:=Oh hR;subst e;obtain⟨l,us,rfl,s1,s2⟩:=jf r1;unfold Ear.JH;refine⟨l,us,R,R.eraseDups,rfl,s1,VD s2,aru hd,λr hr=>Ar.mpr hr,λq L nq hL nd mem few=>?_⟩;have eq:Ex H1 (upd H1 q (Ear.Lk X.w q L)):=Ex.new nq;unfold Ear.Oa;refine⟨q,L,rfl,upd_same,λe he=>?_,nd,few,λys S z hy up ms nz=>?_⟩
    ·exact(Rep.ex eq I1.kd (acK (g:=g) (hL e he))).dp (n:=12) (KJ 10 _)
    ·have hS:S=bG R:=Ear.acW up (Nb R) λr=>by rw[ms,mem,dW]
     subst hS;have I2:=I1.ex eq;exact h1 (.ref z) _ ((e1.trans eq).trans (Ex.new nz)) (.lst (.inl ⟨.inl upd_same,I2.kd.fresh nz⟩) ((U4 hy).ex (Ex.new nz) I2.kd))
   ·exact arq h1
  ·exact arq h1
 ·exact arq h1
def ahF(it:IF)(tg:fM)(vs:List Nat)(tt:QT)(te:QF):QF:=λM Z=>(zP it tg vs tt te M Z).bind λds=>match intsOf ds with
 |some l=>Out.when (decide (l.length<=4000)) (.ok (.list ((afu l).map PyData.int)))
 |none=>.bad
end
def yS(Z:Env):Bool:=Z.all λo=>match o with
 |some (.mut _)=>false
 |_=>true
theorem W6{Z:Env}(h:yS Z=true){i:Nat}{xs:List Dat}:Z[i]?≠some (some (.mut xs)):=λz=>by
 have:=aqB.mp h _ (aqm z);cases this
theorem SInv.loc{K:aqe}{aj:aQ}{σ:L2.St}{H:Hp}{g:Gh}{Z:Env}{M:Mo}{D:Addr}{us us':List V}(I:SInv K aj σ H g Z M)(n:yS Z=true)(hD:H D=some (.lst us))(lo:g.Lo D):SInv K aj σ (upd H D (.lst us')) g Z M where
 kd:=I.kd.upd trivial
 wok:=I.wok.loc I.kd hD lo
 len:=I.len
 dat:=λi d h=>by
  obtain⟨v,h1,h2⟩:=I.dat i d h;exact⟨v,h1,agV I.kd hD lo h2⟩
 own:=λi xs h=>absurd h (W6 n)
 sep:=λi j xs ys l ne h1=>absurd h1 (W6 n)
def gQ(tg:fM)(tt:QT)(it1:IF)(tg1:fM)(vs1:List Nat)(tt1:QT)(te:QF)(M:Mo)(Z:Env):List Dat->Out (List Dat)
 |[]=>.ok []
 |d::ds=>match tg d Z with
  |none=>.bad
  |some Z1=>(xQ (tt M Z1)).bind λb=>if b=true then Out.when (yS Z1) ((xQ (it1 M Z1)).bind λes=>(dG tg1 tt1 te M (cD Z1 vs1) es).bind λr1=>(gQ tg tt it1 tg1 vs1 tt1 te M Z ds).bind λr=>.ok (r1++r)) else gQ tg tt it1 tg1 vs1 tt1 te M Z ds
def Z9(it:IF)(tg:fM)(vs:List Nat)(tt:QT)(it1:IF)(tg1:fM)(vs1:List Nat)(tt1:QT)(te:QF):IF:=λM Z=>(it M Z).bind λds=>(gQ tg tt it1 tg1 vs1 tt1 te M (cD Z vs) ds).bind λr=>Out.when (decide (r.length<=50000)) (.ok r)
def Cg(it:IF)(tg:fM)(vs:List Nat)(tt:QT)(it1:IF)(tg1:fM)(vs1:List Nat)(tt1:QT)(te:QF):QF:=λM Z=>(Z9 it tg vs tt it1 tg1 vs1 tt1 te M Z).bind λr=>.ok (.list r)
theorem v9{tg tg1:fM}{tt tt1:QT}{te:QF}{it1:IF}{vs1:List Nat}{M:Mo}{Z:Env}:∀{ds:List Dat} {x:cY},gQ tg tt it1 tg1 vs1 tt1 te M Z ds≠.exc x
 |[],_,h=>nomatch h
 |d::ds,x,h=>by
  rw[gQ]at h;split at h
  ·cases h
  ·next Z1 e=>
   cases h1:tt M Z1 with
   |bad=>rw[h1]at h;cases h
   |exc y=>rw[h1]at h;cases h
   |ok b=>
    rw[h1]at h;cases b with
    |false=>exact v9 (ds:=ds) (x:=x) h
    |true=>
     cases hn:yS Z1 with
     |false=>rw[hn]at h;cases h
     |true=>
      rw[hn]at h;cases h2:it1 M Z1 with
      |bad=>rw[h2]at h;cases h
      |exc y=>rw[h2]at h;cases h
      |ok es=>
       rw[h2]at h;have h:((dG tg1 tt1 te M (cD Z1 vs1) es).bind λr1=>(gQ tg tt it1 tg1 vs1 tt1 te M Z ds).bind λr=>Out.ok (r1++r))=.exc x:=h;cases h3:dG tg1 tt1 te M (cD Z1 vs1) es with
       |bad=>rw[h3]at h;cases h
       |exc y=>exact absurd h3 qR
       |ok r1=>
        rw[h3]at h;have h:((gQ tg tt it1 tg1 vs1 tt1 te M Z ds).bind λr=>Out.ok (r1++r))=.exc x:=h;cases h4:gQ tg tt it1 tg1 vs1 tt1 te M Z ds with
        |bad=>rw[h4]at h;cases h
        |exc y=>exact absurd h4 v9
        |ok r=>rw[h4]at h;cases h
section
variable{K:aqe}{aj:aQ}{W:WX}
theorem af5{it it1:IF}{tg tg1:fM}{js vs js1 vs1:List Nat}{tt tt1:QT}{te:QF}(hj:∀j∈js,j∈vs)(hj1:∀j∈js1,j∈vs1)(σ:L2.St)(H:Hp)(Q:VK)(h:tFr K aj W (Z9 it tg vs tt it1 tg1 vs1 tt1 te) σ H Q) :
  tLc2 (tI K aj W false it) (zL K aj js tg) (jW K aj WF tt) (tI K aj WF true it1) (zL K aj js1 tg1) (jW K aj WF tt1) (tQ K aj WF te) vs vs1 σ H Q:=by
 obtain⟨g,Z,M,I,h⟩:=h;refine⟨g,Z,M,I,h.bnd.mono (λds hk J C H1 e1 w c _ D nD=>?_) λ_ z=>z⟩;obtain⟨total,htot,hlen,hQ⟩:∃total,gQ tg tt it1 tg1 vs1 tt1 te M (cD Z vs) ds=.ok total/\total.length<=50000/\∀l us H',H l=none->Ex H H'->H' l=some (.lst us)->aJ K (g.add l) H' us total->Q (.ref l) H':=by
  cases hc:gQ tg tt it1 tg1 vs1 tt1 te M (cD Z vs) ds with
  |bad=>rw[hc]at hk;exact arq hk
  |exc x=>exact absurd hc v9
  |ok total=>
   rw[hc]at hk;obtain⟨hz,hk⟩:=Out.sat.pP hk;exact⟨total,rfl,aru hz,hk⟩
 have I1:=(I.ex e1).wipe vs;have kD:∀{Ha:Hp} {us:List V},Ex H1 Ha->Ha D=some (.lst us)->SInv K aj (L2.wipe σ vs) Ha (g.add D) (cD Z vs) M:=λea hu=>I1.add nD ea hu trivial;have lD:(g.add D).Lo D:=.inr rfl
 let Pv:Nat->Hp->Prop:=λi Ha=>Ex H1 Ha/\i<=ds.length/\∃us ys,Ha D=some (.lst us)/\aJ K (g.add D) Ha us ys/\(gQ tg tt it1 tg1 vs1 tt1 te M (cD Z vs) (ds.drop i)).sat (λr=>total=ys++r) λ_=>False
 refine⟨λi m Ha=>m=ds.length - i/\Pv i Ha,⟨ds.length,rfl,Ex.new nD,aqT _,[],[],upd_same,.nil,?_⟩,?_⟩
 ·rw[aro,htot];rfl
 ·rintro i m Ha ⟨rfl,ea,hi,us,ys,hu,hU,hs⟩;have Ia:=kD ea hu;have Ca:=w.add g (g.add D) H1 Ha (I.kd.ex e1) c (Gh.Fl nD ea) ea;by_cases hlt:i < ds.length
  ·refine .inr ⟨w.go _ i Ha Ca hlt,Pv (i+1),λH' p=>⟨ds.length - (i+1),by omega,rfl,p⟩,λx H' y=>?_⟩;have hd:ds[i]?=some ds[i]:=aqi hlt;obtain⟨e2,rx⟩:=w.yld _ i Ha x H' _ Ia.kd Ca hd y;have I2:=Ia.ex e2;rw[aq2 hlt,gQ]at hs;split at hs
   ·exact arq hs
   ·next Z1 he=>
    refine⟨g.add D,_,M,_,Z1,I2,rx,he,λws I3=>⟨zQ js ws _ vs hj |>.trans (CW σ vs),?_⟩⟩;refine jW.go I3 (BJ hs.bnd) λb H3 hb e3=>?_;have I4:=I3.ex e3;have hu3:=e3 _ _ (e2 _ _ hu);have hU3:=(hU.ex e2 Ia.kd).ex e3 I2.kd;cases b with
    |false=>
     have hb:(gQ tg tt it1 tg1 vs1 tt1 te M (cD Z vs) (ds.drop (i+1))).sat (λr=>total=ys++r) λ_=>False:=hb;exact⟨(ea.trans e2).trans e3,hlt,us,ys,hu3,hU3,hb⟩
    |true=>
     have hb:(Out.when (yS Z1) ((xQ (it1 M Z1)).bind λes=>(dG tg1 tt1 te M (cD Z1 vs1) es).bind λr1=>(gQ tg tt it1 tg1 vs1 tt1 te M (cD Z vs) (ds.drop (i+1))).bind λr=>Out.ok (r1++r))).sat (λr=>total=ys++r) λ_=>False:=hb;obtain⟨nm,hb⟩:=hb.pP;refine⟨g.add D,Z1,M,I4,(BJ (E':=qG K aj WF (g.add D) H3 _) hb.bnd).mono (λes hk1 J1 C1 H4 e4 w1 c1 fm=>?_) λ_ z=>z⟩;have fm:=fm rfl
     -- all that is added by this walk
     obtain⟨r1,r2,hr1,hr2,ht⟩:∃r1 r2,dG tg1 tt1 te M (cD Z1 vs1) es=.ok r1/\gQ tg tt it1 tg1 vs1 tt1 te M (cD Z vs) (ds.drop (i+1))=.ok r2/\total=ys++(r1++r2):=by
      cases q1:dG tg1 tt1 te M (cD Z1 vs1) es with
      |bad=>rw[q1]at hk1;exact arq hk1
      |exc y=>exact absurd q1 qR
      |ok r1=>
       rw[q1]at hk1;have hk1:((gQ tg tt it1 tg1 vs1 tt1 te M (cD Z vs) (ds.drop (i+1))).bind λr=>Out.ok (r1++r)).sat (λr=>total=ys++r) λ_=>False:=hk1;cases q2:gQ tg tt it1 tg1 vs1 tt1 te M (cD Z vs) (ds.drop (i+1)) with
       |bad=>rw[q2]at hk1;exact arq hk1
       |exc y=>exact absurd q2 v9
       |ok r2=>
        rw[q2]at hk1;exact⟨r1,r2,rfl,rfl,hk1⟩
     let P1:Nat->Hp->Prop:=λj Hb=>Ex H1 Hb/\SInv K aj (sets (L2.wipe σ vs) js ws) Hb (g.add D) Z1 M/\C1 (g.add D) Hb/\j<=es.length/\∃us' zs,Hb D=some (.lst us')/\aJ K (g.add D) Hb us' (ys++zs)/\(dG tg1 tt1 te M (cD Z1 vs1) (es.drop j)).sat (λr=>r1=zs++r) λ_=>False
     refine⟨λj m Hb=>m=es.length - j/\P1 j Hb,⟨es.length,rfl,((ea.trans e2).trans e3).trans e4,I4.ex e4,c1,aqT _,us,[],e4 _ _ hu3,by rw[aqY];exact hU3.ex e4 I4.kd,?_⟩,?_⟩
     ·rw[aro,hr1];rfl
     ·rintro j m Hb ⟨rfl,fb,Ib,Cb,hjl,us',zs,hub,hUb,hsb⟩;by_cases hlj:j < es.length
      ·refine .inr ⟨w1.go _ j Hb Cb hlj,P1 (j+1),λH' p=>⟨es.length - (j+1),by omega,rfl,p⟩,λx H' y=>?_⟩;have hdj:es[j]?=some es[j]:=aqi hlj;obtain⟨f2,rx⟩:=w1.yld _ j Hb x H' _ Ib.kd Cb hdj y;have J2:=(Ib.ex f2).wipe vs1;rw[aq2 hlj,dG]at hsb;split at hsb
       ·exact arq hsb
       ·next Z2 he1=>
        refine⟨g.add D,_,M,_,Z2,J2,rx,he1,λws1 J3=>⟨zQ js1 ws1 _ vs1 hj1 |>.trans (CW _ vs1),?_⟩⟩;refine jW.go J3 (BJ hsb.bnd) λb H6 hb6 e6=>?_;have f26:=f2.trans e6;have hu6:=f26 _ _ hub;have hU6:=hUb.ex f26 Ib.kd;cases b with
        |false=>
         have hb6:(dG tg1 tt1 te M (cD Z1 vs1) (es.drop (j+1))).sat (λr=>r1=zs++r) λ_=>False:=hb6;exact⟨fb.trans f26,Ib.ex f26,w1.ex _ _ _ Ib.kd Cb f26,hlj,us',zs,hu6,hU6,hb6⟩
        |true=>
         have hb6:((xQ (te M Z2)).bind λy=>(dG tg1 tt1 te M (cD Z1 vs1) (es.drop (j+1))).bind λr=>Out.ok (y::r)).sat (λr=>r1=zs++r) λ_=>False:=hb6;refine tQ.go (J3.ex e6) (BJ hb6.bnd) λy v H7 hyv e7 ry=>?_;have f27:=f26.trans e7;have Ib7:=Ib.ex f27;have hu7:=f27 _ _ hub;have hU7:=hUb.ex f27 Ib.kd;have hyv:=hyv.bnd;have hr:∃r,dG tg1 tt1 te M (cD Z1 vs1) (es.drop (j+1))=.ok r/\r1=zs++y::r:=by
          cases q1:dG tg1 tt1 te M (cD Z1 vs1) (es.drop (j+1)) with
          |bad=>rw[q1]at hyv;exact arq hyv
          |exc y=>exact absurd q1 qR
          |ok r=>
           rw[q1]at hyv;exact⟨r,rfl,hyv⟩
         obtain⟨r,hr,hr1'⟩:=hr;have hll:us'.length < 50000:=by rw[hUb.length];rw[ht,hr1']at hlen;simp at hlen ⊢;omega
         refine⟨us',hu7,sz_lt (Nat.lt_trans hll (by decide)),Ex.mut (fb.trans f27) nD,Ib7.loc nm hu7 lD,fm true _ _ _ _ Ib7.kd (w1.ex _ _ _ Ib.kd Cb f27) (Gr.upd Ib7.kd hu7 (.inr lD)),hlj,us'++[v],zs++[y],upd_same,?_,?_⟩
         ·rw[←List.append_assoc];exact Zk Ib7.kd hu7 lD (hU7.append (.cons ry .nil))
         ·rw[hr];show r1=_;rw[hr1'];simp
      ·have e:j=es.length:=by omega
       refine .inl ⟨w1.stop _ j Hb Cb e,?_⟩;rw[e,aq6]at hsb;have hsb:r1=zs++[]:=hsb;rw[aqY]at hsb;subst hsb;refine⟨fb,hlt,us',ys++r1,hub,hUb,?_⟩;rw[hr2];show total=_;rw[ht,List.append_assoc]
  ·have e:i=ds.length:=by omega
   refine .inl ⟨w.stop _ i Ha Ca e,?_⟩;rw[e,aq6]at hs;have hs:total=ys++[]:=hs;rw[aqY]at hs;subst hs;exact hQ D us Ha (Cq e1 D nD) (e1.trans ea) hu hU
theorem acB{it it1:IF}{tg tg1:fM}{js vs js1 vs1:List Nat}{tt tt1:QT}{te:QF}(hj:∀j∈js,j∈vs)(hj1:∀j∈js1,j∈vs1)(σ:L2.St)(H:Hp)(Q:VK)(h:tQ K aj W (Cg it tg vs tt it1 tg1 vs1 tt1 te) σ H Q) :
  tLc2 (tI K aj W false it) (zL K aj js tg) (jW K aj WF tt) (tI K aj WF true it1) (zL K aj js1 tg1) (jW K aj WF tt1) (tQ K aj WF te) vs vs1 σ H Q:=by
 obtain⟨g,Z,M,I,h⟩:=h;refine af5 hj hj1 σ H Q ⟨g,Z,M,I,h.bnd.mono (λxs hk l us H' nl e hl r=>?_) λ_ z=>z⟩;refine hk (.ref l) H' e (.lst (.inl ⟨.inl hl,λz=>?_⟩) (aJ.less (g:=g.add l) (g':=g) rfl (λa z=>?_) r))
 ·exact I.kd.fresh nl z
 ·rcases z with z|z|z
  ·exact .inl z
  ·exact .inr (.inl z)
  ·exact .inr (.inr (.inl z))
end
section
variable{X:Cx}{aj:aQ}{W:WX}{q:Bool}{elt tg iter tg1 iter1:Expr}{ifs ifs1:List Expr}{scope:Scope}{own:List (Str×Nat)}{it it1:IF}{tgf tgf1:fM}{js js1 vs1:List Nat}{tt tt1:QT}{te:QF}{pos cpos:Pos}
theorem aiO(hc:X.calm=true)(hN:X.N.Nodup)(hi:QI aj X W false tg iter it)(ok:blkC X.N X.env.scope scope own=true)(hv:∀i∈vs1,i∈own.map (·.2))(hj:∀j∈js,j∈own.map (·.2))(hj1:∀j∈js1,j∈vs1)
  (hg:∀(s:Shared) (H:Hp) (C:Addr) (cl:List (Str×Addr)) (fp:List Addr),QG aj (X.blk s H scope (compEnvC scope cl C X.env) fp) tg js tgf)
  (ht:∀(s:Shared) (H:Hp) (C:Addr) (cl:List (Str×Addr)) (fp:List Addr),PTs (X.blk s H scope (compEnvC scope cl C X.env) fp) ifs (jW X.K aj WF tt))
  (hi1:∀(s:Shared) (H:Hp) (C:Addr) (cl:List (Str×Addr)) (fp:List Addr),QI aj (X.blk s H scope (compEnvC scope cl C X.env) fp) WF true tg1 iter1 it1)
  (hg1:∀(s:Shared) (H:Hp) (C:Addr) (cl:List (Str×Addr)) (fp:List Addr),QG aj (X.blk s H scope (compEnvC scope cl C X.env) fp) tg1 js1 tgf1)
  (ht1:∀(s:Shared) (H:Hp) (C:Addr) (cl:List (Str×Addr)) (fp:List Addr),PTs (X.blk s H scope (compEnvC scope cl C X.env) fp) ifs1 (jW X.K aj WF tt1))
  (he:∀(s:Shared) (H:Hp) (C:Addr) (cl:List (Str×Addr)) (fp:List Addr),QE aj (X.blk s H scope (compEnvC scope cl C X.env) fp) WF elt te) (hs:∀x,foldedSetIterable iter X.env x=pure x) (hs1:∀env x,foldedSetIterable iter1 env x=pure x) :
  QE aj X W (.ListComp elt [⟨tg,iter,ifs,0⟩,⟨tg1,iter1,ifs1,0⟩] scope pos) (Cg it tgf (own.map (·.2)) tt it1 tgf1 vs1 tt1 te):=
 PE.weak (pe_lc2 (g:=zL X.K aj js tgf) (tt:=jW X.K aj WF tt) (wi1:=tI X.K aj WF true it1) (g1:=zL X.K aj js1 tgf1) (tt1:=jW X.K aj WF tt1) (te:=tQ X.K aj WF te) hc hN hi (blkOk_by ok) hv (λs H C cl fp=>hg s H C cl fp) ht (λs H C cl fp=>hi1 s H C cl fp) (λs H C cl fp=>hg1 s H C cl fp) ht1 (λs H C cl fp=>he s H C cl fp) hs hs1) λσ H Q h=>acB hj hj1 σ H Q h
theorem ag9{j:Nat}{y:Str}{py:Pos}(hc:X.calm=true)(hN:X.N.Nodup)(hy:X.N[j]?=some y)(hyl:X.env.scope.names.lookup y=some .local)(hsw:swapsWith (.ListComp elt [⟨tg,iter,ifs,0⟩,⟨tg1,iter1,ifs1,0⟩] scope cpos) (some (.Name y py)) pos.line X.env=pure true)
  (hi:QI aj X W false tg iter it) (ok:blkC X.N X.env.scope scope own=true) (hv:∀i∈vs1,i∈own.map (·.2)) (hj:∀j∈js,j∈own.map (·.2)) (hj1:∀j∈js1,j∈vs1)
  (hg:∀(s:Shared) (H:Hp) (C:Addr) (cl:List (Str×Addr)) (fp:List Addr),QG aj (X.blk s H scope (compEnvC scope cl C X.env) fp) tg js tgf)
  (ht:∀(s:Shared) (H:Hp) (C:Addr) (cl:List (Str×Addr)) (fp:List Addr),PTs (X.blk s H scope (compEnvC scope cl C X.env) fp) ifs (jW X.K aj WF tt))
  (hi1:∀(s:Shared) (H:Hp) (C:Addr) (cl:List (Str×Addr)) (fp:List Addr),QI aj (X.blk s H scope (compEnvC scope cl C X.env) fp) WF true tg1 iter1 it1)
  (hg1:∀(s:Shared) (H:Hp) (C:Addr) (cl:List (Str×Addr)) (fp:List Addr),QG aj (X.blk s H scope (compEnvC scope cl C X.env) fp) tg1 js1 tgf1)
  (ht1:∀(s:Shared) (H:Hp) (C:Addr) (cl:List (Str×Addr)) (fp:List Addr),PTs (X.blk s H scope (compEnvC scope cl C X.env) fp) ifs1 (jW X.K aj WF tt1))
  (he:∀(s:Shared) (H:Hp) (C:Addr) (cl:List (Str×Addr)) (fp:List Addr),QE aj (X.blk s H scope (compEnvC scope cl C X.env) fp) WF elt te) (hs:∀x,foldedSetIterable iter X.env x=pure x) (hs1:∀env x,foldedSetIterable iter1 env x=pure x) :
  SE aj X W q (.Assign [.Name y py] (.ListComp elt [⟨tg,iter,ifs,0⟩,⟨tg1,iter1,ifs1,0⟩] scope cpos) pos) (bh (aF j) (gOf (Cg it tgf (own.map (·.2)) tt it1 tgf1 vs1 tt1 te))):=by
 refine PS.weak (ps_setLc2 (g:=zL X.K aj js tgf) (tt:=jW X.K aj WF tt) (wi1:=tI X.K aj WF true it1) (g1:=zL X.K aj js1 tgf1) (tt1:=jW X.K aj WF tt1) (te:=tQ X.K aj WF te) hc hN hy hyl hsw hi (blkOk_by ok) hv (λs H C cl fp=>hg s H C cl fp) ht (λs H C cl fp=>hi1 s H C cl fp) (λs H C cl fp=>hg1 s H C cl fp) ht1 (λs H C cl fp=>he s H C cl fp) hs hs1) λD σ H ⟨g,Z,M,I,z⟩=>?_;refine acB hj hj1 σ H _ ⟨g,Z,M,I,(Out.jc (dD (σ:=σ) z)).mono (λd kk v H' e r=>?_) λx kk H' c dd e r=>kk H' g c dd (Gr.ex e) (I.ex e) r⟩;exact kk _ H' g (Gr.ex e) ((I.ex e).set r)
end
def TJ(neg:Bool)(kvs:List (Str×Dat))(k:QF):QF:=λM Z=>(k M Z).bind λd=>match d with
 |.str x=>.ok (.bool (neg ^^ (kvs.lookup x).isSome))
 |_=>.bad
def abE(kvs:List (Str×Dat))(k:QF):QF:=λM Z=>(k M Z).bind λd=>match d with
 |.str x=>match kvs.lookup x with
  |some y=>.ok y
  |none=>.bad
 |_=>.bad
section
variable{X:Cx}{aj:aQ}{W:WX}{a:Expr}{fa:QF}{x:Str}{p pos:Pos}{kvs:List (Str×Dat)}{k:Nat}
theorem ace{neg:Bool}{d:Addr}(D:aa9 X.w X.K d kvs)(σ:L2.St)(H:Hp)(Q:VK)(h:tQ X.K aj W (TJ neg kvs fa) σ H Q) :
  tOp (λx y H Q=>∃(z:Str) (r:Option Value),x=.str z/\y=.ref d/\PySem.W.nsIn X.K d z=some r/\Q (.bl (neg ^^ r.isSome)) H) (tW X.K aj W fa) (tC (.ref d)) σ H Q:=by
 obtain⟨g,Z,M,I,h⟩:=h;refine tW.go I h.bnd λe v H1 h1 e1 r1=>?_;split at h1
 ·next z=>
  cases jJ r1;obtain⟨es,n,_,_,hl⟩:=D;have hz:=hl z;cases hk:kvs.lookup z with
  |none=>
   rw[hk]at hz h1;exact⟨z,none,rfl,rfl,hz,h1 _ H1 e1 (.bl _)⟩
  |some d'=>
   rw[hk]at hz h1;obtain⟨v,u,h2,_⟩:=hz;exact⟨z,some u,rfl,rfl,h2,h1 _ H1 e1 (.bl _)⟩
 ·exact arq h1
theorem opG{neg:Bool}{op:CmpOp}{d:Addr}(hn:(op=.In/\neg=false)∨(op=.NotIn/\neg=true))(D:aa9 X.w X.K d kvs):OpR X (compareOp op) (λx y H Q=>∃(z:Str) (r:Option Value),x=.str z/\y=.ref d/\PySem.W.nsIn X.K d z=some r/\Q (.bl (neg ^^ r.isSome)) H):=by
 obtain⟨es,n,D,_⟩:=D;rcases hn with⟨rfl,rfl⟩|⟨rfl,rfl⟩
 ·have:=op_in_kd (X:=X) D;simpa only[Bool.false_xor] using this
 ·have:=op_notIn_kd (X:=X) D;simpa only[Bool.true_xor] using this
theorem ahZ{neg:Bool}{op:CmpOp}(hn:(op=.In/\neg=false)∨(op=.NotIn/\neg=true))(g:bx X.prog X.w X.K X.mg X.base aj k x (.dic kvs))(hg:Gl X x)(hd:(x==("__debug__" : Str))=false)(ha:QW aj X W a fa):QE aj X W (.Compare a [op] [.Name x p] pos) (TJ neg kvs fa)/\rH aj X W (.Compare a [op] [.Name x p] pos) (aY (TJ neg kvs fa)):=by obtain⟨d,hm,D⟩:=g;have hb:PE X (.Name x p) (tC (.ref d)):=pe_glob hg hm rfl hd;refine⟨PE.weak (pe_cmpR (opG hn D) ha hb (by cases op<;>rfl)) λσ H Q h=>ace D σ H Q h,PT.weak (pt_cmpR (opG hn D) ha hb (by cases op<;>rfl)) λσ H Q ⟨g,Z,M,I,h⟩=>?_⟩;refine ace D σ H _ ⟨g,Z,M,I,h.bnd.mono (λd h1 v H' e' r'=>?_) λ_ z=>z⟩;obtain⟨k,h2,h3⟩:=CZ r'.weak h1;exact⟨k,h2,h3 H' e'⟩
theorem ahR(g:bx X.prog X.w X.K X.mg X.base aj k x (.dic kvs))(hg:Gl X x)(hd:(x==("__debug__" : Str))=false)(ha:QW aj X W a fa)(hp:PlainIx a):QE aj X W (.Subscript (.Name x p) a pos) (abE kvs fa):=by
 obtain⟨d,hm,es,n,D,_,hl⟩:=g;have hb:PE X (.Name x p) (tC (.ref d)):=pe_glob hg hm rfl hd;refine PE.weak (pe_ix ix_kdict hb ha hp) λσ H Q ⟨g,Z,M,I,h⟩=>?_;refine tW.go I h.bnd λe v H1 h1 e1 r1=>?_;split at h1
 ·next z=>
  cases jJ r1;have hz:=hl z;split at h1
  ·next y hk=>
   rw[hk]at hz;obtain⟨v,u,h2,h3,h4⟩:=hz;exact⟨d,z,v,rfl,rfl,⟨es,n,u,D.at_,D.lit,h2,h3⟩,h1 v H1 e1 (h4 g H1)⟩
  ·exact arq h1
 ·exact arq h1
end
structure Hs where
 Ms:List (Str×List (Str×MV))
 ft:Ft
 xm:List (Str×List (Str×Bool))
 df:List (Str×Bool)
 xf:List (Str×List Str)
structure Uc(P:Program)(w:World)(K:aqe)(mg:Str->Option Value)(base:Heap)(aj:aQ)(k:Nat)(h:Hs):Prop where
 ms:∀m tb,h.Ms.lookup m=some tb->∀c v,tb.lookup c=some v->bY P w K mg base aj k c m v
 fk:KY h.ft aj
 co:jk K aj
 hw:aj.w=w
 xm:∀y tab,h.xm.lookup y=some tab->(∃D,aj y=some D)/\abl K aj y λx=>tab.lookup x
 xf:∀y fs,h.xf.lookup y=some fs->∃C,aj y=some C/\XfC K C/\∀f∈fs,PySem.W.findIn K (.ref C) f=some none
structure Tc where
 N:List Str
 sc:Scope
 G:List (Str×GV)
 B:List Str
 hs:Hs
 ml:List Str
 top:Bool
structure Amb(aj:aQ)(c:Tc)(X:Cx)(W:WX)(k:Nat):Prop where
 hN:X.N=c.N
 hs:X.env.scope=c.sc
 calm:X.calm=true
 nd:X.N.Nodup
 tk:Takes X W
 rm:Room k X.A
 gl:∀x v,c.G.lookup x=some v->bx X.prog X.w X.K X.mg X.base aj k x v
 bl:∀x,x∈c.B->X.mg x=none
 fn:c.top=true->∀x,X.fn x=true
 hk:Uc X.prog X.w X.K X.mg X.base aj k c.hs
def gd{α:Type}(b:Bool)(o:Option α):Option α:=match b with
 |true=>o
 |false=>none
theorem aW{α:Type}{b:Bool}{o:Option α}{x:α}:gd b o=some x↔b=true/\o=some x:=by
 cases b
 ·exact⟨λh=>(nomatch h),λh=>(nomatch h.1)⟩
 ·exact⟨λh=>⟨rfl,h⟩,λh=>h.2⟩
def idx:List Str->Str->Option Nat
 |[],_=>none
 |y::ys,x=>match y==x with
  |true=>some 0
  |false=>(idx ys x).map (· + 1)
theorem TY:∀{N:List Str} {x:Str} {i:Nat},idx N x=some i->N[i]?=some x
 |[],_,_,h=>nomatch h
 |y::ys,x,i,h=>by
  rw[idx]at h;split at h
  ·next e=>
   cases h;rw[List.getElem?_cons_zero,eq_of_beq e]
  ·rw[aq1]at h;obtain⟨j,h1,rfl⟩:=h;rw[List.getElem?_cons_succ];exact TY h1
def afi(sc:Scope)(x:Str):Bool:=match sc.names.lookup x with
 |some .local=>true
 |some .cell=>true
 |some .free=>true
 |_=>false
theorem agZ{sc:Scope}{x:Str}(h:afi sc x=true):Vis sc x:=by
 unfold afi at h;unfold Vis;split at h
 ·next e=>exact .inl e
 ·next e=>exact .inr (.inl e)
 ·next e=>exact .inr (.inr e)
 ·cases h
def Ek(x:Str):Bool:=(x==("__debug__" : Str)) || (x==("__classdict__" : Str))
theorem sW{x:Str}(h:Ek x=false):(x==("__debug__" : Str))=false/\(x==("__classdict__" : Str))=false:=by unfold Ek at h;rw[Bool.or_eq_false_iff]at h;exact h
def EY(sc:Scope)(x:Str):Bool:=match sc.names.lookup x with
 |some .globalImplicit=>true
 |_=>false
def KN(c:Tc)(x:Str):Option Nat:=gd (afi c.sc x&&!Ek x) (idx c.N x)
def aik(c:Tc)(x:Str):Bool:=match c.sc.names.lookup x with
 |some .local=>true
 |some .cell=>c.top
 |_=>false
def vh(c:Tc)(x:Str):Option Nat:=gd (aik c x) (idx c.N x)
section
variable{aj:aQ}{c:Tc}{X:Cx}{W:WX}{k:Nat}{x:Str}{i:Nat}
theorem rW(a:Amb aj c X W k)(h:EY c.sc x=true):Gl X x:=by
 unfold EY at h;unfold Gl PySem.Env.kindOf;rw[a.hs];split at h
 ·assumption
 ·cases h
theorem zu(a:Amb aj c X W k)(h:KN c x=some i):X.N[i]?=some x/\Vis X.env.scope x/\(x==("__debug__" : Str))=false/\(x==("__classdict__" : Str))=false:=by obtain⟨h1,h2⟩:=aW.mp h;rw[aqf]at h1;obtain⟨d1,d2⟩:=sW (by simpa using h1.2);exact⟨by rw[a.hN];exact TY h2,by rw[a.hs];exact agZ h1.1,d1,d2⟩
theorem lX(a:Amb aj c X W k)(h:vh c x=some i):X.N[i]?=some x/\L2.Loc X.env.scope x/\(X.fn x=true∨X.env.scope.names.lookup x=some .local):=by
 obtain⟨h1,h2⟩:=aW.mp h;unfold aik at h1;refine⟨by rw[a.hN];exact TY h2,?_⟩;rw[a.hs];unfold L2.Loc;split at h1
 ·next e=>exact⟨.inl e,.inr e⟩
 ·next e=>exact⟨.inr e,.inl (a.fn h1 x)⟩
 ·cases h1
def uI(c:Tc)(x y:Str):Bool:=(x==y)&&(EY c.sc x&&c.B.contains x)
theorem mY{y:Str}(a:Amb aj c X W k)(h:uI c x y=true):x=y/\Gl X x/\X.mg x=none:=by unfold uI at h;rw[aqf,aqf]at h;exact⟨eq_of_beq h.1,rW a h.2.1,a.bl x (by simpa using h.2.2)⟩
end
def yj:Expr->Bool
 |.Set _ _ _=>true
 |_=>false
theorem CP{b:Expr}{op:CmpOp}(h:yj b=false):behindInMarks op b=false:=by cases b<;>first | rfl | cases h
theorem Vo{b c:Expr}{op op':CmpOp}(h:yj c=false):lastMarks [op,op'] [b,c]=false:=CP h
theorem qP{e:Expr}{env:PySem.Env}(h:yj e=false):∀x,foldedSetIterable e env x=pure x:=λx=>by
 cases e<;>first | rfl | cases h
def X5:Expr->Bool
 |.Slice _ _ _ _=>true
 |_=>false
def ahP:Operator->Option (Dat->Dat->Out Dat)
 |.Add=>some fG
 |.Sub=>some lE
 |.Mult=>some wO
 |.FloorDiv=>some Oc
 |.Mod=>some qu
 |.Pow=>some Yy
 |_=>none
def NZ:CmpOp->Option (Dat->Dat->Out Dat)
 |.Eq=>some bR
 |.NotEq=>some vZ
 |.Lt=>some M4
 |.LtE=>some uG
 |.Gt=>some W8
 |.GtE=>some geD
 |.In=>some (inD false)
 |.NotIn=>some (inD true)
 |_=>none
theorem agw{op:Operator}{o:Dat->Dat->Out Dat}(h:ahP op=some o)(X:Cx)(aj:aQ)(W:WX):∃r,OpR X (binaryOp op) r/\pK aj X.K W o r:=by
 cases op<;>cases h
 ·exact⟨_,af9,ajj⟩
 ·exact⟨_,op_sub,aiS⟩
 ·exact⟨_,op_mul,ajD⟩
 ·exact⟨_,op_mod,ah3⟩
 ·exact⟨_,op_pow,aks⟩
 ·exact⟨_,op_fdiv,ai7⟩
theorem BL{op:CmpOp}{o:Dat->Dat->Out Dat}(h:NZ op=some o){X:Cx}{k:Nat}(hr:Room k X.A)(aj:aQ)(W:WX):∃r,OpR X (compareOp op) r/\pK aj X.K W o r:=by
 have h65:X.A.units+65 < cLine:=by have:=hr.un;omega
 cases op<;>cases h
 ·exact⟨_,ajH hr.units,alz⟩
 ·exact⟨_,ahS hr.units,aln⟩
 ·exact⟨_,ajL h65,alo⟩
 ·exact⟨_,op_le,ak9⟩
 ·exact⟨_,op_gt,alr⟩
 ·exact⟨_,op_ge,akU⟩
 ·exact⟨_,akj h65,afD⟩
 ·exact⟨_,acf h65,afD⟩
def S9:Expr->Option Dat
 |.Constant .none _ _=>some .none
 |.Constant (.bool b) _ _=>some (.bool b)
 |_=>none
theorem aaS{e:Expr}{d:Dat}{X:Cx}(h:S9 e=some d):∃v,scD d=some v/\(v=.non∨∃b,v=.bl b)/\PE X e (tC v):=by
 unfold S9 at h;split at h
 ·cases h;exact⟨_,rfl,.inl rfl,pe_non⟩
 ·cases h;exact⟨_,rfl,.inr ⟨_,rfl⟩,pe_bl⟩
 ·cases h
def isN:CmpOp->Option Bool
 |.Is=>some false
 |.IsNot=>some true
 |_=>none
theorem adi{op:CmpOp}{neg:Bool}{v:V}{X:Cx}(h:isN op=some neg)(hv:v=.non∨∃b,v=.bl b):OpR X (compareOp op) (Zj neg v):=by
 cases op<;>cases h
 ·exact aiu hv
 ·exact abT hv
def b1D(x:Str):Option (Dat->Out Dat):=
 if x=="len" then some oF else if x=="abs" then some Tg else if x=="sum" then some Ue else if x=="max" then some maxD else if x=="all" then some Nk else if x=="any" then some Ox
 else if x=="tuple" then some lA else if x=="list" then some Ma else if x=="int" then some intD else
 none
def b2D(x:Str):Option (Dat->Dat->Out Dat):=if x=="max" then some oJ else if x=="min" then some HD else none
theorem akd{x:Str}{o:Dat->Out Dat}{X:Cx}(hc:X.calm=true)(h:b1D x=some o)(aj:aQ)(W:WX):∃(f:Value) (id:String) (r:List V->Hp->VK->Prop),(f=.builtin id∨f=.type id)/\CallR X f r/\Iz aj X.K W o r/\BV f x:=by
 unfold b1D at h;split at h
 ·next e=>cases h;cases eq_of_beq e;exact⟨_,_,_,.inl rfl,ajI,ahM,by decide +kernel,by decide,by decide⟩
 split at h
 ·next e=>cases h;cases eq_of_beq e;exact⟨_,_,_,.inl rfl,call_abs,aiF,by decide +kernel,by decide,by decide⟩
 split at h
 ·next e=>cases h;cases eq_of_beq e;exact⟨_,_,_,.inl rfl,cr_sum hc,ajC,by decide +kernel,by decide,by decide⟩
 split at h
 ·next e=>cases h;cases eq_of_beq e;exact⟨_,_,_,.inl rfl,cr_max hc,ais,by decide +kernel,by decide,by decide⟩
 split at h
 ·next e=>cases h;cases eq_of_beq e;exact⟨_,_,_,.inl rfl,cr_all hc,ajo,by decide +kernel,by decide,by decide⟩
 split at h
 ·next e=>cases h;cases eq_of_beq e;exact⟨_,_,_,.inl rfl,cr_any hc,ajV,by decide +kernel,by decide,by decide⟩
 split at h
 ·next e=>cases h;cases eq_of_beq e;exact⟨_,_,_,.inr rfl,call_tuple_of,ae8,by decide +kernel,by decide,by decide⟩
 split at h
 ·next e=>cases h;cases eq_of_beq e;exact⟨_,_,_,.inr rfl,call_list_of,agm,by decide +kernel,by decide,by decide⟩
 split at h
 ·next e=>cases h;cases eq_of_beq e;exact⟨_,_,_,.inr rfl,aie,aiC,by decide +kernel,by decide,by decide⟩
 ·cases h
theorem ajr{x:Str}{o:Dat->Dat->Out Dat}{X:Cx}(hc:X.calm=true)(h:b2D x=some o)(aj:aQ)(W:WX):∃(f:Value) (id:String) (r:List V->Hp->VK->Prop),(f=.builtin id∨f=.type id)/\CallR X f r/\Fn2 aj X.K W o r/\BV f x:=by
 unfold b2D at h;split at h
 ·next e=>cases h;cases eq_of_beq e;exact⟨_,_,_,.inl rfl,call_max2 hc,agF,by decide +kernel,by decide,by decide⟩
 split at h
 ·next e=>cases h;cases eq_of_beq e;exact⟨_,_,_,.inl rfl,call_min2 hc,ahl,by decide +kernel,by decide,by decide⟩
 ·cases h
def tyN(x:Str):Option Mv:=if x=="int" then some .int else if x=="bool" then some .bool else if x=="str" then some .str else if x=="tuple" then some .tuple else if x=="list" then some .list else none
theorem aiz{x:Str}{t:Mv}(h:tyN x=some t):BV (.type t.name) x:=by
 unfold tyN at h;split at h
 ·next e=>cases h;cases eq_of_beq e;exact⟨by decide +kernel,by decide,by decide⟩
 split at h
 ·next e=>cases h;cases eq_of_beq e;exact⟨by decide +kernel,by decide,by decide⟩
 split at h
 ·next e=>cases h;cases eq_of_beq e;exact⟨by decide +kernel,by decide,by decide⟩
 split at h
 ·next e=>cases h;cases eq_of_beq e;exact⟨by decide +kernel,by decide,by decide⟩
 split at h
 ·next e=>cases h;cases eq_of_beq e;exact⟨by decide +kernel,by decide,by decide⟩
 ·cases h
structure Tr where
 E:Tc->Expr->Option QF
 W:Tc->Expr->Option QF
 T:Tc->Expr->Option QT
 I:Tc->Bool->Expr->Expr->Option IF
structure Tr.Ok(t:Tr):Prop where
 oe:∀{aj:aQ} {c:Tc} {X:Cx} {W:WX} {k:Nat},Amb aj c X W k->∀{e:Expr} {f:QF},t.E c e=some f->QE aj X W e f
 ow:∀{aj:aQ} {c:Tc} {X:Cx} {W:WX} {k:Nat},Amb aj c X W k->∀{e:Expr} {f:QF},t.W c e=some f->QW aj X W e f
 ot:∀{aj:aQ} {c:Tc} {X:Cx} {W:WX} {k:Nat},Amb aj c X W k->∀{e:Expr} {f:QT},t.T c e=some f->rH aj X W e f
 oi:∀{aj:aQ} {c:Tc} {X:Cx} {W:WX} {k:Nat},Amb aj c X W k->∀{firm:Bool} {tg e:Expr} {f:IF},t.I c firm tg e=some f->QI aj X W firm tg e f
def Ip(t:Tr)(c:Tc):List Expr->Option QA
 |[]=>some au
 |a::es=>gd (nst a) ((t.E c a).bind λfa=>(Ip t c es).bind λfr=>some (ak fa fr))
section
variable{aj:aQ}{c:Tc}{X:Cx}{W:WX}{k:Nat}{t:Tr}
theorem uU(o:t.Ok)(a:Amb aj c X W k):∀{es:List Expr} {f:QA},Ip t c es=some f->Fe aj X W es f/\es.all nst=true/\∀M Z ds,f M Z=.ok ds->ds.length=es.length
 |[],f,h=>by
  cases h;exact⟨ajY,rfl,λM Z ds e=>by cases e;rfl⟩
 |e::es,f,h=>by
  rw[Ip,aW]at h;obtain⟨hs,h⟩:=h;obtain⟨fa,h1,h⟩:=aqd.mp h;obtain⟨fr,h2,h⟩:=aqd.mp h;cases h;obtain⟨i1,i2,i3⟩:=uU o a h2;refine⟨afX (o.oe a h1) i1 (cO hs es),by simp[hs,i2],λM Z ds e=>?_⟩;unfold ak at e;cases hf:fa M Z with
  |ok d=>
   rw[hf]at e;cases hr:fr M Z with
   |ok dr=>
    rw[hr]at e;cases e;simp[i3 M Z dr hr]
   |exc y=>rw[hr]at e;cases e
   |bad=>rw[hr]at e;cases e
  |exc y=>rw[hf]at e;cases e
  |bad=>rw[hf]at e;cases e
end
def trO(t:Tr)(c:Tc):Option Expr->Option QO
 |none=>some CJ
 |some a=>(t.W c a).bind λfa=>some (sS fa)
theorem abU{aj:aQ}{c:Tc}{X:Cx}{W:WX}{k:Nat}{t:Tr}(o:t.Ok)(a:Amb aj c X W k){e:Option Expr}{f:QO}(h:trO t c e=some f):QOe aj X W e f:=by
 cases e with
 |none=>cases h;exact ahb
 |some e=>
  obtain⟨fa,h1,h⟩:=aqd.mp h;cases h;exact afZ (o.ow a h1)
def XD(c:Tc):List Expr->Option (List Nat)
 |[]=>some []
 |.Name x _::es=>(vh c x).bind λi=>(XD c es).bind λjs=>some (i::js)
 |_::_=>none
def U5(c:Tc):Expr->Option (List Nat×fM)
 |.Name x _=>(vh c x).bind λi=>some ([i],aF i)
 |.Tuple es _ _=>(XD c es).bind λjs=>some (js,bA js)
 |_=>none
theorem RX{aj:aQ}{c:Tc}{X:Cx}{W:WX}{k:Nat}(a:Amb aj c X W k):∀{es:List Expr} {js:List Nat},XD c es=some js->Rc X es js
 |[],js,h=>by cases h;trivial
 |.Name x p::es,js,h=>by
  rw[XD]at h;obtain⟨i,h1,h⟩:=aqd.mp h;obtain⟨r,h2,h⟩:=aqd.mp h;cases h;obtain⟨s1,s2,s3⟩:=lX a h1;exact⟨s1,s2,s3,RX a h2⟩
theorem uO{aj:aQ}{c:Tc}{X:Cx}{W:WX}{k:Nat}(a:Amb aj c X W k){e:Expr}{js:List Nat}{f:fM}(h:U5 c e=some (js,f)):QG aj X e js f:=by
 unfold U5 at h;split at h
 ·obtain⟨i,h1,h⟩:=aqd.mp h;cases h;obtain⟨s1,s2,s3⟩:=lX a h1;exact Ub a.nd s1 s2 s3
 ·obtain⟨js',h1,h⟩:=aqd.mp h;cases h;exact adz a.calm a.nd (RX a h1)
 ·cases h
def Tc.inn(c:Tc)(scope:Scope):Tc:={ c with sc:=relS scope c.sc,top:=false }
theorem Amb.inn{aj:aQ}{c:Tc}{X:Cx}{W:WX}{k:Nat}(a:Amb aj c X W k)(scope:Scope)(s:Shared)(H:Hp)(C:Addr)(cl:List (Str×Addr))(fp:List Addr):Amb aj (c.inn scope) (X.blk s H scope (compEnvC scope cl C X.env) fp) WF k where
 hN:=a.hN
 hs:=by show relS scope X.env.scope=relS scope c.sc;rw[a.hs]
 calm:=a.calm
 nd:=a.nd
 tk:=ajA
 rm:=a.rm
 gl:=a.gl
 bl:=a.bl
 fn:=λz=>nomatch z
 hk:=a.hk
def Om:List Expr->List Nat->List (Str×Nat)
 |.Name x _::es,j::js=>(x,j)::Om es js
 |_,_=>[]
def oW:Expr->List Nat->List (Str×Nat)
 |.Name x _,[j]=>[(x,j)]
 |.Tuple es _ _,js=>Om es js
 |_,_=>[]
def Nh(js vs:List Nat):Bool:=js.all λj=>vs.contains j
theorem pC{js vs:List Nat}(h:Nh js vs=true):∀j∈js,j∈vs:=λj hj=>by
 have:=aqB.mp h j hj;simpa using this
def Ss(t:Tr)(c:Tc):List Expr->Option QT
 |[]=>some gA
 |[a]=>t.T c a
 |_=>none
theorem PTs.weak{X:Cx}{e:List Expr}{t t':TT}(h:PTs X e t)(k:∀σ H Q,t' σ H Q->t σ H Q):PTs X e t':=⟨λpins s σ H Q I q=>h.run pins s σ H Q I (k σ H Q q)⟩
theorem vY{aj:aQ}{c:Tc}{X:Cx}{W:WX}{k:Nat}{t:Tr}(o:t.Ok)(a:Amb aj c X W k){ifs:List Expr}{f:QT}(h:Ss t c ifs=some f):PTs X ifs (jW X.K aj W f):=by
 unfold Ss at h;split at h
 ·cases h;exact PTs.weak pts_nil λσ H Q ⟨g,Z,M,I,z⟩=>z H (Ex.refl H)
 ·exact pts_one (o.ot a h)
 ·cases h
def Zd(t:Tr)(c:Tc)(elt tg iter:Expr)(ifs:List Expr)(scope:Scope):Option QF:=
 (t.I c false tg iter).bind λit=>(U5 (c.inn scope) tg).bind λjt=>(Ss t (c.inn scope) ifs).bind λtt=>(t.E (c.inn scope) elt).bind λte=>
  gd (blkC c.N c.sc scope (oW tg jt.1)&&(Nh jt.1 ((oW tg jt.1).map (·.2))&&!yj iter)) (some (eE it jt.2 ((oW tg jt.1).map (·.2)) tt te))
theorem aai{aj:aQ}{c:Tc}{X:Cx}{W:WX}{k:Nat}{t:Tr}(o:t.Ok)(a:Amb aj c X W k){elt tg iter:Expr}{ifs:List Expr}{scope:Scope}{pos:Pos}{f:QF}(h:Zd t c elt tg iter ifs scope=some f):QE aj X W (.ListComp elt [⟨tg,iter,ifs,0⟩] scope pos) f:=by unfold Zd at h;obtain⟨it,h1,h⟩:=aqd.mp h;obtain⟨⟨js,tf⟩,h2,h⟩:=aqd.mp h;obtain⟨tt,h3,h⟩:=aqd.mp h;obtain⟨te,h4,h⟩:=aqd.mp h;obtain⟨hb,h⟩:=aW.mp h;cases h;simp only[aqf,aqx]at hb;obtain⟨b1,b2,b3⟩:=hb;exact alc a.calm a.nd (o.oi a h1) (by rw[a.hN,a.hs];exact b1) (pC b2) (λs H C cl fp=>uO (a.inn scope s H C cl fp) h2) (λs H C cl fp=>vY o (a.inn scope s H C cl fp) h3) (λs H C cl fp=>o.oe (a.inn scope s H C cl fp) h4) (qP b3)
def Ze(t:Tr)(c:Tc)(x:Str)(e:Expr)(es:List Expr):Option QF:=match c.G.lookup x with
 |some (.fq n m)=>(Ip t c (e::es)).bind λas=>gd (EY c.sc x&&(!Ek x&&decide ((e::es).length=n))) (some (aV m as))
 |some _=>none
 |none=>match es with
  |[]=>(b1D x).bind λo=>(t.W c e).bind λfa=>gd (uI c x x&&nst e) (some (eO o fa))
  |[.Name y p]=>match x=="isinstance" with
   |true=>(tyN y).bind λty=>(t.W c e).bind λfa=>gd (uI c x x&&(uI c y y&&nst e)) (some (xg ty fa))
   |false=>(b2D x).bind λo=>(t.W c e).bind λfa=>(t.W c (.Name y p)).bind λfb=>gd (uI c x x&&nst e) (some (aA o fa fb))
  |[e2]=>(b2D x).bind λo=>(t.W c e).bind λfa=>(t.W c e2).bind λfb=>gd (uI c x x&&(nst e&&nst e2)) (some (aA o fa fb))
  |_=>none
theorem acz{aj:aQ}{c:Tc}{X:Cx}{W:WX}{k:Nat}{x:Str}{o:Dat->Dat->Out Dat}{a b:Expr}{fa fb:QF}{p pos:Pos}(am:Amb aj c X W k)(h:b2D x=some o)(hg:uI c x x=true)(ha:QW aj X W a fa)(hb:QW aj X W b fb)(hs:nst a=true)(hs2:nst b=true):QE aj X W (.Call (.Name x p) [a,b] [] pos) (aA o fa fb):=by obtain⟨f,id,r,hf,hc,ho,hv⟩:=ajr am.calm h aj W;obtain⟨_,hg,hm⟩:=mY am hg;exact akG hf hc ho hg hm hv ha hb hs hs2
theorem adq{aj:aQ}{c:Tc}{X:Cx}{W:WX}{k:Nat}{t:Tr}(o:t.Ok)(a:Amb aj c X W k){x:Str}{e:Expr}{es:List Expr}{p pos:Pos}{f:QF}(h:Ze t c x e es=some f):QE aj X W (.Call (.Name x p) (e::es) [] pos) f:=by
 unfold Ze at h;split at h
 ·next n m hl=>
  obtain⟨as,h1,h⟩:=aqd.mp h;obtain⟨hb,h⟩:=aW.mp h;cases h;simp only[aqf,aqx,ars]at hb;obtain⟨b1,b2,b3⟩:=hb;obtain⟨fa,hm,hk,fd,ps,j,hj,hp,hB,F⟩:=a.gl x _ hl;obtain⟨i1,i2,i3⟩:=uU o a h1;exact agh a.tk F (a.rm.mono hj) (rW a b1) hm hk hB i1 (b3.trans hp.symm) (sW b2).1 i2 i3
 ·cases h
 ·split at h
  ·obtain⟨o1,h1,h⟩:=aqd.mp h;obtain⟨fa,h2,h⟩:=aqd.mp h;obtain⟨hb,h⟩:=aW.mp h;cases h;rw[aqf]at hb;obtain⟨f,id,r,hf,hc,ho,hv⟩:=akd a.calm h1 aj W;obtain⟨_,hg,hm⟩:=mY a hb.1;exact afF hf hc ho hg hm hv (o.ow a h2) hb.2
  ·split at h
   ·next ex=>
    obtain⟨ty,h1,h⟩:=aqd.mp h;obtain⟨fa,h2,h⟩:=aqd.mp h;obtain⟨hb,h⟩:=aW.mp h;cases h;simp only[aqf]at hb;obtain⟨b1,b2,b3⟩:=hb;obtain⟨_,hg,hm⟩:=mY a b1;obtain⟨_,hg2,hm2⟩:=mY a b2;cases eq_of_beq ex;exact aj1 hg hm ⟨by decide +kernel,by decide,by decide⟩ hg2 hm2 (aiz h1) (o.ow a h2) b3
   ·obtain⟨o1,h1,h⟩:=aqd.mp h;obtain⟨fa,h2,h⟩:=aqd.mp h;obtain⟨fb,h3,h⟩:=aqd.mp h;obtain⟨hb,h⟩:=aW.mp h;cases h;rw[aqf]at hb;exact acz a h1 hb.1 (o.ow a h2) (o.ow a h3) hb.2 rfl
  ·obtain⟨o1,h1,h⟩:=aqd.mp h;obtain⟨fa,h2,h⟩:=aqd.mp h;obtain⟨fb,h3,h⟩:=aqd.mp h;obtain⟨hb,h⟩:=aW.mp h;cases h;simp only[aqf]at hb;exact acz a h1 hb.1 (o.ow a h2) (o.ow a h3) hb.2.1 hb.2.2
  ·cases h
def stE(t:Tr)(c:Tc):Expr->Option QF
 |.Name x _=>(match KN c x with
  |some i=>some (aq i)
  |none=>match c.G.lookup x with
   |some (.con d)=>gd (EY c.sc x&&!Ek x) (some (qC d))
   |_=>none)
 |.Constant (.int i) _ _=>some (qC (.int i))
 |.Constant (.str x) _ _=>some (qC (.str x))
 |.Constant (.bool x) _ _=>some (qC (.bool x))
 |.Constant .none _ _=>some (qC .none)
 |.BinOp a op b _=>(ahP op).bind λo=>(t.W c a).bind λfa=>(t.W c b).bind λfb=>some (aA o fa fb)
 |.UnaryOp .USub a _=>(t.W c a).bind λfa=>some (eO Ol fa)
 |.UnaryOp .Not a _=>(t.W c a).bind λfa=>some (QJ fa)
 |.BoolOp _ [a] _=>t.E c a
 |.BoolOp .And (a::b::r) p=>(t.E c a).bind λfa=>(t.E c (.BoolOp .And (b::r) p)).bind λfb=>some (wF fa fb)
 |.BoolOp .Or (a::b::r) p=>(t.E c a).bind λfa=>(t.E c (.BoolOp .Or (b::r) p)).bind λfb=>some (aeB fa fb)
 |.Compare a [op] [b] _=>(match isN op with
  |some neg=>(S9 b).bind λd=>(t.W c a).bind λfa=>some (xX neg d fa)
  |none=>(NZ op).bind λo=>(t.W c a).bind λfa=>(t.W c b).bind λfb=>gd (!yj b) (some (aA o fa fb)))
 |.Compare a [op,op'] [b,b2] _=>(NZ op).bind λo=>(NZ op').bind λo'=>(t.W c a).bind λfa=>(t.W c b).bind λfb=>(t.W c b2).bind λfc=>gd (!yj b2) (some (Vm (nR o o' fa fb fc)))
 |.IfExp d a b _=>(t.T c d).bind λta=>(t.E c a).bind λfa=>(t.E c b).bind λfb=>some (Q6 ta fa fb)
 |.Tuple es _ _=>(Ip t c es).bind λfr=>some (bK fr)
 |.List es _=>(Ip t c es).bind λfr=>some (uH fr)
 |.Subscript a b _=>(match b with
  |.Slice lo hi none _=>(t.W c a).bind λfa=>(trO t c lo).bind λfl=>(trO t c hi).bind λfh=>some (QH fa fl fh)
  |b=>gd (!X5 b) ((t.W c a).bind λfa=>(t.W c b).bind λfb=>some (aA aO fa fb)))
 |.ListComp elt [⟨tg,iter,ifs,0⟩] scope _=>Zd t c elt tg iter ifs scope
 |.Call (.Name x _) (e::es) [] _=>Ze t c x e es
 |_=>none
def stW(t:Tr)(c:Tc):Expr->Option QF
 |.Name x p=>(match KN c x with
  |some i=>some (ao i)
  |none=>t.E c (.Name x p))
 |e=>t.E c e
def valT:Expr->Bool
 |.UnaryOp .Not _ _=>false
 |.BoolOp _ _ _=>false
 |.IfExp _ _ _ _=>false
 |.Compare _ _ _ _=>false
 |_=>true
theorem agJ{e:Expr}{env:PySem.Env}(h:valT e=true):∀whole,isTrue e env whole=(do let v ←whole;standAt e.pos;holding [v] (truthy v)):=λwhole=>by
 cases e with
 | UnaryOp o a p=>cases o<;>first | (with_unfolding_all rfl) | cases h
 |BoolOp _ _ _=>cases h
 |IfExp _ _ _ _=>cases h
 |Compare _ _ _ _=>cases h
 |_=>with_unfolding_all rfl
def stT(t:Tr)(c:Tc):Expr->Option QT
 |.UnaryOp .Not a _=>(t.T c a).bind λta=>some (jU ta)
 |.BoolOp _ [a] _=>t.T c a
 |.BoolOp .And (a::b::r) p=>(t.T c a).bind λta=>(t.T c (.BoolOp .And (b::r) p)).bind λtb=>some (jF ta tb)
 |.BoolOp .Or (a::b::r) p=>(t.T c a).bind λta=>(t.T c (.BoolOp .Or (b::r) p)).bind λtb=>some (yd ta tb)
 |.Compare a [op] [b] _=>(match isN op with
  |some neg=>(S9 b).bind λd=>(t.W c a).bind λfa=>some (aY (xX neg d fa))
  |none=>(NZ op).bind λo=>(t.W c a).bind λfa=>(t.W c b).bind λfb=>gd (!yj b) (some (aY (aA o fa fb))))
 |.Compare a [op,op'] [b,b2] _=>(NZ op).bind λo=>(NZ op').bind λo'=>(t.W c a).bind λfa=>(t.W c b).bind λfb=>(t.W c b2).bind λfc=>gd (!yj b2) (some (nR o o' fa fb fc))
 |e=>gd (valT e) ((t.W c e).bind λfa=>some (iJ fa))
def trF(t:Tr)(c:Tc)(firm:Bool)(e:Expr):Option QF:=match firm with
 |true=>t.E c e
 |false=>t.W c e
def isTup:Expr->Bool
 |.Tuple _ _ _=>true
 |_=>false
def stI(t:Tr)(c:Tc)(firm:Bool)(tg:Expr):Expr->Option IF
 |.Call (.Name x p) [a] [] pos=>(match uI c x "range" with
  |true=>(t.W c a).bind λfa=>gd (nst a) (some (Em fa))
  |false=>match uI c x "enumerate" with
   |true=>(trF t c firm a).bind λfa=>gd (nst a&&isTup tg) (some (wu 0 fa))
   |false=>(trF t c firm (.Call (.Name x p) [a] [] pos)).bind λfa=>some (cV fa))
 |.Call (.Name x p) [a,b] [] pos=>(match uI c x "range" with
  |true=>(t.W c a).bind λfa=>(t.W c b).bind λfb=>gd (nst a&&nst b) (some (Bv fa fb))
  |false=>match uI c x "zip" with
   |true=>(trF t c firm a).bind λfa=>(trF t c firm b).bind λfb=>gd (nst a&&(nst b&&isTup tg)) (some (Ef fa fb))
   |false=>(trF t c firm (.Call (.Name x p) [a,b] [] pos)).bind λfa=>some (cV fa))
 |.Call (.Name x p) [a] [⟨some kw,.Constant (.int i) j kp,kp2⟩] pos=>gd (uI c x "enumerate"&&(kw=="start"&&(decide (-(2 ^ 63)<=i/\i < 2 ^ 63)&&(nst a&&isTup tg)))) ((trF t c firm a).bind λfa=>some (wu i fa))
 |e=>(trF t c firm e).bind λfa=>some (cV fa)
theorem Yn{b:Expr}(h:(!X5 b)=true):PlainIx b:=λv i=>by
 cases b<;>first | rfl | cases h
section
variable{aj:aQ}{c:Tc}{X:Cx}{W:WX}{k:Nat}{t:Tr}
theorem ajn(o:t.Ok)(a:Amb aj c X W k){e:Expr}{f:QF}(h:stE t c e=some f):QE aj X W e f:=by
 unfold stE at h;split at h
 ·split at h
  ·next i hi=>
   cases h;obtain⟨s1,s2,s3,s4⟩:=zu a hi;exact ajh s1 s2 s3 s4
  ·split at h
   ·next d hl=>
    obtain⟨hb,h⟩:=aW.mp h;cases h;simp only[aqf,aqx]at hb;obtain⟨v,u,h1,h2,h3,_⟩:=a.gl _ _ hl;exact PE.weak (pe_glob (rW a hb.1) h1 h2 (sW hb.2).1) λσ H Q ⟨g,Z,M,I,z⟩=>z v H (Ex.refl H) (h3 g H)
   ·cases h
 ·cases h;exact ahW
 ·cases h;exact ah2
 ·cases h;exact alv
 ·cases h;exact ajy
 ·obtain⟨op,h1,h⟩:=aqd.mp h;obtain⟨fa,h2,h⟩:=aqd.mp h;obtain⟨fb,h3,h⟩:=aqd.mp h;cases h;obtain⟨r,r1,r2⟩:=agw h1 X aj W;exact ajb r1 r2 (o.ow a h2) (o.ow a h3)
 ·obtain⟨fa,h2,h⟩:=aqd.mp h;cases h;exact aj9 (o.ow a h2)
 ·obtain⟨fa,h2,h⟩:=aqd.mp h;cases h;exact ahm (o.ow a h2)
 ·exact pe_one (o.oe a h)
 ·obtain⟨fa,h2,h⟩:=aqd.mp h;obtain⟨fb,h3,h⟩:=aqd.mp h;cases h;exact agv (o.oe a h2) (o.oe a h3)
 ·obtain⟨fa,h2,h⟩:=aqd.mp h;obtain⟨fb,h3,h⟩:=aqd.mp h;cases h;exact aki (o.oe a h2) (o.oe a h3)
 ·split at h
  ·next neg hn=>
   obtain⟨d,h1,h⟩:=aqd.mp h;obtain⟨fa,h2,h⟩:=aqd.mp h;cases h;obtain⟨v,v1,v2,v3⟩:=aaS (X:=X) h1;refine akI v1 (adi hn v2) (o.ow a h2) v3 (CP ?_);unfold S9 at h1;split at h1<;>first | rfl | cases h1
  ·obtain⟨op,h1,h⟩:=aqd.mp h;obtain⟨fa,h2,h⟩:=aqd.mp h;obtain⟨fb,h3,h⟩:=aqd.mp h;obtain⟨hb,h⟩:=aW.mp h;cases h;obtain⟨r,r1,r2⟩:=BL h1 a.rm aj W;exact agO r1 r2 (o.ow a h2) (o.ow a h3) (CP (by simpa using hb))
 ·obtain⟨op,h1,h⟩:=aqd.mp h;obtain⟨op',h1',h⟩:=aqd.mp h;obtain⟨fa,h2,h⟩:=aqd.mp h;obtain⟨fb,h3,h⟩:=aqd.mp h;obtain⟨fc,h4,h⟩:=aqd.mp h;obtain⟨hb,h⟩:=aW.mp h;cases h;obtain⟨r,r1,r2⟩:=BL h1 a.rm aj W;obtain⟨r',r1',r2'⟩:=BL h1' a.rm aj W;exact aeM r1 r1' r2 r2' (o.ow a h2) (o.ow a h3) (o.ow a h4) (Vo (by simpa using hb))
 ·obtain⟨ta,h1,h⟩:=aqd.mp h;obtain⟨fa,h2,h⟩:=aqd.mp h;obtain⟨fb,h3,h⟩:=aqd.mp h;cases h;exact afe (o.ot a h1) (o.oe a h2) (o.oe a h3)
 ·obtain⟨fr,h1,h⟩:=aqd.mp h;cases h;exact ajM (uU o a h1).1
 ·obtain⟨fr,h1,h⟩:=aqd.mp h;cases h;exact ai1 (uU o a h1).1
 ·split at h
  ·obtain⟨fa,h1,h⟩:=aqd.mp h;obtain⟨fl,h2,h⟩:=aqd.mp h;obtain⟨fh,h3,h⟩:=aqd.mp h;cases h;exact ak7 (o.ow a h1) (abU o a h2) (abU o a h3)
  ·obtain⟨hb,h⟩:=aW.mp h;obtain⟨fa,h1,h⟩:=aqd.mp h;obtain⟨fb,h2,h⟩:=aqd.mp h;cases h;exact akA (o.ow a h1) (o.ow a h2) (Yn hb)
 ·exact aai o a h
 ·exact adq o a h
 ·cases h
theorem aiw(o:t.Ok)(a:Amb aj c X W k){e:Expr}{f:QF}(h:stW t c e=some f):QW aj X W e f:=by
 unfold stW at h;split at h
 ·split at h
  ·next i hi=>
   cases h;obtain⟨s1,s2,s3,s4⟩:=zu a hi;exact ajs s1 s2 s3 s4
  ·exact(o.oe a h).w
 ·exact(o.oe a h).w
theorem ai8{a b:Expr}{rest:List Expr}{ta tb:QT}{pos:Pos}(ha:rH aj X W a ta)(hb:rH aj X W (.BoolOp .And (b::rest) pos) tb):rH aj X W (.BoolOp .And (a::b::rest) pos) (jF ta tb):=by have hb':QWt aj X W (.BoolOp .And (b::rest) pos) tb:=⟨λwh pins s σ H Q I q=>hb.run pins s σ H Q I q⟩;exact PW.pt (aj2 ha hb')
theorem alg{a b:Expr}{rest:List Expr}{ta tb:QT}{pos:Pos}(ha:rH aj X W a ta)(hb:rH aj X W (.BoolOp .Or (b::rest) pos) tb):rH aj X W (.BoolOp .Or (a::b::rest) pos) (yd ta tb):=by have hb':QWt aj X W (.BoolOp .Or (b::rest) pos) tb:=⟨λwh pins s σ H Q I q=>hb.run pins s σ H Q I q⟩;exact PW.pt (akH ha hb')
theorem ajG(o:t.Ok)(a:Amb aj c X W k){e:Expr}{f:QT}(h:stT t c e=some f):rH aj X W e f:=by
 unfold stT at h;split at h
 ·obtain⟨ta,h1,h⟩:=aqd.mp h;cases h;exact aiQ (o.ot a h1)
 ·next op _ _=>
  cases op
  ·exact PW.pt (pw_and1 (o.ot a h))
  ·exact PW.pt (pw_or1 (o.ot a h))
 ·obtain⟨ta,h1,h⟩:=aqd.mp h;obtain⟨tb,h2,h⟩:=aqd.mp h;cases h;exact ai8 (o.ot a h1) (o.ot a h2)
 ·obtain⟨ta,h1,h⟩:=aqd.mp h;obtain⟨tb,h2,h⟩:=aqd.mp h;cases h;exact alg (o.ot a h1) (o.ot a h2)
 ·split at h
  ·next neg hn=>
   obtain⟨d,h1,h⟩:=aqd.mp h;obtain⟨fa,h2,h⟩:=aqd.mp h;cases h;obtain⟨v,v1,v2,v3⟩:=aaS (X:=X) h1;refine alu v1 (adi hn v2) (o.ow a h2) v3 (CP ?_);unfold S9 at h1;split at h1<;>first | rfl | cases h1
  ·obtain⟨op,h1,h⟩:=aqd.mp h;obtain⟨fa,h2,h⟩:=aqd.mp h;obtain⟨fb,h3,h⟩:=aqd.mp h;obtain⟨hb,h⟩:=aW.mp h;cases h;obtain⟨r,r1,r2⟩:=BL h1 a.rm aj W;exact ajt r1 r2 (o.ow a h2) (o.ow a h3) (CP (by simpa using hb))
 ·obtain⟨op,h1,h⟩:=aqd.mp h;obtain⟨op',h1',h⟩:=aqd.mp h;obtain⟨fa,h2,h⟩:=aqd.mp h;obtain⟨fb,h3,h⟩:=aqd.mp h;obtain⟨fc,h4,h⟩:=aqd.mp h;obtain⟨hb,h⟩:=aW.mp h;cases h;obtain⟨r,r1,r2⟩:=BL h1 a.rm aj W;obtain⟨r',r1',r2'⟩:=BL h1' a.rm aj W;exact aeP r1 r1' r2 r2' (o.ow a h2) (o.ow a h3) (o.ow a h4) (Vo (by simpa using hb))
 ·obtain⟨hv,h⟩:=aW.mp h;obtain⟨fa,h1,h⟩:=aqd.mp h;cases h;exact ajP (o.ow a h1) (agJ hv)
theorem CG(o:t.Ok)(a:Amb aj c X W k){firm:Bool}{e:Expr}{f:QF}(h:trF t c firm e=some f):QF' aj X W firm e f:=by
 cases firm
 ·exact o.ow a h
 ·exact o.oe a h
theorem M9{e:Expr}(h:isTup e=true):∃es j p,e=.Tuple es j p:=by cases e<;>first | exact⟨_,_,_,rfl⟩ | cases h
theorem aju(o:t.Ok)(a:Amb aj c X W k){firm:Bool}{tg e:Expr}{f:IF}(h:stI t c firm tg e=some f):QI aj X W firm tg e f:=by
 unfold stI at h;split at h
 ·split at h
  ·next hb=>
   obtain⟨fa,h1,h⟩:=aqd.mp h;obtain⟨hs,h⟩:=aW.mp h;cases h;obtain⟨rfl,hg,hm⟩:=mY a hb;exact ab0 hg hm (o.ow a h1) hs
  ·split at h
   ·next hb=>
    obtain⟨fa,h1,h⟩:=aqd.mp h;obtain⟨hs,h⟩:=aW.mp h;cases h;obtain⟨rfl,hg,hm⟩:=mY a hb;rw[aqf]at hs;obtain⟨es,j,p,rfl⟩:=M9 hs.2;exact ag1 hg hm (CG o a h1) hs.1
   ·obtain⟨fa,h1,h⟩:=aqd.mp h;cases h;exact Zm (CG o a h1)
 ·split at h
  ·next hb=>
   obtain⟨fa,h1,h⟩:=aqd.mp h;obtain⟨fb,h2,h⟩:=aqd.mp h;obtain⟨hs,h⟩:=aW.mp h;cases h;obtain⟨rfl,hg,hm⟩:=mY a hb;rw[aqf]at hs;exact acQ hg hm (o.ow a h1) (o.ow a h2) hs.1 hs.2
  ·split at h
   ·next hb=>
    obtain⟨fa,h1,h⟩:=aqd.mp h;obtain⟨fb,h2,h⟩:=aqd.mp h;obtain⟨hs,h⟩:=aW.mp h;cases h;obtain⟨rfl,hg,hm⟩:=mY a hb;simp only[aqf]at hs;obtain⟨es,j,p,rfl⟩:=M9 hs.2.2;exact ahL hg hm (CG o a h1) (CG o a h2) hs.1 hs.2.1
   ·obtain⟨fa,h1,h⟩:=aqd.mp h;cases h;exact Zm (CG o a h1)
 ·obtain⟨hs,h⟩:=aW.mp h;obtain⟨fa,h1,h⟩:=aqd.mp h;cases h;simp only[aqf,ars]at hs;obtain⟨hb,hk,hi,hn,ht⟩:=hs;obtain⟨rfl,hg,hm⟩:=mY a hb;cases eq_of_beq hk;obtain⟨es,j,p,rfl⟩:=M9 ht;exact aeT hi.1 hi.2 hg hm (CG o a h1) hn
 ·obtain⟨fa,h1,h⟩:=aqd.mp h;cases h;exact Zm (CG o a h1)
end
def MV.n:MV->Nat
 |.q n _=>n
 |.g n _=>n
def MV.qt:MV->Bool
 |.q _ _=>true
 |.g _ _=>false
def tbN(tb:List (Str×MV))(n:Nat):Bool:=tb.all λp=>p.2.n==n
def tbQ(tb:List (Str×MV)):Bool:=tb.all λp=>p.2.qt
theorem pN{α:Type}{c:Str}{v:α}:∀{tb:List (Str×α)},tb.lookup c=some v->(c,v)∈tb
 |[],h=>nomatch h
 |(y,u)::r,h=>by
  rw[aqG]at h;split at h
  ·next e=>
   cases h;rw[eq_of_beq e];exact aqj
  ·exact aqk _ (pN h)
section
variable{aj:aQ}{c:Tc}{X:Cx}{W:WX}{k:Nat}{t:Tr}
theorem Wu(a:Amb aj c X W k){m:Str}{n:Nat}{tb:List (Str×MV)}(h:c.hs.Ms.lookup m=some tb)(hn:tbN tb n=true):HJ X aj k m n tb:=λy v hv=>by
 refine⟨a.hk.ms m tb h y v hv,?_⟩;have:=aqB.mp hn _ (pN hv);cases v<;>exact eq_of_beq this
def YH(t:Tr)(c:Tc)(o:Expr)(m:Str)(es:List Expr)(apos pos:Pos):Option QF:=
 (c.hs.Ms.lookup m).bind λtb=>(t.W c o).bind λfo=>(Ip t c es).bind λas=>
  gd (tbQ tb&&(tbN tb (es.length+1)&&(baseOk o&&(decide (es.length < 30)&&(apos.endLine==pos.line))))) (some (aR tb fo as))
theorem acq(o:t.Ok)(a:Amb aj c X W k){b:Expr}{m:Str}{es:List Expr}{apos pos:Pos}{f:QF}(h:YH t c b m es apos pos=some f):QE aj X W (.Call (.Attribute b m apos) es [] pos) f:=by
 unfold YH at h;obtain⟨tb,h1,h⟩:=aqd.mp h;obtain⟨fo,h2,h⟩:=aqd.mp h;obtain⟨as,h3,h⟩:=aqd.mp h;obtain⟨hb,h⟩:=aW.mp h;cases h;simp only[aqf,ars]at hb;obtain⟨_,b2,b3,b4,b5⟩:=hb;obtain⟨i1,i2,i3⟩:=uU o a h3;cases es with
 |nil=>
  cases h3;exact aeC a.tk a.rm (Wu a h1 b2) (o.ow a h2) b3 b5
 |cons e es=>exact agr a.tk a.rm (Wu a h1 b2) (o.ow a h2) i1 i3 b3 i2 b5 b4
def inN:CmpOp->Option Bool
 |.In=>some false
 |.NotIn=>some true
 |_=>none
theorem ade{op:CmpOp}{neg:Bool}(hr:Room k X.A)(h:inN op=some neg):OpR X (compareOp op) (rInD X neg):=by
 have h65:X.A.units+64 < cLine:=by have:=hr.un;omega
 cases op<;>cases h
 ·exact op_inD h65
 ·exact op_notInD h65
def abz(t:Tr)(c:Tc)(e:Expr)(op:CmpOp)(o:Expr)(f:Str):Option QF:=
 (inN op).bind λneg=>(c.hs.df.lookup f).bind λ_=>(t.E c e).bind λfe=>(t.W c o).bind λfo=>gd (baseOk o) (some (Ou neg f fe fo))
theorem aii{o e:Expr}{f:Str}{p1 pos:Pos}{fo fk:QF}{neg:Bool}{op:CmpOp}(co:jk X.K aj)(hw:aj.w=X.w)(hr:OpR X (compareOp op) (rInD X neg))(hk:QE aj X W e fk)(ho:QW aj X W o fo)(hb:baseOk o=true):rH aj X W (.Compare e [op] [.Attribute o f p1] pos) (aY (Ou neg f fk fo)):=
 PT.weak (pt_cmpR hr hk (pe_fld ho (lO hb)) (by cases op<;>rfl)) λσ H Q ⟨g,Z,M,I,h⟩=>by
  refine afy co hw σ H _ ⟨g,Z,M,I,h.bnd.mono (λd h1 v H' e' r'=>?_) λ_ z=>z⟩;obtain⟨k,h2,h3⟩:=CZ r'.weak h1;exact⟨k,h2,h3 H' e'⟩
theorem aad(o:t.Ok)(a:Amb aj c X W k){e b:Expr}{op:CmpOp}{m:Str}{p1 pos:Pos}{f:QF}(h:abz t c e op b m=some f):QE aj X W (.Compare e [op] [.Attribute b m p1] pos) f/\rH aj X W (.Compare e [op] [.Attribute b m p1] pos) (aY f):=by unfold abz at h;obtain⟨neg,h1,h⟩:=aqd.mp h;obtain⟨_,_,h⟩:=aqd.mp h;obtain⟨fe,h2,h⟩:=aqd.mp h;obtain⟨fo,h3,h⟩:=aqd.mp h;obtain⟨hb,h⟩:=aW.mp h;cases h;exact⟨aje a.hk.co a.hk.hw (ade a.rm h1) (o.oe a h2) (o.ow a h3) hb,aii a.hk.co a.hk.hw (ade a.rm h1) (o.oe a h2) (o.ow a h3) hb⟩
def WD(t:Tr)(c:Tc)(e:Expr)(op:CmpOp)(x:Str):Option QF:=
 (inN op).bind λneg=>match c.G.lookup x with
  |some (.dic kvs)=>(t.W c e).bind λfe=>gd (EY c.sc x&&!Ek x) (some (TJ neg kvs fe))
  |_=>none
theorem Yl(o:t.Ok)(a:Amb aj c X W k){e:Expr}{op:CmpOp}{x:Str}{p1 pos:Pos}{f:QF}(h:WD t c e op x=some f):QE aj X W (.Compare e [op] [.Name x p1] pos) f/\rH aj X W (.Compare e [op] [.Name x p1] pos) (aY f):=by
 unfold WD at h;obtain⟨neg,h1,h⟩:=aqd.mp h;split at h
 ·next kvs hl=>
  obtain⟨fe,h2,h⟩:=aqd.mp h;obtain⟨hb,h⟩:=aW.mp h;cases h;simp only[aqf,aqx]at hb;refine ahZ ?_ (a.gl x _ hl) (rW a hb.1) (sW hb.2).1 (o.ow a h2);cases op<;>cases h1
  ·exact .inl ⟨rfl,rfl⟩
  ·exact .inr ⟨rfl,rfl⟩
 ·cases h
def YX(t:Tr)(c:Tc):Expr->Option QF
 |.Call (.Name y _) [b] [] _=>(match uI c y "set" with
  |true=>(t.W c b).bind λfb=>gd (nst b) (some (eO Px fb))
  |false=>(t.W c (.Call (.Name y ⟨0,0,0,0⟩) [b] [] ⟨0,0,0,0⟩)).bind λ_=>none)
 |e=>(t.W c e).bind λfe=>gd (nst e) (some (eO yZ fe))
theorem ai4(a:Amb aj c X W k):X.A.units+65 < cLine:=by have:=a.rm.un;omega
theorem adF(o:t.Ok)(a:Amb aj c X W k)(hg:Gl X "sorted")(hm:X.mg "sorted"=none){e:Expr}{p pos:Pos}{f:QF}(h:YX t c e=some f):QE aj X W (.Call (.Name "sorted" p) [e] [] pos) f:=by
 unfold YX at h;split at h
 ·split at h
  ·next hb=>
   obtain⟨fb,h1,h⟩:=aqd.mp h;obtain⟨hn,h⟩:=aW.mp h;cases h;obtain⟨rfl,hg2,hm2⟩:=mY a hb;exact ahf (ai4 a) a.calm hg hm hg2 hm2 (o.ow a h1) hn
  ·obtain⟨_,_,h⟩:=aqd.mp h;cases h
 ·obtain⟨fe,h1,h⟩:=aqd.mp h;obtain⟨hn,h⟩:=aW.mp h;cases h;exact ahr (ai4 a) hg hm (o.ow a h1) hn
def Rp(t:Tr)(c:Tc)(elt tg iter:Expr)(ifs:List Expr)(tg1 iter1:Expr)(ifs1:List Expr)(scope:Scope):Option QF:=
 (t.I c false tg iter).bind λit=>(U5 (c.inn scope) tg).bind λjt=>(Ss t (c.inn scope) ifs).bind λtt=>(t.I (c.inn scope) true tg1 iter1).bind λit1=>(U5 (c.inn scope) tg1).bind λjt1=>(Ss t (c.inn scope) ifs1).bind λtt1=>(t.E (c.inn scope) elt).bind λte=>
  gd (blkC c.N c.sc scope (oW tg jt.1++oW tg1 jt1.1)&&(Nh ((oW tg1 jt1.1).map (·.2)) ((oW tg jt.1++oW tg1 jt1.1).map (·.2))&&(Nh jt.1 ((oW tg jt.1++oW tg1 jt1.1).map (·.2))&&(Nh jt1.1 ((oW tg1 jt1.1).map (·.2))&&(!yj iter&&!yj iter1)))))
   (some (Cg it jt.2 ((oW tg jt.1++oW tg1 jt1.1).map (·.2)) tt it1 jt1.2 ((oW tg1 jt1.1).map (·.2)) tt1 te))
theorem aeD(o:t.Ok)(a:Amb aj c X W k){elt tg iter tg1 iter1:Expr}{ifs ifs1:List Expr}{scope:Scope}{pos:Pos}{f:QF}(h:Rp t c elt tg iter ifs tg1 iter1 ifs1 scope=some f):QE aj X W (.ListComp elt [⟨tg,iter,ifs,0⟩,⟨tg1,iter1,ifs1,0⟩] scope pos) f:=by unfold Rp at h;obtain⟨it,h1,h⟩:=aqd.mp h;obtain⟨⟨js,tf⟩,h2,h⟩:=aqd.mp h;obtain⟨tt,h3,h⟩:=aqd.mp h;obtain⟨it1,h4,h⟩:=aqd.mp h;obtain⟨⟨js1,tf1⟩,h5,h⟩:=aqd.mp h;obtain⟨tt1,h6,h⟩:=aqd.mp h;obtain⟨te,h7,h⟩:=aqd.mp h;obtain⟨hb,h⟩:=aW.mp h;cases h;simp only[aqf,aqx]at hb;obtain⟨b1,b2,b3,b4,b5,b6⟩:=hb;exact aiO a.calm a.nd (o.oi a h1) (by rw[a.hN,a.hs];exact b1) (pC b2) (pC b3) (pC b4) (λs H C cl fp=>uO (a.inn _ s H C cl fp) h2) (λs H C cl fp=>vY o (a.inn _ s H C cl fp) h3) (λs H C cl fp=>o.oi (a.inn _ s H C cl fp) h4) (λs H C cl fp=>uO (a.inn _ s H C cl fp) h5) (λs H C cl fp=>vY o (a.inn _ s H C cl fp) h6) (λs H C cl fp=>o.oe (a.inn _ s H C cl fp) h7) (qP b5) (λenv=>qP b6)
def xE(t:Tr)(c:Tc):Expr->Option QF
 |.Attribute o f _=>gd (baseOk o) ((t.W c o).bind λfo=>some (gD f fo))
 |.Call (.Attribute o m apos) es [] pos=>YH t c o m es apos pos
 |.Compare e [op] [.Attribute o f _] _=>abz t c e op o f
 |.Compare e [op] [.Name x _] _=>WD t c e op x
 |.Subscript (.Name x _) e _=>(match c.G.lookup x with
  |some (.dic kvs)=>(t.W c e).bind λfe=>gd (EY c.sc x&&(!Ek x&&!X5 e)) (some (abE kvs fe))
  |_=>none)
 |.ListComp elt [⟨tg,iter,ifs,0⟩,⟨tg1,iter1,ifs1,0⟩] scope _=>Rp t c elt tg iter ifs tg1 iter1 ifs1 scope
 |.Call (.Name x _) [e] [] _=>(match uI c x "sorted" with
  |true=>YX t c e
  |false=>match uI c x "list",e with
   |true,.Attribute o f _=>(c.hs.df.lookup f).bind λ_=>(t.W c o).bind λfo=>gd (baseOk o) (some (Cm f fo))
   |_,_=>none)
 |_=>none
theorem akX(o:t.Ok)(a:Amb aj c X W k){e:Expr}{f:QF}(h:xE t c e=some f):QE aj X W e f:=by
 unfold xE at h;split at h
 ·obtain⟨hb,h⟩:=aW.mp h;obtain⟨fo,h1,h⟩:=aqd.mp h;cases h;exact aic a.hk.co (o.ow a h1) hb
 ·exact acq o a h
 ·exact(aad o a h).1
 ·exact(Yl o a h).1
 ·split at h
  ·next kvs hl=>
   obtain⟨fe,h1,h⟩:=aqd.mp h;obtain⟨hb,h⟩:=aW.mp h;cases h;simp only[aqf]at hb;exact ahR (a.gl _ _ hl) (rW a hb.1) (sW (by simpa using hb.2.1)).1 (o.ow a h1) (Yn hb.2.2)
  ·cases h
 ·exact aeD o a h
 ·split at h
  ·next hb=>
   obtain⟨rfl,hg,hm⟩:=mY a hb;exact adF o a hg hm h
  ·split at h
   ·next hb=>
    obtain⟨_,_,h⟩:=aqd.mp h;obtain⟨fo,h1,h⟩:=aqd.mp h;obtain⟨hb2,h⟩:=aW.mp h;cases h;obtain⟨rfl,hg,hm⟩:=mY a hb;exact aeX a.hk.co a.hk.hw a.calm hg hm (o.ow a h1) hb2
   ·cases h
 ·cases h
def xW(t:Tr)(c:Tc):Expr->Option QF
 |.Attribute o f _=>gd (baseOk o) ((t.W c o).bind λfo=>some (bL f fo))
 |_=>none
theorem akS(o:t.Ok)(a:Amb aj c X W k){e:Expr}{f:QF}(h:xW t c e=some f):QW aj X W e f:=by
 unfold xW at h;split at h
 ·obtain⟨hb,h⟩:=aW.mp h;obtain⟨fo,h1,h⟩:=aqd.mp h;cases h;exact aj4 a.hk.co (o.ow a h1) hb
 ·cases h
def xT(t:Tr)(c:Tc):Expr->Option QT
 |.Compare e [op] [.Attribute o f _] _=>(abz t c e op o f).bind λg=>some (aY g)
 |.Compare e [op] [.Name x _] _=>(WD t c e op x).bind λg=>some (aY g)
 |_=>none
theorem akQ(o:t.Ok)(a:Amb aj c X W k){e:Expr}{f:QT}(h:xT t c e=some f):rH aj X W e f:=by
 unfold xT at h;split at h
 ·obtain⟨g,h1,h⟩:=aqd.mp h;cases h;exact(aad o a h1).2
 ·obtain⟨g,h1,h⟩:=aqd.mp h;cases h;exact(Yl o a h1).2
 ·cases h
def xI(t:Tr)(c:Tc)(firm:Bool):Expr->Option IF
 |.Attribute o f _=>(match firm with
  |true=>none
  |false=>(c.hs.df.lookup f).bind λ_=>gd (baseOk o) ((t.W c o).bind λfo=>some (BR f fo)))
 |_=>none
theorem akx(o:t.Ok)(a:Amb aj c X W k){firm:Bool}{tg e:Expr}{f:IF}(h:xI t c firm e=some f):QI aj X W firm tg e f:=by
 unfold xI at h;split at h
 ·split at h
  ·cases h
  ·obtain⟨_,_,h⟩:=aqd.mp h;obtain⟨hb,h⟩:=aW.mp h;obtain⟨fo,h1,h⟩:=aqd.mp h;cases h;exact ae5 a.hk.co a.hk.hw (o.ow a h1) hb
 ·cases h
def els{α:Type}(a b:Option α):Option α:=match a with
 |some x=>some x
 |none=>b
theorem vJ{α:Type}{a b:Option α}{x:α}(h:els a b=some x):a=some x∨b=some x:=by
 cases a with
 |none=>exact .inr h
 |some y=>exact .inl h
def xtE(t:Tr)(c:Tc)(e:Expr):Option QF:=els (xE t c e) (stE t c e)
def xtW(t:Tr)(c:Tc)(e:Expr):Option QF:=els (xW t c e) (stW t c e)
def xtT(t:Tr)(c:Tc)(e:Expr):Option QT:=els (xT t c e) (stT t c e)
def xtI(t:Tr)(c:Tc)(firm:Bool)(tg e:Expr):Option IF:=els (xI t c firm e) (stI t c firm tg e)
end
structure vL(aj:aQ)(c:Tc)(X:Cx)(W:WX)(k:Nat):Prop extends Amb aj c X W k where
 ps:PassesOwn (model X.prog X.w) X.A X.env X.xe
 st:X.stack=X.env::X.outer
 fr:X.env.frame=some X.env.locals
 kf:X.env.scope.kind=.function
structure Ts where
 G:Tc->Expr->Option GF
 H:Tc->Expr->Option GT
 S:Tc->Stmt->Option SF
 B:Tc->List Stmt->Option SF
structure Ts.Ok(s:Ts)(q:Bool):Prop where
 og:∀{aj:aQ} {c:Tc} {X:Cx} {W:WX} {k:Nat},vL aj c X W k->∀{e:Expr} {f:GF},s.G c e=some f->GE aj X W q e f
 oh:∀{aj:aQ} {c:Tc} {X:Cx} {W:WX} {k:Nat},vL aj c X W k->∀{e:Expr} {f:GT},s.H c e=some f->GTe aj X W q e f
 os:∀{aj:aQ} {c:Tc} {X:Cx} {W:WX} {k:Nat},vL aj c X W k->∀{e:Stmt} {f:SF},s.S c e=some f->SE aj X W q e f
 ob:∀{aj:aQ} {c:Tc} {X:Cx} {W:WX} {k:Nat},vL aj c X W k->∀{e:List Stmt} {f:SF},s.B c e=some f->Jf aj X W q e f
def DW:Expr->Bool
 |.ListComp _ _ _ _=>true
 |.SetComp _ _ _ _=>true
 |.DictComp _ _ _ _ _=>true
 |_=>false
theorem Et{e:Expr}{tg:Option Expr}{l:Nat}{env:PySem.Env}(h:DW e=false):swapsWith e tg l env=pure false:=by cases e<;>first | rfl | cases h
def aaY:Expr->Bool
 |.Tuple _ _ _=>true
 |_=>false
def swB(sc:Scope)(v:Expr)(scope:Scope)(x:Str)(p:Pos):Bool:=(match sc.names.lookup x with
 |some .local=>true
 |_=>false)&&(p.line==v.pos.line&&!(scope.names.any λ(n,k)=>n==x&&(k==.local || k==.cell)))
theorem Qe{X:Cx}{elt:Expr}{gens:List Comprehension}{scope:Scope}{pos p:Pos}{x:Str}{l:Nat}(hk:X.env.scope.kind=.function)(h:swB X.env.scope (.ListComp elt gens scope pos) scope x p=true):X.env.scope.names.lookup x=some .local/\swapsWith (.ListComp elt gens scope pos) (some (.Name x p)) l X.env=pure true:=by
 unfold swB at h;simp only[aqf]at h;obtain⟨h1,h2,h3⟩:=h;have e1:X.env.scope.names.lookup x=some .local:=by
  split at h1
  ·assumption
  ·cases h1
 refine⟨e1,?_⟩;have eb:X.env.blockKind=.function:=by unfold PySem.Env.blockKind;rw[hk];rfl
 unfold swapsWith
 show(pure (X.env.blockKind==.function&&X.env.kindOf x==some .local&&p.line==(Expr.ListComp elt gens scope pos).pos.line&&!(scope.names.any λ(n,k)=>n==x&&(k==.local || k==.cell))):Sem Bool)=pure true
 rw[eb,h2,h3];unfold PySem.Env.kindOf;rw[e1];rfl
theorem adG{X:Cx}{elt:Expr}{gens:List Comprehension}{scope:Scope}{pos p:Pos}{x:Str}{l:Nat}(h:(p.line==(Expr.ListComp elt gens scope pos).pos.line)=false):swapsWith (.ListComp elt gens scope pos) (some (.Name x p)) l X.env=pure false:=by
 unfold swapsWith
 show(pure (X.env.blockKind==.function&&X.env.kindOf x==some .local&&p.line==(Expr.ListComp elt gens scope pos).pos.line&&!(scope.names.any λ(n,k)=>n==x&&(k==.local || k==.cell))):Sem Bool)=pure false
 rw[h,Bool.and_false,Bool.false_and]
def trN(t:Tr)(c:Tc):Expr->Option IF
 |.List es _=>(Ip t c es).bind λfr=>some (Kh fr)
 |_=>none
theorem acP{aj:aQ}{c:Tc}{X:Cx}{W:WX}{k:Nat}{t:Tr}(o:t.Ok)(a:Amb aj c X W k){e:Expr}{f:IF}(h:trN t c e=some f):FE aj X W e f/\DW e=false:=by
 unfold trN at h;split at h
 ·obtain⟨fr,h1,h⟩:=aqd.mp h;cases h;exact⟨aiR (uU o a h1).1,rfl⟩
 ·cases h
section
variable{X:Cx}{aj:aQ}{W:WX}{q:Bool}{e:Expr}{pos:Pos}
theorem akt{j:Nat}{y:Str}{py:Pos}{elt tg iter:Expr}{cpos:Pos}{scope:Scope}{own:List (Str×Nat)}{it:IF}{tgf:fM}{js:List Nat}{tt:QT}{te:QF}{ifs:List Expr}(hc:X.calm=true)(hN:X.N.Nodup)(hy:X.N[j]?=some y)(hyl:X.env.scope.names.lookup y=some .local)
  (hsw:swapsWith (.ListComp elt [⟨tg,iter,ifs,0⟩] scope cpos) (some (.Name y py)) pos.line X.env=pure true) (hi:QI aj X W false tg iter it) (ok:blkC X.N X.env.scope scope own=true) (hj:∀j∈js,j∈own.map (·.2))
  (hg:∀(s:Shared) (H:Hp) (C:Addr) (cl:List (Str×Addr)) (fp:List Addr),QG aj (X.blk s H scope (compEnvC scope cl C X.env) fp) tg js tgf)
  (ht:∀(s:Shared) (H:Hp) (C:Addr) (cl:List (Str×Addr)) (fp:List Addr),PTs (X.blk s H scope (compEnvC scope cl C X.env) fp) ifs (jW X.K aj WF tt))
  (he:∀(s:Shared) (H:Hp) (C:Addr) (cl:List (Str×Addr)) (fp:List Addr),QE aj (X.blk s H scope (compEnvC scope cl C X.env) fp) WF elt te) (hs:∀x,foldedSetIterable iter X.env x=pure x) :
  SE aj X W q (.Assign [.Name y py] (.ListComp elt [⟨tg,iter,ifs,0⟩] scope cpos) pos) (Ag j (zP it tgf (own.map (·.2)) tt te)):=by
 refine PS.weak (ps_setLc (g:=zL X.K aj js tgf) (tt:=jW X.K aj WF tt) (te:=tQ X.K aj WF te) hc hN hy hyl hsw hi (blkOk_by ok) (λs H C cl fp=>hg s H C cl fp) ht (λs H C cl fp=>he s H C cl fp) hs) λD σ H h=>?_;exact XR hj σ H _ (ab4 D σ H h)
end
def afz(t:Tr)(c:Tc)(elt tg iter:Expr)(ifs:List Expr)(scope:Scope):Option IF:=
 (t.I c false tg iter).bind λit=>(U5 (c.inn scope) tg).bind λjt=>(Ss t (c.inn scope) ifs).bind λtt=>(t.E (c.inn scope) elt).bind λte=>
  gd (blkC c.N c.sc scope (oW tg jt.1)&&(Nh jt.1 ((oW tg jt.1).map (·.2))&&!yj iter)) (some (zP it jt.2 ((oW tg jt.1).map (·.2)) tt te))
def Ry(t:Tr)(c:Tc)(x:Str)(p:Pos)(elt tg iter:Expr)(ifs:List Expr)(scope:Scope)(cpos:Pos):Option SF:=
 (vh c x).bind λj=>gd (swB c.sc (.ListComp elt [⟨tg,iter,ifs,0⟩] scope cpos) scope x p || !(p.line==(Expr.ListComp elt [⟨tg,iter,ifs,0⟩] scope cpos).pos.line))
  (match c.ml.contains x with
  |true=>(afz t c elt tg iter ifs scope).bind λf=>some (Ag j f)
  |false=>(Zd t c elt tg iter ifs scope).bind λf=>some (bh (aF j) (gOf f)))
section
variable{aj:aQ}{c:Tc}{X:Cx}{W:WX}{k:Nat}{t:Tr}{q:Bool}
theorem abH(o:t.Ok)(a:vL aj c X W k){x:Str}{p cpos pos:Pos}{elt tg iter:Expr}{ifs:List Expr}{scope:Scope}{f:SF}(h:Ry t c x p elt tg iter ifs scope cpos=some f):SE aj X W q (.Assign [.Name x p] (.ListComp elt [⟨tg,iter,ifs,0⟩] scope cpos) pos) f:=by
 unfold Ry at h;obtain⟨j,hj,h⟩:=aqd.mp h;obtain⟨hsw,h⟩:=aW.mp h;obtain⟨s1,s2,s3⟩:=lX a.toAmb hj;rw[arl]at hsw;split at h
 ·obtain⟨f1,h1,h⟩:=aqd.mp h;cases h;unfold afz at h1;obtain⟨it,h2,h1⟩:=aqd.mp h1;obtain⟨⟨js,tf⟩,h3,h1⟩:=aqd.mp h1;obtain⟨tt,h4,h1⟩:=aqd.mp h1;obtain⟨te,h5,h1⟩:=aqd.mp h1;obtain⟨hb,h1⟩:=aW.mp h1;cases h1;simp only[aqf,aqx]at hb;obtain⟨b1,b2,b3⟩:=hb;rcases hsw with hsw|hsw
  ·rw[←a.hs]at hsw;obtain⟨l1,l2⟩:=Qe (l:=pos.line) a.kf hsw;exact akt a.calm a.nd s1 l1 l2 (o.oi a.toAmb h2) (by rw[a.hN,a.hs];exact b1) (pC b2) (λs H C cl fp=>uO (a.toAmb.inn scope s H C cl fp) h3) (λs H C cl fp=>vY o (a.toAmb.inn scope s H C cl fp) h4) (λs H C cl fp=>o.oe (a.toAmb.inn scope s H C cl fp) h5) (qP b3)
  ·exact adl a.nd s1 s2 s3 (aly a.calm a.nd (o.oi a.toAmb h2) (by rw[a.hN,a.hs];exact b1) (pC b2) (λs H C cl fp=>uO (a.toAmb.inn scope s H C cl fp) h3) (λs H C cl fp=>vY o (a.toAmb.inn scope s H C cl fp) h4) (λs H C cl fp=>o.oe (a.toAmb.inn scope s H C cl fp) h5) (qP b3)) (adG (by simpa using hsw))
 ·obtain⟨f1,h1,h⟩:=aqd.mp h;cases h;rcases hsw with hsw|hsw
  ·rw[←a.hs]at hsw;obtain⟨l1,l2⟩:=Qe (l:=pos.line) a.kf hsw;unfold Zd at h1;obtain⟨it,h2,h1⟩:=aqd.mp h1;obtain⟨⟨js,tf⟩,h3,h1⟩:=aqd.mp h1;obtain⟨tt,h4,h1⟩:=aqd.mp h1;obtain⟨te,h5,h1⟩:=aqd.mp h1;obtain⟨hb,h1⟩:=aW.mp h1;cases h1;simp only[aqf,aqx]at hb;obtain⟨b1,b2,b3⟩:=hb;exact aiK a.calm a.nd s1 l1 l2 (o.oi a.toAmb h2) (by rw[a.hN,a.hs];exact b1) (pC b2) (λs H C cl fp=>uO (a.toAmb.inn scope s H C cl fp) h3) (λs H C cl fp=>vY o (a.toAmb.inn scope s H C cl fp) h4) (λs H C cl fp=>o.oe (a.toAmb.inn scope s H C cl fp) h5) (qP b3)
  ·exact YK (afS (aai o a.toAmb h1)) (Ub a.nd s1 s2 s3) (adG (l:=pos.line) (by simpa using hsw)) (by with_unfolding_all rfl) (by with_unfolding_all rfl)
end
theorem Eo{tg e:Expr}{l:Nat}{env:PySem.Env}(h:DW e=false):swapsWithSole [tg] e l env=pure false:=Et h
def abo(t:Tr)(s:Ts)(c:Tc):Expr->Expr->Option SF
 |.Name x p,.ListComp elt [⟨tg,iter,ifs,0⟩] scope cpos=>Ry t c x p elt tg iter ifs scope cpos
 |.Name x _,e=>(vh c x).bind λj=>match c.ml.contains x with
  |true=>(trN t c e).bind λf=>some (Ag j f)
  |false=>gd (!DW e) ((s.G c e).bind λf=>some (bh (aF j) f))
 |.Tuple [.Name x _,.Starred (.Name y _) _] _ _,e=>(vh c x).bind λi=>(vh c y).bind λj=>gd (!DW e&&!aaY e) ((s.G c e).bind λf=>some (WR i j f))
 |.Tuple ts _ _,e=>(XD c ts).bind λjs=>gd (!DW e&&!aaY e) ((s.G c e).bind λf=>some (bh (bA js) f))
 |_,_=>none
theorem Ra{tg e:Expr}{env:PySem.Env}(h:aaY e=false):swappedStores [tg] e env=pure none:=by cases tg<;>first | rfl | (cases e<;>first | rfl | cases h)
section
variable{aj:aQ}{c:Tc}{X:Cx}{W:WX}{k:Nat}{t:Tr}{s:Ts}{q:Bool}
theorem aer(o:t.Ok)(os:s.Ok q)(a:vL aj c X W k){tg e:Expr}{pos:Pos}{f:SF}(h:abo t s c tg e=some f):SE aj X W q (.Assign [tg] e pos) f:=by
 unfold abo at h;split at h
 ·exact abH o a h
 ·obtain⟨j,hj,h⟩:=aqd.mp h;obtain⟨s1,s2,s3⟩:=lX a.toAmb hj;split at h
  ·obtain⟨f1,h1,h⟩:=aqd.mp h;cases h;obtain⟨i1,i2⟩:=acP o a.toAmb h1;exact adl a.nd s1 s2 s3 i1 (Et i2)
  ·obtain⟨hc,h⟩:=aW.mp h;obtain⟨f1,h1,h⟩:=aqd.mp h;cases h;exact YK (os.og a h1) (Ub a.nd s1 s2 s3) (Eo (by simpa using hc)) (by with_unfolding_all rfl) (by with_unfolding_all rfl)
 ·obtain⟨i,hi,h⟩:=aqd.mp h;obtain⟨j,hj,h⟩:=aqd.mp h;obtain⟨hc,h⟩:=aW.mp h;obtain⟨f1,h1,h⟩:=aqd.mp h;cases h;simp only[aqf,aqx]at hc;exact ahp a.calm a.nd (lX a.toAmb hi) (lX a.toAmb hj) (os.og a h1) (Eo hc.1) (Ra hc.2)
 ·obtain⟨js,hj,h⟩:=aqd.mp h;obtain⟨hc,h⟩:=aW.mp h;obtain⟨f1,h1,h⟩:=aqd.mp h;cases h;simp only[aqf,aqx]at hc;exact YK (os.og a h1) (adz a.calm a.nd (RX a.toAmb hj)) (Eo hc.1) (Ra hc.2) (by with_unfolding_all rfl)
 ·cases h
end
def abL(s:Ts)(c:Tc):List Stmt->Option SF
 |[]=>some aN
 |[a]=>s.S c a
 |a::b::r=>(s.S c a).bind λf=>(s.B c (b::r)).bind λg=>some (aD f g)
def stS(t:Tr)(s:Ts)(c:Tc):Stmt->Option SF
 |.Assign [tg] e _=>abo t s c tg e
 |.Assign [.Name x _,.Name y _] e _=>(vh c x).bind λi=>(vh c y).bind λj=>gd (!aaY e) ((s.G c e).bind λf=>some (Pb i j f))
 |.AugAssign (.Name x _) .Add e _=>(vh c x).bind λj=>(t.E c e).bind λf=>some (yQ j f)
 |.Expr (.Call (.Attribute (.Name x _) m apos) [e] [] pos) _=>(KN c x).bind λj=>gd (m=="append"&&(c.ml.contains x&&(nst e&&(apos.endLine==pos.line)))) ((t.E c e).bind λf=>some (Ao j f))
 |.Return (some e) _=>(match t.E c e with
  |some f=>some (aU f)
  |none=>(s.G c e).bind λf=>some (gW f))
 |.If d s1 s2 _=>(s.B c s1).bind λf=>(s.B c s2).bind λg=>(t.T c d).bind λtd=>some (bQ td f g)
 |.For tg iter body [] _=>(t.I c true tg iter).bind λit=>(U5 c tg).bind λjt=>(s.B c body).bind λf=>gd (!yj iter) (some (qm it jt.2 f))
 |_=>none
section
variable{aj:aQ}{c:Tc}{X:Cx}{W:WX}{k:Nat}{t:Tr}{s:Ts}{q:Bool}
theorem aea(os:s.Ok q)(a:vL aj c X W k){b:List Stmt}{f:SF}(h:abL s c b=some f):Jf aj X W q b f:=by
 unfold abL at h;split at h
 ·cases h;exact aiA
 ·exact aiY (os.os a h)
 ·obtain⟨f1,h1,h⟩:=aqd.mp h;obtain⟨f2,h2,h⟩:=aqd.mp h;cases h;exact agA (os.os a h1) (os.ob a h2)
theorem ajq(o:t.Ok)(os:s.Ok q)(a:vL aj c X W k){st:Stmt}{f:SF}(h:stS t s c st=some f):SE aj X W q st f:=by
 unfold stS at h;split at h
 ·exact aer o os a h
 ·obtain⟨i,hi,h⟩:=aqd.mp h;obtain⟨j,hj,h⟩:=aqd.mp h;obtain⟨hc,h⟩:=aW.mp h;obtain⟨f1,h1,h⟩:=aqd.mp h;cases h;exact ahB a.nd (lX a.toAmb hi) (lX a.toAmb hj) (os.og a h1) (by with_unfolding_all rfl)
 ·obtain⟨j,hj,h⟩:=aqd.mp h;obtain⟨f1,h1,h⟩:=aqd.mp h;cases h;obtain⟨s1,s2,s3⟩:=lX a.toAmb hj;exact ahX a.nd s1 s2 s3 (o.oe a.toAmb h1)
 ·obtain⟨j,hj,h⟩:=aqd.mp h;obtain⟨hc,h⟩:=aW.mp h;obtain⟨f1,h1,h⟩:=aqd.mp h;cases h;simp only[aqf]at hc;cases eq_of_beq hc.1;obtain⟨s1,s2,s3,s4⟩:=zu a.toAmb hj;exact aiV s1 s2 s3 s4 (o.oe a.toAmb h1) hc.2.2.1 hc.2.2.2
 ·split at h
  ·next f1 h1=>
   cases h;exact akg (o.oe a.toAmb h1)
  ·obtain⟨f1,h1,h⟩:=aqd.mp h;cases h;exact agT (os.og a h1)
 ·obtain⟨f1,h1,h⟩:=aqd.mp h;obtain⟨f2,h2,h⟩:=aqd.mp h;obtain⟨td,h3,h⟩:=aqd.mp h;cases h;exact alh (o.ot a.toAmb h3) (os.ob a h1) (os.ob a h2)
 ·obtain⟨it,h1,h⟩:=aqd.mp h;obtain⟨⟨js,tf⟩,h2,h⟩:=aqd.mp h;obtain⟨f1,h3,h⟩:=aqd.mp h;obtain⟨hc,h⟩:=aW.mp h;cases h;exact ajO a.ps a.calm (o.oi a.toAmb h1) (uO a.toAmb h2) (os.ob a h3) (qP (by simpa using hc))
 ·cases h
end
abbrev GA:=Mo->Env->bB (List Dat)
def ajw(a:GF)(r:GA):GA:=λM Z=>(a M Z).bind λd M1=>(r M1 Z).bind λds M2=>.ok (d::ds) M2
def aiU(m:Mo->List Dat->bB Dat)(as:GA):GF:=λM Z=>(as M Z).bind λds M1=>m M1 ds
def ain(m:Mo->List Dat->Out Dat)(as:GA):GF:=λM Z=>(as M Z).bind λds M1=>(m M1 ds).at M1
section
variable{X:Cx}{aj:aQ}{W:WX}{q:Bool}{a b e:Expr}{es:List Expr}{pos p:Pos}
variable{x:Str}{k:Nat}{f:Addr}{fd:FuncData}{ps:List Str}
def alk(a:GT):GT:=λM Z=>(a M Z).bind λb M1=>.ok (!b) M1
def akK(a b:GT):GT:=λM Z=>(a M Z).bind λx M1=>if x=true then b M1 Z else .ok false M1
def al8(a b:GT):GT:=λM Z=>(a M Z).bind λx M1=>if x=true then .ok true M1 else b M1 Z
def ala(a:GF):GT:=λM Z=>(a M Z).bind λd M1=>(HX d).at M1
end
section
variable{aj:aQ}{c:Tc}{X:Cx}{W:WX}{k:Nat}{t:Tr}{s:Ts}{q:Bool}
def xG(t:Tr)(s:Ts)(c:Tc):Expr->Option GF
 |.Call (.Name x _) [] [] _=>(match c.G.lookup x with
  |some (.cls 0 m)=>gd (EY c.sc x&&!Ek x) (some (Ac x m au))
  |_=>none)
 |.Call (.Name x _) (e::es) [] _=>(match c.G.lookup x with
  |some (.fg n m)=>gd (EY c.sc x&&(!Ek x&&decide ((e::es).length=n))) ((Ip t c (e::es)).bind λas=>some (WL m as))
  |some (.cls n m)=>gd (EY c.sc x&&(!Ek x&&decide ((e::es).length=n))) ((Ip t c (e::es)).bind λas=>some (Ac x m as))
  |_=>none)
 |.Call (.Attribute o m apos) es [] pos=>(c.hs.Ms.lookup m).bind λtb=>(t.W c o).bind λfo=>(Ip t c es).bind λas=>
  gd (tbN tb (es.length+1)&&(baseOk o&&(decide (es.length < 30)&&(apos.endLine==pos.line)))) (some (cP tb fo as))
 |_=>none
theorem ak3(o:t.Ok)(os:s.Ok false)(a:vL aj c X W k){e:Expr}{f:GF}(h:xG t s c e=some f):GE aj X W false e f:=by
 unfold xG at h;split at h
 ·split at h
  ·next m hl=>
   obtain⟨hb,h⟩:=aW.mp h;cases h;simp only[aqf,aqx]at hb;exact agE a.rm (a.gl _ _ hl) (rW a.toAmb hb.1) (sW hb.2).1
  ·cases h
 ·split at h
  ·next n m hl=>
   obtain⟨hb,h⟩:=aW.mp h;simp only[aqf,aqx,ars]at hb;obtain⟨b1,b2,b3⟩:=hb;obtain⟨fa,hm,hk,fd,ps,j,hj,hp,hB,F⟩:=a.gl _ _ hl;obtain⟨as,h1,h⟩:=aqd.mp h;cases h;obtain⟨i1,i2,i3⟩:=uU o a.toAmb h1;exact ahu a.tk F (a.rm.mono hj) (rW a.toAmb b1) hm hk hB i1 (b3.trans hp.symm) (sW b2).1 i2 i3
  ·next n m hl=>
   obtain⟨hb,h⟩:=aW.mp h;simp only[aqf,aqx,ars]at hb;obtain⟨b1,b2,b3⟩:=hb;obtain⟨as,h1,h⟩:=aqd.mp h;cases h;obtain⟨i1,i2,i3⟩:=uU o a.toAmb h1;exact ajk a.rm (a.gl _ _ hl) (rW a.toAmb b1) (sW b2).1 i1 i2 (λM Z ds z=>by rw[i3 M Z ds z];exact b3)
  ·cases h
 ·next b m apos es pos=>
  obtain⟨tb,h1,h⟩:=aqd.mp h;obtain⟨fo,h2,h⟩:=aqd.mp h;obtain⟨as,h3,h⟩:=aqd.mp h;obtain⟨hb,h⟩:=aW.mp h;cases h;simp only[aqf,ars]at hb;obtain⟨b2,b3,b4,b5⟩:=hb;obtain⟨i1,i2,i3⟩:=uU o a.toAmb h3;cases es with
  |nil=>
   cases h3;exact aee a.tk a.rm (Wu a.toAmb h1 b2) (o.ow a.toAmb h2) b3 b5
  |cons e es=>exact aga a.tk a.rm (Wu a.toAmb h1 b2) (o.ow a.toAmb h2) i1 i3 b3 i2 b5 b4
 ·cases h
end
section
variable{aj:aQ}{c:Tc}{X:Cx}{W:WX}{k:Nat}{t:Tr}{s:Ts}{q:Bool}
theorem Hg{e o:Expr}{f:Str}{p:Pos}{l:Nat}{env:PySem.Env}:swapsWith e (some (.Attribute o f p)) l env=pure false:=by cases e<;>rfl
theorem aeL{e o:Expr}{i:Expr}{p:Pos}{l:Nat}{env:PySem.Env}:swapsWith e (some (.Subscript o i p)) l env=pure false:=by cases e<;>rfl
theorem aec{o:Expr}{f:Str}{p spos:Pos}{i:Expr}{env:PySem.Env}(h:X5 i=false):∀v,assign (.Subscript (.Attribute o f p) i spos) env v=(do
   let ov ←holding [v] (eval (.Attribute o f p) env)
   let iv ←holding [v,ov] (eval i env)
   standAt spos
   holding [v,ov,iv] (setItem ov iv v)
   release [v,ov,iv] []):=λv=>by
 cases i<;>first | (with_unfolding_all rfl) | cases h
def ai5(t:Tr)(c:Tc)(kx tg iter:Expr)(scope:Scope):Option (Mo->Env->Out (List (Dat×Dat))):=
 (t.I c false tg iter).bind λit=>(U5 (c.inn scope) tg).bind λjt=>(t.E (c.inn scope) kx).bind λte=>
  gd (blkC c.N c.sc scope (oW tg jt.1)&&(Nh jt.1 ((oW tg jt.1).map (·.2))&&!yj iter)) (some (qDc it jt.2 ((oW tg jt.1).map (·.2)) te))
theorem afo(a:Amb aj c X W k):X.A.units+64 < cLine:=by have:=a.rm.un;omega
def aep(t:Tr)(s:Ts)(c:Tc)(o:Expr)(f:Str):Expr->Option SF
 |.Dict [] [] _=>(t.W c o).bind λfo=>(c.hs.df.lookup f).bind λb=>some (Lp c.hs.ft fo f b)
 |.DictComp kx (.Constant (.bool true) _ _) [⟨tg,iter,[],0⟩] scope _=>(t.W c o).bind λfo=>(ai5 t c kx tg iter scope).bind λfe=>some (Rh c.hs.ft fo f fe)
 |.List es p=>(t.W c o).bind λfo=>(trN t c (.List es p)).bind λfe=>some (Dt c.hs.ft fo f fe)
 |e=>gd (!DW e) ((t.W c o).bind λfo=>(s.G c e).bind λfe=>some (ug c.hs.ft fo f fe))
theorem agG(ot:t.Ok)(os:s.Ok false)(a:vL aj c X W k){o e:Expr}{f:Str}{p pos:Pos}{sf:SF}(h:aep t s c o f e=some sf):SE aj X W false (.Assign [.Attribute o f p] e pos) sf:=by
 have hk:=a.hk;unfold aep at h;split at h
 ·obtain⟨fo,h1,h⟩:=aqd.mp h;obtain⟨b,h2,h⟩:=aqd.mp h;cases h;exact agU hk.co hk.fk hk.hw (ot.ow a.toAmb h1) Hg
 ·obtain⟨fo,h1,h⟩:=aqd.mp h;obtain⟨fe,h2,h⟩:=aqd.mp h;cases h;unfold ai5 at h2;obtain⟨it,i1,h2⟩:=aqd.mp h2;obtain⟨⟨js,tf⟩,i2,h2⟩:=aqd.mp h2;obtain⟨te,i3,h2⟩:=aqd.mp h2;obtain⟨hb,h2⟩:=aW.mp h2;cases h2;simp only[aqf,aqx]at hb;obtain⟨b1,b2,b3⟩:=hb;exact aho hk.co hk.fk (ot.ow a.toAmb h1) (aip (g:=zL X.K aj js tf) (tk:=tQ X.K aj WF te) a.calm a.nd (afo a.toAmb) (ot.oi a.toAmb i1) (blkOk_by (by rw[a.hN,a.hs];exact b1)) (λs H C cl fp=>uO (a.toAmb.inn _ s H C cl fp) i2) (λs H C cl fp=>ot.oe (a.toAmb.inn _ s H C cl fp) i3) (qP b3)) (λσ H Q z=>alA hk.hw (pC b2) σ H Q z) Hg
 ·obtain⟨fo,h1,h⟩:=aqd.mp h;obtain⟨fe,h2,h⟩:=aqd.mp h;cases h;exact ahy hk.co hk.fk (ot.ow a.toAmb h1) (acP ot a.toAmb h2).1 Hg
 ·obtain⟨hc,h⟩:=aW.mp h;obtain⟨fo,h1,h⟩:=aqd.mp h;obtain⟨fe,h2,h⟩:=aqd.mp h;cases h;exact agl hk.co hk.fk (ot.ow a.toAmb h1) (os.og a h2) Hg
def Xf(n:Str):List Expr->Option (List Str)
 |[]=>some []
 |.Attribute (.Name m _) f _::es=>gd (m==n) ((Xf n es).bind λfs=>some (f::fs))
 |_=>none
def aa1(nm:Option Str):Expr->Option CV
 |.Constant (.str x) _ _=>some (.con (.str x))
 |.Constant .none _ _=>some (.con .none)
 |.Tuple [] _ _=>some (.con (.tuple []))
 |.Attribute (.Name m _) f _=>nm.bind λn=>gd (m==n) (some (.fld f))
 |.Tuple es _ _=>nm.bind λn=>(Xf n es).bind λfs=>some (.flds fs)
 |_=>none
def CV.fs:CV->List Str
 |.con _=>[]
 |.fld f=>[f]
 |.flds fs=>fs
def abd(c:Tc)(nm:Option Str):List Stmt->Option (List (Nat×CV))
 |[]=>some []
 |.Assign [.Name x _] e _::r=>(vh c x).bind λj=>(aa1 nm e).bind λse=>(abd c nm r).bind λst=>some ((j,se)::st)
 |_=>none
def R3(c:Tc):Option Str->Option (Option Nat)
 |none=>some none
 |some n=>(KN c n).bind λi=>match c.sc.names.lookup n with
  |some .local=>some (some i)
  |_=>none
def ajU(c:Tc):ExceptHandler->Option Hd
 |.ExceptHandler (some (.Name y _)) nm (s0::su) _=>(c.hs.xm.lookup y).bind λtab=>(R3 c nm).bind λi=>(abd c nm (s0::su)).bind λst=>
  (match c.G.lookup y with
  |some .exc=>some true
  |some (.exi _)=>some true
  |_=>none).bind λ_=>
  gd (EY c.sc y&&(!Ek y&&(st.all (λp=>match i with
   |some j=>!(j==p.1)
   |none=>true)&&st.all (λp=>p.2.fs.all (λf=>((c.hs.xf.lookup y).getD []).contains f)&&decide (p.2.fs.length<=100))))) (some ⟨y,λx=>tab.lookup x,i,st⟩)
 |_=>none
def Ww(c:Tc):List ExceptHandler->Option (List Hd)
 |[]=>some []
 |h::hs=>(ajU c h).bind λd=>(Ww c hs).bind λds=>some (d::ds)
theorem Z6{y n:Str}{C:Addr}{a:Addr}{oe:Obj}{cls:Value}{d:Option Addr}{pn:List (Addr×Obj)}{j:Nat}{fl:List Str}(hC:aj y=some C)(T:XfC X.K C)(hno:∀f∈fl,PySem.W.findIn X.K (.ref C) f=some none)(hz:Zc cls d oe)(hf:∃vs,oe.data=.fields vs)(hN:X.N[j]?=some n)(hv:Vis X.env.scope n)(hd:(n==("__debug__" : Str))=false)(hcd:(n==("__classdict__" : Str))=false) :
  ∀{es:List Expr} {fs:List Str},Xf n es=some fs->(∀f∈fs,f∈fl)->PA (X.suite a ((a,oe)::pn)) es (tUA X.K aj a cls d (some j) λx=>Lw y x fs)
 |[],fs,h,_=>by
  cases h;exact abX
 |.Attribute (.Name m p) f p2::es,fs,h,hs=>by
  rw[Xf]at h;obtain⟨hm,h⟩:=aW.mp h;obtain⟨fr,h1,h⟩:=aqd.mp h;cases h;cases eq_of_beq hm;exact ahq (ac5 hC T (hno f (hs f aqj)) hz hf hN hv hd hcd) (Z6 hC T hno hz hf hN hv hd hcd h1 λf hf=>hs f (aqk _ hf)) rfl
theorem ahe{y:Str}{nm:Option Str}{i:Option Nat}{a:Addr}{oe:Obj}{cls:Value}{d:Option Addr}{pn:List (Addr×Obj)}{e:Expr}{se:CV}(am:Amb aj c X W k)(hi:R3 c nm=some i)(hy:(c.hs.xf.lookup y).getD []=fl)(hfl:∀f∈se.fs,f∈fl)(hl:se.fs.length<=100)(hz:Zc cls d oe)(hf:∃vs,oe.data=.fields vs)(h:aa1 nm e=some se) :
  PE (X.suite a ((a,oe)::pn)) e (tU X.K aj a cls d i λx=>Nt y x se):=by
 have fld:∀n j,nm=some n->i=some j->X.N[j]?=some n/\Vis X.env.scope n/\(n==("__debug__" : Str))=false/\(n==("__classdict__" : Str))=false:=λn j e1 e2=>by
  subst e1 e2;unfold R3 at hi;obtain⟨j',h1,hi⟩:=aqd.mp hi;split at hi
  ·cases hi;exact zu am h1
  ·cases hi
 have hsome:∀n,nm=some n->∃j,i=some j:=λn e1=>by
  subst e1;unfold R3 at hi;obtain⟨j',h1,hi⟩:=aqd.mp hi;split at hi
  ·cases hi;exact⟨_,rfl⟩
  ·cases hi
 have hxf:fl≠[]->∃C,aj y=some C/\XfC X.K C/\∀f∈fl,PySem.W.findIn X.K (.ref C) f=some none:=λne=>by
  cases hx:c.hs.xf.lookup y with
  |none=>
   rw[hx]at hy;exact absurd hy.symm ne
  |some l=>
   rw[hx]at hy;cases hy;exact am.hk.xf y _ hx
 unfold aa1 at h;split at h
 ·cases h;exact acd pe_str λσ H Q ⟨g,Z,M,x,z,I,e,kk⟩=>by
   cases e;exact kk _ H (Ex.refl H) (.str _)
 ·cases h;exact acd pe_non λσ H Q ⟨g,Z,M,x,z,I,e,kk⟩=>by
   cases e;exact kk _ H (Ex.refl H) .non
 ·cases h;exact PE.weak (abW (aj:=aj) (cls:=cls) (d:=d) (i:=i) abX λx zs e=>by cases e;exact aqT _) λσ H Q z=>z
 ·obtain⟨n,e1,h⟩:=aqd.mp h;obtain⟨hm,h⟩:=aW.mp h;cases h;cases eq_of_beq hm;obtain⟨j,rfl⟩:=hsome _ e1;obtain⟨f1,f2,f3,f4⟩:=fld _ j e1 rfl;obtain⟨C,c1,c2,c3⟩:=hxf (List.ne_nil_of_mem (hfl _ (aql.mpr rfl)));exact ac5 c1 c2 (c3 _ (hfl _ (aql.mpr rfl))) hz hf f1 f2 f3 f4
 ·next es _ _ hne=>
  obtain⟨n,e1,h⟩:=aqd.mp h;obtain⟨fs,e2,h⟩:=aqd.mp h;cases h;obtain⟨j,rfl⟩:=hsome _ e1;obtain⟨f1,f2,f3,f4⟩:=fld _ j e1 rfl;have hfs:fs≠[]:=λz=>by
   subst z
   match es,e2 with
   |[],_=>exact hne rfl
   |.Attribute (.Name m _) f _::es,e2=>
    rw[Xf]at e2;obtain⟨_,e2⟩:=aW.mp e2;obtain⟨_,_,e2⟩:=aqd.mp e2;cases e2
  have hfn:fl≠[]:=by
   cases fs with
   |nil=>exact absurd rfl hfs
   |cons f r=>exact List.ne_nil_of_mem (hfl f aqj)
  obtain⟨C,c1,c2,c3⟩:=hxf hfn;exact abW (Z6 c1 c2 c3 hz hf f1 f2 f3 f4 e2 hfl) λx zs e=>by
   have:=U3 e;have hl:fs.length<=100:=hl;omega
 ·cases h
theorem SM{y:Str}{nm:Option Str}{i:Option Nat}{a:Addr}{oe:Obj}{cls:Value}{d:Option Addr}{pn:List (Addr×Obj)}{fl:List Str}(am:Amb aj c X W k)(hi:R3 c nm=some i)(hy:(c.hs.xf.lookup y).getD []=fl)(hz:Zc cls d oe)(hf:∃vs,oe.data=.fields vs) :
  ∀{ss:List Stmt} {st:List (Nat×CV)},abd c nm ss=some st->(∀p∈st,(∀f∈p.2.fs,f∈fl)/\p.2.fs.length<=100)->PSs (X.suite a ((a,oe)::pn)) ss (tSu X.K aj a cls d i y st)
 |[],st,h,_=>by
  cases h;exact PSs.weak pss_nil λD σ H z=>akc z
 |.Assign [.Name x p] e p2::r,st,h,hs=>by
  rw[abd]at h;obtain⟨j,h1,h⟩:=aqd.mp h;obtain⟨se,h2,h⟩:=aqd.mp h;obtain⟨st',h3,h⟩:=aqd.mp h;cases h;obtain⟨s1,s2,s3⟩:=lX am h1;obtain⟨u1,u2⟩:=hs (j,se) aqj;have he:=ahe (a:=a) (pn:=pn) am hi hy u1 u2 hz hf h2;have hne:DW e=false/\swappedStores [.Name x p] e X.env=pure none:=by unfold aa1 at h2;split at h2<;>first | exact⟨rfl,rfl⟩ | cases h2
  refine PSs.weak (pss_cons (ps_asg he (pg_name (X:=X.suite a ((a,oe)::pn)) am.nd s1 s2 s3) (Eo hne.1) hne.2 (by with_unfolding_all rfl)) (SM am hi hy hz hf h3 λp hp=>hs p (aqk _ hp))) λD σ H z=>?_;exact aiN z λσ' H' z'=>z'
def amP(aj:aQ)(K:aqe)(h:Hd)(D:Addr):Cl:=⟨.ref D,h.nm,λa cls d=>tSu K aj a cls d h.nm h.y h.st⟩
theorem Y6(am:Amb aj c X W k):∀{hds:List ExceptHandler} {hs:List Hd},Ww c hds=some hs->∃ls,Bm X hds ls/\Es X.K aj hs ls
 |[],hs,h=>by
  cases h;exact⟨[],.nil,.nil⟩
 |h0::hds,hs,h=>by
  rw[Ww]at h;obtain⟨d,h1,h⟩:=aqd.mp h;obtain⟨ds,h2,h⟩:=aqd.mp h;cases h;obtain⟨ls,i1,i2⟩:=Y6 am h2;unfold ajU at h1;split at h1
  ·next y np nm s0 su cp=>
   obtain⟨tab,j1,h1⟩:=aqd.mp h1;obtain⟨i,j2,h1⟩:=aqd.mp h1;obtain⟨st,j3,h1⟩:=aqd.mp h1;obtain⟨_,j4,h1⟩:=aqd.mp h1;obtain⟨hb,h1⟩:=aW.mp h1;cases h1;simp only[aqf,aqx]at hb;obtain⟨b1,b2,b3,b4⟩:=hb;obtain⟨⟨D,hD⟩,hx⟩:=am.hk.xm y tab j1;have hm:X.mg y=some (.ref D):=by
    split at j4
    ·next hl=>
     obtain⟨C,g1,g2,_⟩:=am.gl y _ hl;rw[hD]at g2;cases g2;exact g1
    ·next hl=>
     obtain⟨C,fI,fd,ps,g1,g2,_⟩:=am.gl y _ hl;rw[hD]at g2;cases g2;exact g1
    ·cases j4
   have hnames:Names X y (.ref D):=⟨rW am b1,(sW b2).1,.inl hm⟩;have hst:∀p∈st,(∀f∈p.2.fs,f∈(c.hs.xf.lookup y).getD [])/\p.2.fs.length<=100:=λp hp=>by
    have:=aqB.mp b4 p hp;rw[aqf,ars]at this;exact⟨λf hf=>by simpa using aqB.mp this.1 f hf,this.2⟩
   have hnj:∀p∈st,i≠some p.1:=λp hp z=>by
    subst z;have:=aqB.mp b3 p hp;simp at this
   refine⟨amP aj X.K ⟨y,λx=>tab.lookup x,i,st⟩ D::ls,?_,.cons ⟨⟨D,hD,rfl⟩,hx,rfl,rfl,hnj⟩ i2⟩;cases nm with
   |none=>
    cases j2;exact .one hnames rfl (λa oe cls d pn hz hf=>SM am rfl rfl hz hf j3 hst) i1
   |some n=>
    have j2':=j2;unfold R3 at j2;obtain⟨i',s1,j2⟩:=aqd.mp j2;split at j2
    ·next hloc=>
     cases j2;refine .as hnames rfl (zu am s1).1 ?_ (λa oe cls d pn hz hf=>SM am j2' rfl hz hf j3 hst) i1;unfold PySem.Env.kindOf;rw[am.hs];exact hloc
    ·cases j2
  ·cases h1
theorem vL.tr(a:vL aj c X W k){W':WX}{pn:List (Addr×Obj)}{xe:Value->Shared->Prop}(t:Takes (X.tr pn xe) W')(p:PassesOwn (model X.prog X.w) X.A X.env xe):vL aj c (X.tr pn xe) W' k where
 hN:=a.hN
 hs:=a.hs
 calm:=a.calm
 nd:=a.nd
 tk:=t
 rm:=a.rm
 gl:=a.gl
 bl:=a.bl
 fn:=a.fn
 hk:=a.hk
 ps:=p
 st:=a.st
 fr:=a.fr
 kf:=a.kf
def xS(q:Bool)(t:Tr)(s:Ts)(c:Tc):Stmt->Option SF
 |.Raise (some (.Call (.Name x _) [] [] _)) none _=>(match c.G.lookup x with
  |some .exc=>gd (EY c.sc x&&!Ek x) (some (eV x))
  |_=>none)
 |.Raise (some (.Call (.Name x _) (e::es) [] _)) none _=>(match c.G.lookup x with
  |some (.exi fs)=>(Ip t c (e::es)).bind λas=>gd (EY c.sc x&&(!Ek x&&(decide ((e::es).length=fs.length)&&decide (fs.length<=1000)))) (some (Bt x fs as))
  |_=>none)
 |.Try body (h::hds) [] [] _=>(s.B c body).bind λf=>(Ww c (h::hds)).bind λhs=>some (Zh f hs)
 |.Pass _=>some aN
 |.Expr (.Call (.Attribute (.Attribute o f p1) m apos) [e] [] pos) epos=>(match q with
  |true=>(s.G c (.Call (.Attribute (.Attribute o f p1) m apos) [e] [] pos)).bind λf=>some (cG f)
  |false=>match m=="append" with
   |true=>gd (baseOk o&&(nst e&&(apos.endLine==pos.line))) ((t.W c o).bind λfo=>(s.G c e).bind λfe=>some (Dd f fo fe))
   |false=>(s.G c (.Call (.Attribute (.Attribute o f p1) m apos) [e] [] pos)).bind λf=>some (cG f))
 |.Expr e _=>gd (!DW e) ((s.G c e).bind λf=>some (cG f))
 |.Assign [.Name x p] (.ListComp elt [⟨tg,iter,ifs,0⟩,⟨tg1,iter1,ifs1,0⟩] scope cpos) _=>(vh c x).bind λj=>
  gd (swB c.sc (.ListComp elt [⟨tg,iter,ifs,0⟩,⟨tg1,iter1,ifs1,0⟩] scope cpos) scope x p&&!c.ml.contains x) ((Rp t c elt tg iter ifs tg1 iter1 ifs1 scope).bind λf=>some (bh (aF j) (gOf f)))
 |.Assign [.Attribute o f _] e _=>(match q with
  |true=>none
  |false=>aep t s c o f e)
 |.Assign [.Subscript (.Attribute o f _) i _] e _=>(match q with
  |true=>none
  |false=>gd (baseOk o&&(!X5 i&&!DW e)) ((t.W c o).bind λfo=>(t.E c i).bind λfi=>(t.E c e).bind λfe=>match c.hs.df.lookup f with
   |some _=>some (LQ f fo fi fe)
   |none=>some (PN f fo fi fe)))
 |.AugAssign (.Attribute o f _) .Add e _=>(match q with
  |true=>none
  |false=>(t.W c o).bind λfo=>(t.E c e).bind λfe=>some (QZ c.hs.ft f fo fe))
 |.Delete [.Subscript (.Attribute o f _) i _] _=>(match q with
  |true=>none
  |false=>gd (baseOk o) ((t.W c o).bind λfo=>(t.E c i).bind λfi=>some (Ls f fo fi)))
 |_=>none
theorem ak4(o:t.Ok)(os:s.Ok q)(a:vL aj c X W k){st:Stmt}{f:SF}(h:xS q t s c st=some f):SE aj X W q st f:=by
 have hk:=a.hk;unfold xS at h;split at h
 ·split at h
  ·next hl=>
   obtain⟨hb,h⟩:=aW.mp h;cases h;simp only[aqf,aqx]at hb;exact aeG a.calm a.tk (rW a.toAmb hb.1) (sW hb.2).1 (a.gl _ _ hl)
  ·cases h
 ·split at h
  ·next fs hl=>
   obtain⟨as,h1,h⟩:=aqd.mp h;obtain⟨hb,h⟩:=aW.mp h;cases h;simp only[aqf,aqx,ars]at hb;obtain⟨b1,b2,b3,b4⟩:=hb;obtain⟨i1,i2,i3⟩:=uU o a.toAmb h1;exact abR a.calm a.tk a.rm (rW a.toAmb b1) (sW b2).1 (a.gl _ _ hl) i1 i2 (λM Z ds z=>by rw[i3 M Z ds z];exact b3) b4
  ·cases h
 ·obtain⟨f1,h1,h⟩:=aqd.mp h;obtain⟨hs,h2,h⟩:=aqd.mp h;cases h;obtain⟨ls,i1,i2⟩:=Y6 a.toAmb h2;exact ahK a.st a.fr a.nd a.tk (λW' pn xe t p=>os.ob (a.tr t p) h1) i1 i2
 ·cases h;exact PS.weak ps_pass λD σ H ⟨g,Z,M,I,z⟩=>z σ H g .refl I
 ·split at h
  ·obtain⟨f1,h1,h⟩:=aqd.mp h;cases h;exact R6 (os.og a h1) (Et rfl)
  ·split at h
   ·next hm=>
    obtain⟨hb,h⟩:=aW.mp h;obtain⟨fo,h1,h⟩:=aqd.mp h;obtain⟨fe,h2,h⟩:=aqd.mp h;cases h;simp only[aqf]at hb;cases eq_of_beq hm;exact ag5 hk.co (o.ow a.toAmb h1) hb.1 (os.og a h2) hb.2.1 hb.2.2
   ·obtain⟨f1,h1,h⟩:=aqd.mp h;cases h;exact R6 (os.og a h1) (Et rfl)
 ·obtain⟨hb,h⟩:=aW.mp h;obtain⟨f1,h1,h⟩:=aqd.mp h;cases h;exact R6 (os.og a h1) (Et (by simpa using hb))
 ·obtain⟨j,hj,h⟩:=aqd.mp h;obtain⟨hsw,h⟩:=aW.mp h;rw[aqf]at hsw;obtain⟨f1,h1,h⟩:=aqd.mp h;cases h;obtain⟨s1,s2,s3⟩:=lX a.toAmb hj;have hsw:=hsw.1;rw[←a.hs]at hsw;have l1:=(Qe (l:=0) a.kf hsw).1;have l2:=λl=>(Qe (l:=l) a.kf hsw).2;clear h;unfold Rp at h1;obtain⟨it,g1,h⟩:=aqd.mp h1;obtain⟨⟨js,tf⟩,h2,h⟩:=aqd.mp h;obtain⟨tt,h3,h⟩:=aqd.mp h;obtain⟨it1,h4,h⟩:=aqd.mp h;obtain⟨⟨js1,tf1⟩,h5,h⟩:=aqd.mp h;obtain⟨tt1,h6,h⟩:=aqd.mp h;obtain⟨te,h7,h⟩:=aqd.mp h;obtain⟨hb,h⟩:=aW.mp h;cases h;simp only[aqf,aqx]at hb;obtain⟨b1,b2,b3,b4,b5,b6⟩:=hb;have am:=a.toAmb;exact ag9 a.calm a.nd s1 l1 (l2 _) (o.oi am g1) (by rw[a.hN,a.hs];exact b1) (pC b2) (pC b3) (pC b4) (λs H C cl fp=>uO (am.inn _ s H C cl fp) h2) (λs H C cl fp=>vY o (am.inn _ s H C cl fp) h3) (λs H C cl fp=>o.oi (am.inn _ s H C cl fp) h4) (λs H C cl fp=>uO (am.inn _ s H C cl fp) h5) (λs H C cl fp=>vY o (am.inn _ s H C cl fp) h6) (λs H C cl fp=>o.oe (am.inn _ s H C cl fp) h7) (qP b5) (λenv=>qP b6)
 ·split at h
  ·cases h
  ·exact agG o os a h
 ·split at h
  ·cases h
  ·obtain⟨hb,h⟩:=aW.mp h;obtain⟨fo,h1,h⟩:=aqd.mp h;obtain⟨fi,h2,h⟩:=aqd.mp h;obtain⟨fe,h3,h⟩:=aqd.mp h;simp only[aqf,aqx]at hb;obtain⟨b1,b2,b3⟩:=hb;split at h
   ·cases h;exact ag6 hk.co hk.hw (afo a.toAmb) (o.ow a.toAmb h1) b1 (o.oe a.toAmb h2) (o.oe a.toAmb h3) aeL
   ·cases h;exact af4 hk.co (o.ow a.toAmb h1) b1 (o.oe a.toAmb h3) (o.oe a.toAmb h2) (aec b2) (Eo b3) (by with_unfolding_all rfl)
 ·split at h
  ·cases h
  ·obtain⟨fo,h1,h⟩:=aqd.mp h;obtain⟨fe,h2,h⟩:=aqd.mp h;cases h;exact agR hk.co hk.fk (o.ow a.toAmb h1) (o.oe a.toAmb h2)
 ·split at h
  ·cases h
  ·obtain⟨hb,h⟩:=aW.mp h;obtain⟨fo,h1,h⟩:=aqd.mp h;obtain⟨fi,h2,h⟩:=aqd.mp h;cases h;exact af3 hk.co hk.hw (afo a.toAmb) (o.ow a.toAmb h1) hb (o.oe a.toAmb h2)
 ·cases h
end
def tr0:Tr:=⟨λ_ _=>none,λ_ _=>none,λ_ _=>none,λ_ _ _ _=>none⟩
def ah8(t:Tr):Tr:=⟨xtE t,xtW t,xtT t,xtI t⟩
def tr:Nat->Tr
 |0=>tr0
 |n+1=>ah8 (tr n)
theorem yV:∀n,(tr n).Ok
 |0=>⟨λ_=>(by intro _ _ h;cases h),λ_=>(by intro _ _ h;cases h),λ_=>(by intro _ _ h;cases h),λ_=>(by intros;rename_i h;cases h)⟩
 |n+1=>⟨λa=>(by intro _ _ h;exact(vJ h).elim (akX (yV n) a) (ajn (yV n) a)),λa=>(by intro _ _ h;exact(vJ h).elim (akS (yV n) a) (aiw (yV n) a)),λa=>(by intro _ _ h;exact(vJ h).elim (akQ (yV n) a) (ajG (yV n) a)),λa=>(by intro _ _ _ _ h;exact(vJ h).elim (akx (yV n) a) (aju (yV n) a))⟩
def ts0:Ts:=⟨λ_ _=>none,λ_ _=>none,λ_ _=>none,λ_ _=>none⟩
def ldG(q:Bool)(t:Tr)(s:Ts)(c:Tc)(e:Expr):Option GF:=match q with
 |true=>none
 |false=>xG t s c e
def ldH(_:Bool)(_:Ts)(_:Tc)(_:Expr):Option GT:=none
def aiH(q:Bool)(t:Tr)(s:Ts):Ts:=⟨λc e=>els ((t.E c e).bind λf=>some (gOf f)) (ldG q t s c e),λc e=>els ((t.T c e).bind λf=>some (afk f)) (ldH q s c e),λc e=>els (stS t s c e) (xS q t s c e),abL s⟩
def ts(q:Bool)(t:Tr):Nat->Ts
 |0=>ts0
 |n+1=>aiH q t (ts q t n)
theorem LR{t:Tr}(o:t.Ok)(q:Bool):∀n,(ts q t n).Ok q
 |0=>⟨λ_=>(by intro _ _ h;cases h),λ_=>(by intro _ _ h;cases h),λ_=>(by intro _ _ h;cases h),λ_=>(by intros;rename_i h;cases h)⟩
 |n+1=>⟨λa=>by
   intro _ _ h;rcases vJ h with h|h
   ·obtain⟨f,h1,h⟩:=aqd.mp h;cases h;exact afS (o.oe a.toAmb h1)
   ·cases q with
    |true=>cases h
    |false=>exact ak3 o (LR o false n) a h,λa=>by
   intro _ _ h;rcases vJ h with h|h
   ·obtain⟨f,h1,h⟩:=aqd.mp h;cases h;exact akE (o.ot a.toAmb h1)
   ·(cases h),λa=>by
   intro _ _ h;rcases vJ h with h|h
   ·exact ajq o (LR o q n) a h
   ·exact ak4 o (LR o q n) a h,λa=>by
   intro _ _ h;exact aea (LR o q n) a h⟩
def rd(c:Tc)(b:List Stmt):Option SF:=(ts true (tr 40) 60).B c b
def rdG(c:Tc)(b:List Stmt):Option SF:=(ts false (tr 40) 60).B c b
def Cp(P:Program)(w:World)(K:aqe)(mg:Str->Option Value)(base:Heap)(aj:aQ)(k:Nat):List (Str×GV)->Prop
 |[]=>True
 |(x,v)::r=>bx P w K mg base aj k x v/\Cp P w K mg base aj k r
def Cz(mg:Str->Option Value):List Str->Prop
 |[]=>True
 |x::r=>mg x=none/\Cz mg r
section
variable{P:Program}{w:World}{K:aqe}{mg:Str->Option Value}{base:Heap}{aj:aQ}{k:Nat}
theorem Cp.get:∀{G:List (Str×GV)},Cp P w K mg base aj k G->∀x v,G.lookup x=some v->bx P w K mg base aj k x v
 |[],_,x,v,h=>nomatch h
 |(y,u)::r,g,x,v,h=>by
  rw[aqG]at h;split at h
  ·next e=>
   cases h;rw[eq_of_beq e];exact g.1
  ·exact g.2.get x v h
theorem Cz.get:∀{B:List Str},Cz mg B->∀x,x∈B->mg x=none
 |[],_,x,h=>nomatch h
 |y::r,g,x,h=>by
  rcases aqt.mp h with rfl|h
  ·exact g.1
  ·exact g.2.get x h
theorem adw{qual:Str}{st:Stmt}{f:Addr}{N ps ml B:List Str}{G:List (Str×GV)}{Ms:Hs}(S:FnScope N ps (defScope st))(g:Cp P w K mg base aj k G)(b:Cz mg B)(hh:Uc P w K mg base aj k Ms)
  (cdv:Value) (A:Around) (outer:List PySem.Env) (s:Shared) (H:Hp) (E:XK) (hr:Room k (A.deeper (envOfC qual (defScope st) s.heap.objs.size f cdv))) :
  vL aj ⟨N,defScope st,G,B,Ms,ml,true⟩ (cxOf (L2.CX P w) P w K mg base N qual (defScope st) f cdv A outer s H E) (aeZ E) k where
 hN:=rfl
 hs:=rfl
 calm:=rfl
 nd:=S.nd
 tk:=takes_of rfl rfl rfl rfl
 rm:=hr
 gl:=g.get
 bl:=b.get
 fn:=λ_ _=>rfl
 hk:=hh
 ps:=passes_of rfl
 st:=rfl
 fr:=rfl
 kf:=S.kind
theorem Yv{x qual:Str}{st:Stmt}{f:Addr}{fd:FuncData}{N ps ml B:List Str}{G:List (Str×GV)}{Ms:Hs}{body:SF}(F:Fun K x qual st f fd)(S:FnScope N ps (defScope st))(g:Cp P w K mg base aj k G)(b:Cz mg B)(hh:Uc P w K mg base aj k Ms)
  (h:rd ⟨N,defScope st,G,B,Ms,ml,true⟩ (defBody st)=some body):FnOk P w K mg base (L2.CX P w) (k+1) f fd ps (Vt K aj ps.length (mQ N.length body)):=
 amj F S λcdv A outer s H E hr=>(LR (yV 40) true 60).ob (adw S g b hh cdv A outer s H E hr) h
theorem Rr{x qual:Str}{st:Stmt}{f:Addr}{fd:FuncData}{N ps ml B:List Str}{G:List (Str×GV)}{Ms:Hs}{body:SF}(F:Fun K x qual st f fd)(S:FnScope N ps (defScope st))(g:Cp P w K mg base aj k G)(b:Cz mg B)(hh:Uc P w K mg base aj k Ms)
  (h:rdG ⟨N,defScope st,G,B,Ms,ml,true⟩ (defBody st)=some body):FnOk P w K mg base (L2.CX P w) (k+1) f fd ps (Jc K aj ps.length (mG N.length body)):=
 amR F S λcdv A outer s H E hr=>(LR (yV 40) false 60).ob (adw S g b hh cdv A outer s H E hr) h
theorem ahJ{f:Addr}{fd:FuncData}{ps:List Str}{j:Nat}:FnOk P w K mg base (L2.CX P w) j f fd ps (Vt K aj ps.length λ_ _=>.bad):=
 ⟨λvs H Q E h=>h.1,λA outer s H args us vs Q E _ _ _ _ h=>by
  obtain⟨_,g,M,ds,_,_,_,z⟩:=h;exact arq z⟩
theorem aeb{x:Str}{f:Addr}{fd:FuncData}{ps:List Str}{j:Nat}{m:Mo->List Dat->Out Dat}(hj:j<=k)(hg:mg x=some (.ref f))(hk:PySem.W.keepIn K (.ref f)=true)(hB:Binds K fd ps [])(F:FnOk P w K mg base (L2.CX P w) j f fd ps (Vt K aj ps.length m)):bx P w K mg base aj k x (.fq ps.length m):=
 ⟨f,hg,hk,fd,ps,j,hj,rfl,hB,F⟩
theorem KQ{x:Str}{i:Int}{t:Tok}(h:mg x=some (.int i t)):bx P w K mg base aj k x (.con (.int i)):=⟨.int i,_,h,⟨t,rfl⟩,λ_ _=>.int i,λ_ _ z=>nomatch z⟩
theorem Vy{g:Gh}{H:Hp}:∀{vs:List V} {ds:List Dat},(vs.zip ds).all (λp=>match p with
  |(.int i,.int j)=>decide (i=j)
  |(.str x,.str y)=>decide (x=y)
  |_=>false)=true->vs.length=ds.length->aJ K g H vs ds
 |[],[],_,_=>.nil
 |[],_::_,_,h=>nomatch h
 |_::_,[],_,h=>nomatch h
 |v::vs,d::ds,h,hl=>by
  rw[aq0,aqS,aqf]at h;refine .cons ?_ (Vy h.2 (arn hl));have h1:=h.1;split at h1
  ·next e=>cases e;cases aru h1;exact .int _
  ·next e=>cases e;cases aru h1;exact .str _
  ·cases h1
theorem aht{a:Addr}(h:Xv K a=true):∃o,K.lookup a=some o/\o.cls=.type "tuple"/\o.dict=none:=by
 unfold Xv at h;split at h
 ·next o e=>
  rw[aqf]at h;refine⟨o,e,?_,Option.isNone_iff_eq_none.mp h.2⟩;have h1:=h.1;split at h1
  ·next c ec=>rw[ec,aru h1]
  ·cases h1
 ·cases h
theorem adh{x:Str}{a:Addr}{vs:List V}{ds:List Dat}(h:mg x=some (.ref a))(q:∀H:Hp,SqT K H a vs)(hf:(vs.zip ds).all (λp=>match p with
  |(.int i,.int j)=>decide (i=j)
  |(.str x,.str y)=>decide (x=y)
  |_=>false)=true) (hl:vs.length=ds.length) (hn:Xv K a=true):bx P w K mg base aj k x (.con (.tuple ds)):=⟨.ref a,_,h,rfl,λ_ H=>.tup (q H) (Vy hf hl),λb _ e _=>by cases e;exact aht hn⟩
end
open PySem PySem.Spec PyProof.Rows L2
section
variable{fa:List He.Fa}{fn:List He.DefD}{tb:List He.Tab}{ex:aqe->Bool}{w:World}{K:aqe}
theorem Mf.oG(c:Mf fa fn tb ex w K)(i:Nat){f:He.Fa}(h:fa[i]?=some f:=by rfl):f.ok K=true:=c.t.d.fact i h
theorem Mf.Vj(c:Mf fa fn tb ex w K)(i:Nat){d:He.DefD}(h:fn[i]?=some d:=by rfl):∃fd,FunD K d.name d.qual d.params d.body d.scope (d.dvs K) (d.kws K) (He.fAd K d.at_) fd:=c.t.d.def_ i h
theorem DN{x qual:Str}{st:Stmt}{f:Addr}{fd:FuncData}(F:FunD K x qual (defArgs st) (defBody st) (defScope st) [] [] f fd):L2.Fun K x qual st f fd:=by
 obtain⟨oc,od,dV,kV,doc,pm,an,cdv,ct,osl,e,l,c,hd,_⟩:=F.ex;rcases hd with⟨_,z⟩|⟨z,_⟩
 ·cases z;exact⟨⟨oc,od,kV,doc,pm,an,cdv,ct,osl,e,l,c⟩,F.kp⟩
 ·exact absurd rfl z
end
def g0:Gh:=⟨[],λ_=>none,λ_=>False,λ_=>False⟩
theorem ajJ(a:Addr):¬g0.A a:=λz=>by
 rcases z with(z|z)|z|z
 ·cases z
 ·exact z rfl
 ·exact z
 ·exact z
theorem akR{H:Hp}:Kd g0 H:=⟨λa z=>absurd z (ajJ a),λa z=>arq z,λa z=>arq z⟩
theorem ah7{K:aqe}{aj:aQ}{H:Hp}(nc:aj ""=none):fU K aj g0 H []:=⟨rfl,λh k a e=>(by cases h<;>cases e),λh a i e=>(by cases h<;>cases e),λh i e=>(by cases h<;>cases e),λh i e=>(by cases h<;>cases e),λh a i e=>(by cases h<;>cases e),λh i e=>(by cases h<;>cases e),nc⟩
theorem Vv{K:aqe}{g:Gh}{H:Hp}:∀ns:List Int,aJ K g H (ns.map V.int) (ns.map PyData.int)
 |[]=>.nil
 |n::ns=>.cons (.int n) (Vv ns)
theorem ajF{K:aqe}{H:Hp}{a:Addr}{ns:List Int}(hS:SqL K H a (ns.map V.int)):aJ K g0 H [.ref a] [.list (ns.map PyData.int)]:=by
 refine .cons (.lst ?_ (Vv ns)) .nil;rcases hS with h|h
 ·exact .inl ⟨h,ajJ a⟩
 ·exact .inr h
theorem akB{K:aqe}{aj:aQ}(nc:aj ""=none){m:Mo->List Dat->bB Dat}{H:Hp}{a:Addr}{ns:List Int}{M:Mo}(hS:SqL K H a (ns.map V.int))(h:m [] [.list (ns.map PyData.int)]=.ok (.bool true) M):Jc K aj 1 m [.ref a] H (λv _=>v=.bl true) λ_ _ _=>False:=
 ⟨rfl,g0,[],[.list (ns.map PyData.int)],akR,ah7 nc,ajF hS,by
  rw[h];exact λv H' g' _ _ _ r=>by cases r;rfl⟩
section
variable{K:aqe}{h:Heap}{mg:Str->Option Value}{w:World}
def nu(w:World)(K:aqe)(xs:List Str)(ft:Ft):aQ:=⟨λx=>match xs.contains x with
 |true=>some (He.ga K x)
 |false=>none,λc=>(ft.lookup c).getD [],w⟩
theorem Og{xs:List Str}{ft:Ft}{x:Str}{C:Addr}(e:nu w K xs ft x=some C):C=He.ga K x:=by
 have e:(match xs.contains x with
  |true=>some (He.ga K x)
  |false=>none)=some C:=e
 split at e
 ·exact(aqC e).symm
 ·cases e
theorem Cd{xs:List Str}{ft:Ft}{x:Str}(e:xs.contains x=true):nu w K xs ft x=some (He.ga K x):=by
 show(match xs.contains x with
  |true=>some (He.ga K x)
  |false=>none)=_
 rw[e]
theorem Ye{ft:Ft}(hb:Ju K ft=true){c:Str}{fs:List Str}(hl:ft.lookup c=some fs):Cls K (He.ga K c)/\∀f∈fs,NoAttr K (He.ga K c) f:=by obtain⟨h1,h2⟩:=He.ba (aqB.mp hb _ (pN hl));exact⟨He.cls_ok h1,λf hf=>He.noat_ok (aqB.mp h2 f hf)⟩
theorem acH{xs:List Str}{ft:Ft}(hb:Ju K ft=true):jk K (nu w K xs ft):=λc C f e hf=>by
 have e:=Og e;subst e;have hf:f∈(ft.lookup c).getD []:=hf;cases hl:ft.lookup c with
 |none=>rw[hl]at hf;cases hf
 |some fs=>
  rw[hl]at hf;obtain⟨h1,h2⟩:=Ye hb hl;exact⟨h1,h2 f hf⟩
theorem aeA{xs:List Str}{ft:Ft}:KY ft (nu w K xs ft):=λc f e=>by
 unfold Ft.has at e;show f∈(ft.lookup c).getD [];split at e
 ·next fs hl=>
  rw[hl];simpa using e
 ·cases e
def xmN(xs:List Str)(xm:List (Str×List (Str×Bool))):Bool:=xm.all λp=>xs.contains p.1
theorem alB{xs:List Str}{ft:Ft}{xm:List (Str×List (Str×Bool))}(hb:xmB K xm=true)(hn:xmN xs xm=true)(y:Str)(tab:List (Str×Bool))(hl:xm.lookup y=some tab):(∃D,nu w K xs ft y=some D)/\abl K (nu w K xs ft) y λx=>tab.lookup x:=by refine⟨⟨_,Cd (aqB.mp hn _ (pN hl))⟩,λx b C e1 e2 D e3=>?_⟩;rw[Og e2,Og e3];exact He.exm_ok (aqB.mp (aqB.mp hb _ (pN hl)) _ (pN e1))
theorem ag0{C:Addr}(hb:aiq K C=true):OexC K C:=by
 obtain⟨h1,h2⟩:=He.ba hb;obtain⟨h2,h3⟩:=He.ba h2;obtain⟨h3,h4⟩:=He.ba h3;obtain⟨h4,h5⟩:=He.ba h4;refine⟨?_,He.eqO_ok h2,aru h3,aru h4,h5⟩;split at h1
 ·next t dd cd sl hl=>
  obtain⟨t1,h1⟩:=He.ba h1;split at h1
  ·next C' bm k0 k1 k2 k3 n k5 e1 e2=>
   obtain⟨a1,h1⟩:=He.ba h1;obtain⟨a2,h1⟩:=He.ba h1;obtain⟨a3,h1⟩:=He.ba h1;obtain⟨a4,a5⟩:=He.ba h1;have q1:=aru t1;have q2:=aru a1;have q3:=aru a2;have q4:cd.hasDel=false:=by simpa using a3
   have q5:sl=#[k0,k1,k2,k3,some (.builtin n),k5]:=by rw[←Array.toList_inj];exact e2
   obtain⟨nm,bs,mro,ns,qn,hd,sn,sub,ab,col,hdel⟩:=cd;have e1:mro=.ref C'::bm:=e1;have q4:hdel=false:=q4;have a4:hd=true:=a4;subst q1 q2 q3 q4 q5 e1 a4;exact⟨nm,qn,ns,bs,bm,sn,sub,ab,col,dd,k0,k1,k2,k3,k5,hl,a5⟩
  ·cases h1
 ·cases h1
theorem S7{x:Str}{fs:List Str}(hb:TX K x fs=true):OexC K (He.ga K x)/\PySem.W.findIn K (.ref (He.ga K x)) "__init__"=some (some (.ref (He.ma K (He.ga K x) "__init__")))/\PySem.W.typeIn K (.ref (He.ma K (He.ga K x) "__init__"))=some (.type "function")/\XfC K (He.ga K x)/\∀f∈fs,PySem.W.findIn K (.ref (He.ga K x)) f=some none:=by obtain⟨h1,h2⟩:=He.ba hb;obtain⟨h2,h3⟩:=He.ba h2;obtain⟨h3,h4⟩:=He.ba h3;obtain⟨h4,h5⟩:=He.ba h4;exact⟨ag0 h1,He.eqO_ok h2,aru h3,xfB_ok h4,λf hf=>He.eqO_ok (aqB.mp h5 f hf)⟩
theorem aef{a:Addr}{xs:List Str}(hb:WK K a xs=true)(H:Hp):SqT K H a (xs.map V.str):=by
 unfold WK at hb;split at hb
 ·next c d its n sl hl=>
  obtain⟨h1,h2⟩:=He.ba hb;obtain⟨h3,h4⟩:=He.ba h2;have q1:=aru h1;subst q1;exact .inr ⟨_,its,n,hl,rfl,rfl,aru h3,He.relAll_ok h4⟩
 ·cases hb
def zj(kvs:List (Str×List Str)):List (Str×Dat):=kvs.map λq=>(q.1,.tuple (q.2.map PyData.str))
theorem Uo{g:Gh}{H:Hp}:∀xs:List Str,aJ K g H (xs.map V.str) (xs.map PyData.str)
 |[]=>.nil
 |x::xs=>.cons (.str x) (Uo xs)
theorem Qw{y:Str}:∀{kvs:List (Str×List Str)},(zj kvs).lookup y=(kvs.lookup y).map λxs=>PyData.tuple (xs.map PyData.str)
 |[]=>rfl
 |(z,xs)::r=>by
  show List.lookup y ((z,PyData.tuple (xs.map PyData.str))::zj r)=_;rw[aqG,aqG];split
  ·rfl
  ·exact Qw
theorem look_none{α:Type}{y:Str}:∀{kvs:List (Str×α)},kvs.lookup y=none->y∉kvs.map (·.1)
 |[],_=>by simp
 |(z,a)::r,h=>by
  rw[aqG]at h;split at h
  ·cases h
  ·next hn=>
   rw[aqh,aqt]
   rintro(e|e)
   ·subst e;simp at hn
   ·exact look_none h e
theorem ago{x:Str}{kvs:List (Str×List Str)}(hb:ae1 K x kvs=true)(hk:∃es n,KDict K w (He.ga K x) es n):aa9 w K (He.ga K x) (zj kvs):=by
 obtain⟨h1,h2⟩:=He.ba hb;obtain⟨h2,h3⟩:=He.ba h2;obtain⟨es,n,D⟩:=hk;rw[D.at_]at h1;refine⟨es,n,D,?_,λy=>?_⟩
 ·unfold zj;rw[aqJ];exact aru h2
 ·rw[Qw];cases hl:kvs.lookup y with
  |some xs=>
   have h4:=aqB.mp h3 _ (pN hl);show ∃v u,PySem.W.nsIn K (He.ga K x) y=some (some u)/\RelV v u/\∀g H,Rep K g H v (.tuple (xs.map PyData.str));have h4:(match PySem.W.nsIn K (He.ga K x) y with
    |some (some (.ref a))=>WK K a xs
    |_=>false)=true:=h4
   split at h4
   ·next a he=>exact⟨.ref a,.ref a,he,rfl,λg H=>.tup (aef h4 H) (Uo xs)⟩
   ·cases h4
  |none=>
   show PySem.W.nsIn K (He.ga K x) y=some none;have ny:=look_none hl;unfold PySem.W.nsIn;rw[D.at_];have h1:es.toList.all (λe=>(match e.key with
    |.str y _=>(kvs.map (·.1)).contains y
    |_=>false)&&!e.refKey)=true:=h1
   have f1:es.toList.find? (·.key.isStr y)=none:=by
    rw[List.find?_eq_none];intro e he z;obtain⟨a1,a2⟩:=He.ba (aqB.mp h1 e he);split at a1
    ·next y' tk hy=>
     rw[hy]at z;have z:(y'==y)=true:=z;have e':=eq_of_beq z;subst e';exact ny (by simpa using a1)
    ·cases a1
   have f2:es.toList.any (·.refKey)=false:=by rw[List.any_eq_false];intro e he z;obtain⟨a1,a2⟩:=He.ba (aqB.mp h1 e he);rw[z]at a2;cases a2
   show(match es.toList.find? (·.key.isStr y) with
    |some e=>some (some e.val)
    |none=>if es.toList.any (·.refKey) then none else some none)=some none
   rw[f1,f2];rfl
end
section
variable{P:Program}{w:World}{K:aqe}{mg:Str->Option Value}{base:Heap}{k:Nat}{xs:List Str}{ft:Ft}
def Wt(P:Program)(w:World)(K:aqe)(mg:Str->Option Value)(base:Heap)(aj:aQ)(k:Nat)(m:Str):List (Str×MV)->Prop
 |[]=>True
 |(c,v)::r=>bY P w K mg base aj k c m v/\Wt P w K mg base aj k m r
def DQ(P:Program)(w:World)(K:aqe)(mg:Str->Option Value)(base:Heap)(aj:aQ)(k:Nat):List (Str×List (Str×MV))->Prop
 |[]=>True
 |(m,tb)::r=>Wt P w K mg base aj k m tb/\DQ P w K mg base aj k r
theorem Wt.get{aj:aQ}{m:Str}:∀{tb:List (Str×MV)},Wt P w K mg base aj k m tb->∀c v,tb.lookup c=some v->bY P w K mg base aj k c m v
 |[],_,c,v,h=>nomatch h
 |(y,u)::r,g,c,v,h=>by
  rw[aqG]at h;split at h
  ·next e=>
   cases h;rw[eq_of_beq e];exact g.1
  ·exact g.2.get c v h
theorem DQ.get{aj:aQ}:∀{Ms:List (Str×List (Str×MV))},DQ P w K mg base aj k Ms->∀m tb,Ms.lookup m=some tb->∀c v,tb.lookup c=some v->bY P w K mg base aj k c m v
 |[],_,m,tb,h=>nomatch h
 |(y,u)::r,g,m,tb,h=>by
  rw[aqG]at h;split at h
  ·next e=>
   cases h;rw[eq_of_beq e];exact g.1.get
  ·exact g.2.get m tb h
theorem amD{aj:aQ}{x:Str}{f:Addr}{fd:FuncData}{ps:List Str}{j:Nat}{m:Mo->List Dat->bB Dat}(hj:j<=k)(hg:mg x=some (.ref f))(hk:PySem.W.keepIn K (.ref f)=true)(hB:Binds K fd ps [])(F:FnOk P w K mg base (L2.CX P w) j f fd ps (Jc K aj ps.length m)):bx P w K mg base aj k x (.fg ps.length m):=
 ⟨f,hg,hk,fd,ps,j,hj,rfl,hB,F⟩
theorem iH{x:Str}(hn:xs.contains x=true)(hg:mg x=some (.ref (He.ga K x)))(he:(He.Fa.exc x).ok K=true):bx P w K mg base (nu w K xs ft) k x .exc:=by obtain⟨h1,h2,h3,h4⟩:=He.exc_ok he;exact⟨_,hg,Cd hn,h1,h2,h3,h4⟩
theorem akn{x:Str}{fd:FuncData}{ps:List Str}{j n:Nat}{m:Mo->List Dat->bB Dat}(hj:j+1<=k)(hn:xs.contains x=true)(hg:mg x=some (.ref (He.ga K x)))(hc:Cls K (He.ga K x))(hm:(He.Fa.mkr x).ok K=true)(hp:ps.length=n+1)(hB:Binds K fd ps [])
  (F:FnOk P w K mg base (L2.CX P w) j (He.ma K (He.ga K x) "__init__") fd ps (Jc K (nu w K xs ft) ps.length m)):bx P w K mg base (nu w K xs ft) k x (.cls n m):=
 ⟨_,_,fd,ps,j,hg,Cd hn,hc,He.mkr_ok hm,hj,hp,hB,F⟩
theorem aif{aj:aQ}{x:Str}{kvs:List (Str×List Str)}(hg:mg x=some (.ref (He.ga K x)))(hb:ae1 K x kvs=true)(hk:∃es n,KDict K w (He.ga K x) es n):bx P w K mg base aj k x (.dic (zj kvs)):=⟨_,hg,ago hb hk⟩
theorem aku{x:Str}{fs:List Str}{fd:FuncData}{ps:List Str}(h2:2<=k)(hn:xs.contains x=true)(hg:mg x=some (.ref (He.ga K x)))(ho:TX K x fs=true)(hp:ps.length=fs.length+1)(hB:Binds K fd ps [])(F:FnOk P w K mg base CX0 1 (He.ma K (He.ga K x) "__init__") fd ps (afa (He.ga K x) fs)):bx P w K mg base (nu w K xs ft) k x (.exi fs):=by obtain⟨h1,h3,h4,_,_⟩:=S7 ho;exact⟨_,_,fd,ps,hg,Cd hn,h1,h3,h4,h2,hp,hB,F⟩
theorem afR{m:Str}{l:List Str}(hf:l.contains m=false)(z:m∈l):False:=by rw[List.contains_iff_mem.mpr z]at hf;cases hf
theorem amg{c m:Str}{fd:FuncData}{ps:List Str}{j:Nat}{mm:Mo->List Dat->Out Dat}(hj:j<=k)(hn:xs.contains c=true)(hc:Cls K (He.ga K c))(hm:(He.Fa.meth c m).ok K=true)(hf:((ft.lookup c).getD []).contains m=false)(hB:Binds K fd ps [])(F:FnOk P w K mg base (L2.CX P w) j (He.ma K (He.ga K c) m) fd ps (Vt K (nu w K xs ft) ps.length mm)):bY P w K mg base (nu w K xs ft) k c m (.q ps.length mm):=
 ⟨_,_,Cd hn,hc,He.meth_ok hm,(λz=>afR hf z),fd,ps,j,hj,rfl,hB,F⟩
theorem ame{c m:Str}{fd:FuncData}{ps:List Str}{j:Nat}{mm:Mo->List Dat->bB Dat}(hj:j<=k)(hn:xs.contains c=true)(hc:Cls K (He.ga K c))(hm:(He.Fa.meth c m).ok K=true)(hf:((ft.lookup c).getD []).contains m=false)(hB:Binds K fd ps [])(F:FnOk P w K mg base (L2.CX P w) j (He.ma K (He.ga K c) m) fd ps (Jc K (nu w K xs ft) ps.length mm)):bY P w K mg base (nu w K xs ft) k c m (.g ps.length mm):=
 ⟨_,_,Cd hn,hc,He.meth_ok hm,(λz=>afR hf z),fd,ps,j,hj,rfl,hB,F⟩
theorem akO{Ms:List (Str×List (Str×MV))}{xm:List (Str×List (Str×Bool))}{df:List (Str×Bool)}{xf:List (Str×List Str)}(hm:DQ P w K mg base (nu w K xs ft) k Ms)(hb:Ju K ft=true)(hx:xmB K xm=true)(hn:xmN xs xm=true)(hf:(xf.all λp=>xs.contains p.1&&TX K p.1 p.2)=true):Uc P w K mg base (nu w K xs ft) k ⟨Ms,ft,xm,df,xf⟩ where
 ms:=hm.get
 fk:=aeA
 co:=acH hb
 hw:=rfl
 xm:=alB hx hn
 xf:=λy fs hl=>by
  obtain⟨h1,h2⟩:=He.ba (aqB.mp hf _ (pN hl));obtain⟨_,_,_,h3,h4⟩:=S7 h2;exact⟨_,Cd h1,h3,h4⟩
end
abbrev lI(l:List Int):Dat:=.list (l.map PyData.int)
abbrev aH(l:List Int):Dat:=.tuple (l.map PyData.int)
theorem gR{tg:fM}{body:SF}{d:Dat}{ds:List Dat}{M M2:Mo}{Z Z1 Z2:Env}(h1:tg d Z=some Z1)(h2:body M Z1=.next Z2 M2):fB tg body (d::ds) M Z=fB tg body ds M2 Z2:=by
 rw[fB,h1]
 show(match body M Z1 with
   |.next Z2 M2=>fB tg body ds M2 Z2
   |.cont Z2 M2=>fB tg body ds M2 Z2
   |.brk Z2 M2=>.next Z2 M2
   |.ret d M2=>.ret d M2
   |.exc x Z2 M2=>.exc x Z2 M2
   |.bad=>.bad)=_
 rw[h2]
theorem gq{α:Type}{tg:fM}{tt:QT}{te:QF}{M:Mo}{Z:Env}(ds:α->Dat)(p:α->Bool)(f:α->Dat):∀(xs:List α),(∀x∈xs,∃Z1,tg (ds x) Z=some Z1/\tt M Z1=.ok (p x)/\(p x=true->te M Z1=.ok (f x)))->dG tg tt te M Z (xs.map ds)=.ok ((xs.filter p).map f)
 |[],_=>rfl
 |x::xs,h=>by
  obtain⟨Z1,h1,h2,h3⟩:=h x aqj;have ih:=gq ds p f xs λy hy=>h y (aqk _ hy);rw[aqh,dG,h1]
  show((xQ (tt M Z1)).bind λb=>if b=true then(xQ (te M Z1)).bind λy=>(dG tg tt te M Z (xs.map ds)).bind λr=>.ok (y::r) else dG tg tt te M Z (xs.map ds))=_
  rw[h2,ih];cases hp:p x with
  |true=>
   show(if true=true then(xQ (te M Z1)).bind λy=>(Out.ok ((xs.filter p).map f)).bind λr=>.ok (y::r) else Out.ok ((xs.filter p).map f))=_
   rw[h3 hp,if_pos rfl,List.filter_cons_of_pos hp];rfl
  |false=>
   show(if false=true then(xQ (te M Z1)).bind λy=>(Out.ok ((xs.filter p).map f)).bind λr=>.ok (y::r) else Out.ok ((xs.filter p).map f))=_
   rw[if_neg (by decide),List.filter_cons_of_neg (by rw[hp];decide)]
theorem eU{α:Type}{tg:fM}{te:QF}{M:Mo}{Z:Env}(ds:α->Dat)(f:α->Dat)(xs:List α)(h:∀x∈xs,∃Z1,tg (ds x) Z=some Z1/\te M Z1=.ok (f x)):dG tg gA te M Z (xs.map ds)=.ok (xs.map f):=by
 have:=gq (tt:=gA) ds (λ_=>true) f xs λx hx=>by
  obtain⟨Z1,h1,h2⟩:=h x hx;exact⟨Z1,h1,rfl,λ_=>h2⟩
 rw[this,List.filter_eq_self.mpr (λ_ _=>rfl)]
theorem aft{i j:Int}(h : -(2 ^ 64) < i/\i < 2 ^ 64):decide (CMul i j)=true:=decide_eq_true (.inl h)
theorem mul_r{i j:Int}(h : -(2 ^ 64) < j/\j < 2 ^ 64):decide (CMul i j)=true:=decide_eq_true (.inr h)
section
variable(M:Mo)(Z:Env)
@[simp]theorem ah0 (f k:SF):aD f k M Z=match f M Z with
 |.next Z' M'=>k M' Z'
 |o=>o:=rfl
@[simp]theorem am9:aN M Z=.next Z M:=rfl
@[simp]theorem apv (tg:fM) (f:GF):bh tg f M Z=(f M Z).then Z λd M'=>match tg d Z with
 |some Z'=>.next Z' M'
 |none=>.bad:=rfl
@[simp]theorem anf (i j:Nat) (f:GF):Pb i j f M Z=(f M Z).then Z λd M'=>.next ((Z.set i (some (.dat d))).set j (some (.dat d))) M':=rfl
@[simp]theorem ev_if (t:QT) (f k:SF):bQ t f k M Z=((t M (rE Z)).at M).then Z λc M'=>if c=true then f M' Z else k M' Z:=rfl
@[simp]theorem aoi (f:QF):aU f M Z=((f M (rE Z)).at M).then Z λd M'=>.ret d M':=rfl
@[simp]theorem apw (it:IF) (tg:fM) (body:SF):qm it tg body M Z=((it M Z).at M).then Z λds M'=>fB tg body ds M' Z:=rfl
@[simp]theorem ao5 (j:Nat) (f:IF):Ag j f M Z=((f M Z).at M).then Z λxs M'=>.next (Z.set j (some (.mut xs))) M':=rfl
@[simp]theorem anI (f:GF):cG f M Z=(f M Z).then Z λ_ M'=>.next Z M':=rfl
@[simp]theorem aou (j:Nat) (f:QF):Ao j f M Z=match Z[j]? with
 |some (some (.mut xs))=>((f M Z).at M).then Z λd M'=>if xs.length < 100000 then .next (Z.set j (some (.mut (xs++[d])))) M' else .bad
 |_=>.bad:=rfl
@[simp]theorem am3 (j:Nat) (fi f:QF):alb j fi f M Z=match Z[j]? with
 |some (some (.mut xs))=>((f M Z).at M).then Z λd M'=>((fi M' Z).at M').then Z λi M2=>match i with
  |.int k=>match ixN xs.length k with
   |some n=>.next (Z.set j (some (.mut (xs.set n d)))) M2
   |none=>.bad
  |_=>.bad
 |_=>.bad:=rfl
@[simp]theorem aos (j:Nat) (f:QF):yQ j f M Z=match Z[j]? with
 |some (some (.dat (.int i)))=>((f M Z).at M).then Z λd M'=>match d with
  |.int k=>.next (Z.set j (some (.dat (.int (i+k))))) M'
  |_=>.bad
 |_=>.bad:=rfl
@[simp]theorem ant (i j:Nat) (f:GF):WR i j f M Z=(f M Z).then Z λd M'=>match d with
 |.list (d0::ds)=>if ds.length<=16000 then .next ((Z.set i (some (.dat d0))).set j (some (.dat (.list ds)))) M' else .bad
 |.tuple (d0::ds)=>if ds.length<=16000 then .next ((Z.set i (some (.dat d0))).set j (some (.dat (.list ds)))) M' else .bad
 |_=>.bad:=rfl
@[simp]theorem ap6 (js:List Nat) (as:QA):sPN js as M Z=((as M Z).at M).then Z λds M'=>match ux js ds Z with
 |some Z'=>.next Z' M'
 |none=>.bad:=rfl
@[simp]theorem aod (f:QF):gOf f M Z=(f M Z).at M:=rfl
@[simp]theorem ev_op (o:Dat->Dat->Out Dat) (a b:QF):aA o a b M Z=(a M Z).bind λx=>(b M Z).bind λy=>o x y:=rfl
@[simp]theorem ev_un (o:Dat->Out Dat) (a:QF):eO o a M Z=(a M Z).bind o:=rfl
@[simp]theorem ev_c (d:Dat):qC d M Z=.ok d:=rfl
@[simp]theorem ev_var (i:Nat):aq i M Z=match Z[i]? with
 |some (some (.dat d))=>.ok d
 |_=>.bad:=rfl
@[simp]theorem anG (i:Nat):ao i M Z=match Z[i]? with
 |some (some (.dat d))=>.ok d
 |some (some (.mut xs))=>.ok (.list xs)
 |_=>.bad:=rfl
@[simp]theorem aoG:au M Z=.ok []:=rfl
@[simp]theorem anb (a:QF) (r:QA):ak a r M Z=(a M Z).bind λx=>(r M Z).bind λxs=>.ok (x::xs):=rfl
@[simp]theorem apr (r:QA):bK r M Z=(r M Z).bind λxs=>Out.when (decide (xs.length<=100000)) (.ok (.tuple xs)):=rfl
@[simp]theorem aoS (r:QA):uH r M Z=(r M Z).bind λxs=>Out.when (decide (xs.length<=100000)) (.ok (.list xs)):=rfl
@[simp]theorem aph (a:QF):iJ a M Z=(a M Z).bind HX:=rfl
@[simp]theorem ap0 (a:QF):aY a M Z=(a M Z).bind Ax:=rfl
@[simp]theorem anc (a:QT):jU a M Z=(a M Z).bind λb=>.ok (!b):=rfl
@[simp]theorem anq (a b:QT):jF a b M Z=(a M Z).bind λx=>if x=true then b M Z else .ok false:=rfl
@[simp]theorem aoD (a b:QT):yd a b M Z=(a M Z).bind λx=>if x=true then .ok true else b M Z:=rfl
@[simp]theorem apL (a:QT):Vm a M Z=(a M Z).bind λb=>.ok (.bool b):=rfl
@[simp]theorem aoC (t:QT) (a b:QF):Q6 t a b M Z=(t M Z).bind λx=>if x=true then a M Z else b M Z:=rfl
@[simp]theorem ev_is (neg:Bool) (c:Dat) (a:QF):xX neg c a M Z=(a M Z).bind λd=>.ok (.bool (neg ^^ mU c d)):=rfl
@[simp]theorem ev_notV (a:QF):QJ a M Z=((a M Z).bind Ax).bind λb=>.ok (.bool (!b)):=by
 show(((a M Z).bind Ax).bind λb=>Out.ok (!b)).bind (λb=>Out.ok (PyData.bool b))=_
 cases a M Z with
 |ok d=>cases h:Ax d<;>simp[Out.bind,h]
 |exc x=>rfl
 |bad=>rfl
@[simp]theorem ev_andV (a b:QF):wF a b M Z=(a M Z).bind λd=>(Ax d).bind λx=>if x=true then b M Z else .ok (.bool false):=rfl
@[simp]theorem ev_orV (a b:QF):aeB a b M Z=(a M Z).bind λd=>(Ax d).bind λx=>if x=true then .ok (.bool true) else b M Z:=rfl
@[simp]theorem alX (o o':Dat->Dat->Out Dat) (a b c:QF):nR o o' a b c M Z=(a M Z).bind λx=>(b M Z).bind λy=>(o x y).bind λz=>(Ax z).bind λk=>if k=true then(c M Z).bind λw=>(o' y w).bind Ax else .ok false:=rfl
@[simp]theorem anV (t:Mv) (a:QF):xg t a M Z=(a M Z).bind (yh t):=rfl
@[simp]theorem ap4 (a:QF) (lo hi:QO):QH a lo hi M Z=(a M Z).bind λd=>(lo M Z).bind λl=>(hi M Z).bind λh=>slD d l h:=rfl
@[simp]theorem ap2:CJ M Z=.ok none:=rfl
@[simp]theorem apM (a:QF):sS a M Z=(a M Z).bind λd=>(Am d).bind λi=>.ok (some i):=rfl
@[simp]theorem ev_call (m:Mo->List Dat->Out Dat) (as:QA):aV m as M Z=(as M Z).bind λds=>m M ds:=rfl
@[simp]theorem amN (a:QF):cV a M Z=(a M Z).bind nH:=rfl
@[simp]theorem alM (a:QF):Em a M Z=(a M Z).bind λd=>(Am d).bind λn=>Out.when (decide (n<=100000/\-100000<=n)) (.ok (pH 0 n.toNat)):=rfl
@[simp]theorem ani (k₀:Int) (a:QF):wu k₀ a M Z=(a M Z).bind λd=>(nH d).bind λds=>.ok (oR k₀ ds):=rfl
@[simp]theorem apm (a b:QF):Ef a b M Z=(a M Z).bind λd=>(b M Z).bind λe=>(nH d).bind λds=>(nH e).bind λes=>.ok (wL ds es):=rfl
@[simp]theorem anl (it:IF) (tg:fM) (vs:List Nat) (tt:QT) (te:QF):eE it tg vs tt te M Z=(it M Z).bind λds=>Out.when (decide (ds.length<=50000)) ((dG tg tt te M (cD Z vs) ds).bind λr=>.ok (.list r)):=rfl
@[simp]theorem amm (it:IF) (tg:fM) (vs:List Nat) (tt:QT) (te:QF):zP it tg vs tt te M Z=(it M Z).bind λds=>Out.when (decide (ds.length<=50000)) (dG tg tt te M (cD Z vs) ds):=rfl
@[simp]theorem aoK (f:QA):Kh f M Z=(f M Z).bind λxs=>Out.when (decide (xs.length<=100000)) (.ok xs):=rfl
@[simp]theorem akv (f:QF):aej f M Z=(f M Z).bind WQ:=rfl
@[simp]theorem alR (j:Nat) (d:Dat):aF j d Z=some (Z.set j (some (.dat d))):=rfl
@[simp]theorem amI (js:List Nat) (ds:List Dat):bA js (.tuple ds) Z=ux js ds Z:=rfl
@[simp]theorem apR (n:Nat) (b:SF) (ds:List Dat):mQ n b M ds=match b M (ini n ds) with
 |.ret d _=>.ok d
 |.next _ _=>.ok .none
 |.exc x _ _=>.exc x
 |_=>.bad:=rfl
@[simp]theorem apT (n:Nat) (b:SF) (ds:List Dat):mG n b M ds=match b M (ini n ds) with
 |.ret d M'=>.ok d M'
 |.next _ M'=>.ok .none M'
 |.exc x _ M'=>.exc x M'
 |_=>.bad:=rfl
end
section
variable(i j:Int)(ds es:List Dat)(b c:Bool)(x y:Str)
@[simp]theorem anN:fG (.int i) (.int j)=.ok (.int (i+j)):=rfl
@[simp]theorem anm:fG (.list ds) (.list es)=Out.when (decide (ds.length+es.length<=100000)) (.ok (.list (ds++es))):=rfl
@[simp]theorem amW:fG (.tuple ds) (.tuple es)=Out.when (decide (ds.length+es.length<=100000)) (.ok (.tuple (ds++es))):=rfl
@[simp]theorem aol:lE (.int i) (.int j)=.ok (.int (i - j)):=rfl
@[simp]theorem anT:wO (.int i) (.int j)=Out.when (decide (CMul i j)) (.ok (.int (i * j))):=rfl
@[simp]theorem aof:Oc (.int i) (.int j)=Out.when (decide (CDiv i j)) (.ok (.int (i / j))):=rfl
@[simp]theorem aoI:qu (.int i) (.int j)=Out.when (decide (0 < j)) (.ok (.int (i % j))):=rfl
@[simp]theorem aoX:Yy (.int i) (.int j)=Out.when (decide (CPow i j)) (.ok (.int (i ^ j.toNat))):=rfl
@[simp]theorem apP:M4 (.int i) (.int j)=.ok (.bool (decide (i < j))):=rfl
@[simp]theorem apY:uG (.int i) (.int j)=.ok (.bool (decide (i<=j))):=rfl
@[simp]theorem apW:W8 (.int i) (.int j)=.ok (.bool (decide (j < i))):=rfl
@[simp]theorem ap1:geD (.int i) (.int j)=.ok (.bool (decide (j<=i))):=rfl
@[simp]theorem aoQ:bR (.int i) (.int j)=.ok (.bool (i==j)):=rfl
@[simp]theorem apg:bR (.str x) (.str y)=.ok (.bool (x==y)):=rfl
@[simp]theorem aox:bR (.bool b) (.bool c)=.ok (.bool (b==c)):=rfl
@[simp]theorem aoz:vZ (.int i) (.int j)=.ok (.bool (!(i==j))):=rfl
@[simp]theorem apF:vZ (.str x) (.str y)=.ok (.bool (!(x==y))):=rfl
@[simp]theorem aob:Ol (.int i)=.ok (.int (-i)):=rfl
@[simp]theorem am4:HX (.bool b)=.ok b:=rfl
@[simp]theorem anF:HX (.list ds)=.ok (!ds.isEmpty):=rfl
@[simp]theorem am6:HX (.tuple ds)=.ok (!ds.isEmpty):=rfl
@[simp]theorem ao3:Ax (.bool b)=.ok b:=rfl
@[simp]theorem anD:oF (.list ds)=.ok (.int ds.length):=rfl
@[simp]theorem amU:oF (.tuple ds)=.ok (.int ds.length):=rfl
@[simp]theorem aoq:Tg (.int i)=.ok (.int (if i < 0 then -i else i)):=rfl
@[simp]theorem ev_max2:oJ (.int i) (.int j)=.ok (.int (if j > i then j else i)):=rfl
@[simp]theorem anH:HD (.int i) (.int j)=.ok (.int (if j < i then j else i)):=rfl
@[simp]theorem apA:aO (.list ds) (.int i)=match atI ds i with
  |some d=>.ok d
  |none=>.bad:=rfl
@[simp]theorem aoU:aO (.tuple ds) (.int i)=match atI ds i with
  |some d=>.ok d
  |none=>.bad:=rfl
@[simp]theorem amT:Am (.int i)=.ok i:=rfl
@[simp]theorem anS (lo hi:Option Int):slD (.list ds) lo hi=.ok (.list (cutD ds lo hi)):=rfl
@[simp]theorem an7 (lo hi:Option Int):slD (.tuple ds) lo hi=.ok (.tuple (cutD ds lo hi)):=rfl
@[simp]theorem ank:lA (.list ds)=.ok (.tuple ds):=rfl
@[simp]theorem anj:lA (.tuple ds)=.ok (.tuple ds):=rfl
@[simp]theorem ama:Ma (.list ds)=.ok (.list ds):=rfl
@[simp]theorem amv:Ma (.tuple ds)=.ok (.list ds):=rfl
@[simp]theorem aot:WQ (.list ds)=.ok ds:=rfl
@[simp]theorem apu:WQ (.tuple ds)=.ok ds:=rfl
@[simp]theorem apD:nH (.list ds)=.ok ds:=rfl
@[simp]theorem apE:nH (.tuple ds)=.ok ds:=rfl
@[simp]theorem am1 (o:Option Cell) (Z:Env):rE (o::Z)=o.map Rg::rE Z:=rfl
@[simp]theorem amw:rE []=[]:=rfl
@[simp]theorem amr (d:Dat):Rg (.dat d)=.dat d:=rfl
@[simp]theorem al1 (ds:List Dat):Rg (.mut ds)=.dat (.list ds):=rfl
@[simp]theorem anA (Z:Env):ux [] [] Z=some Z:=rfl
@[simp]theorem ana (j:Nat) (js:List Nat) (d:Dat) (Z:Env):ux (j::js) (d::ds) Z=ux js ds (Z.set j (some (.dat d))):=rfl
@[simp]theorem amG (Z:Env):cD Z []=Z:=rfl
@[simp]theorem ams (Z:Env) (j:Nat) (js:List Nat):cD Z (j::js)=(cD Z js).set j none:=rfl
@[simp]theorem alJ {α:Type} (a:α) (l:List α):atI (a::l) 0=some a:=atI_nat (j:=0) rfl
@[simp]theorem anO (n:Nat):ini n ds=ds.map (λd=>some (.dat d))++List.replicate (n - ds.length) none:=rfl
end
theorem aam{a b:String}:Str.ofString a=Str.ofString b↔a=b:=by
 constructor
 ·intro h;rw[Str.ofString_eq_toList,Str.ofString_eq_toList]at h;have h1:a.toList.map Char.toNat=b.toList.map Char.toNat:=by simpa using h
  have h2:a.toList=b.toList:=by
   refine List.map_inj_right (f:=Char.toNat) (λx y e=>?_) |>.mp h1
   exact Char.ext (UInt32.toNat_inj.mp e)
  exact String.toList_inj.mp h2
 ·rintro rfl;rfl
@[simp]theorem ao2 (a b:String):(Str.ofString a=Str.ofString b)=(a=b):=propext aam
@[simp]theorem anr (a b:String):(Str.ofString a==Str.ofString b)=decide (a=b):=by rw[aqX];simp[aam]
@[simp]theorem apV {α:Type} (a b:α) (l:List α):atI (a::b::l) 1=some b:=atI_nat (j:=1) rfl
@[simp]theorem ap5 {α:Type} (a b c:α) (l:List α):atI (a::b::c::l) 2=some c:=atI_nat (j:=2) rfl
@[simp]theorem apO {α:Type} (a b c d:α) (l:List α):atI (a::b::c::d::l) 3=some d:=atI_nat (j:=3) rfl
@[simp]theorem apS {α:Type} (a b c d e:α) (l:List α):atI (a::b::c::d::e::l) 4=some e:=atI_nat (j:=4) rfl
@[simp]theorem ap8 {α:Type} (a b c d e f:α) (l:List α):atI (a::b::c::d::e::f::l) 5=some f:=atI_nat (j:=5) rfl
@[simp]theorem apZ {α:Type} (a b c d e f g:α) (l:List α):atI (a::b::c::d::e::f::g::l) 6=some g:=atI_nat (j:=6) rfl
@[simp]theorem amS (s:String):PyData.strOk (Str.ofString s)=true:=by
 rw[Str.ofString_eq_toList];unfold PyData.strOk;simp only[Array.all_eq_true,ars];intro i h;simp only[List.getElem_toArray,List.getElem_map];have:=s.toList[i]'(by simpa using h) |>.valid
 rcases this with z|⟨_,z⟩
 ·show(s.toList[i]'(by simpa using h)).val.toNat < _
  omega
 ·show(s.toList[i]'(by simpa using h)).val.toNat < _
  omega
section
variable(i j:Int)(x y:Str)(d e:Dat)(ds es:List Dat)(b c:Bool)
@[simp]theorem Xa:PyData.eqv (.int i) (.int j)=(i==j):=by simp[PyData.eqv]
@[simp]theorem aoE:PyData.eqv (.str x) (.str y)=(x==y):=by simp[PyData.eqv]
@[simp]theorem aon:PyData.eqv (.bool b) (.bool c)=(b==c):=by simp[PyData.eqv]
@[simp]theorem apt:PyData.eqv .none .none=true:=by simp[PyData.eqv]
@[simp]theorem X6:PyData.eqv (.tuple ds) (.tuple es)=PyData.eqvAll ds es:=by simp[PyData.eqv]
@[simp]theorem aji:PyData.eqv (.list ds) (.list es)=PyData.eqvAll ds es:=by simp[PyData.eqv]
@[simp]theorem apz:PyData.eqv (.tuple ds) .none=false:=by simp[PyData.eqv]
@[simp]theorem anZ:PyData.eqv .none (.tuple ds)=false:=by simp[PyData.eqv]
@[simp]theorem anU:PyData.eqv (.str x) (.int i)=false:=by simp[PyData.eqv]
@[simp]theorem apI:PyData.eqv (.int i) (.str x)=false:=by simp[PyData.eqv]
@[simp]theorem agy:PyData.eqvAll [] []=true:=by simp[PyData.eqvAll]
@[simp]theorem am2:PyData.eqvAll [] (d::ds)=false:=by simp[PyData.eqvAll]
@[simp]theorem ahz:PyData.eqvAll (d::ds) []=false:=by simp[PyData.eqvAll]
@[simp]theorem Z5:PyData.eqvAll (d::ds) (e::es)=(PyData.eqv d e&&PyData.eqvAll ds es):=by simp[PyData.eqvAll]
end
@[simp]theorem zm:∀l m:List Int,PyData.eqvAll (l.map PyData.int) (m.map PyData.int)=decide (l=m)
 |[],[]=>by simp
 |[],_::_=>by simp
 |_::_,[]=>by simp
 |a::l,b::m=>by
  rw[aqh,aqh,Z5,zm l m,Xa];by_cases h:a=b<;>by_cases h2:l=m<;>simp[h,h2]
theorem BP{n:Nat}:∀{ds:List Dat},jY n ds=true↔∀d∈ds,okd n d=true
 |[]=>by simp[jY]
 |d::ds=>by simp[jY,BP (ds:=ds)]
@[simp]theorem agq (n:Nat) (i:Int):okd n (.int i)=true:=by simp[okd]
@[simp]theorem Uu (n:Nat) (l:List Int):jY n (l.map PyData.int)=true:=BP.mpr λd h=>by
 obtain⟨i,_,rfl⟩:=aqp.mp h;simp
def ob(h:Nat):Dat:=obj h
section
variable(M:Mo)(Z:Env)(h:Nat)(f:Str)
@[simp]theorem amY:Jq M f (ob h)=(M[h]?).bind λi=>i.fs.lookup f:=rfl
@[simp]theorem alU (tb:List (Str×MV)):DK tb M (ob h)=(M[h]?).bind λi=>tb.lookup i.cls:=rfl
@[simp]theorem Zg:jT M (ob h)=(M[h]?).bind λi=>match i.cls=="" with
 |true=>none
 |false=>some (h,i):=rfl
@[simp]theorem aoN (o:QF):gD f o M Z=(o M Z).bind λd=>match Jq M f d with
 |some (.dat x)=>.ok x
 |_=>.bad:=rfl
@[simp]theorem anC (o:QF):bL f o M Z=(o M Z).bind λd=>match Jq M f d with
 |some (.dat x)=>.ok x
 |some (.lst _ xs)=>.ok (.list xs)
 |_=>.bad:=rfl
@[simp]theorem anz (tb:List (Str×MV)) (o:QF) (as:QA):aR tb o as M Z=(o M Z).bind λd=>match DK tb M d with
 |some (.q _ m)=>(as M Z).bind λds=>m M (d::ds)
 |_=>.bad:=rfl
@[simp]theorem alW (tb:List (Str×MV)) (o:QF) (as:QA):cP tb o as M Z=((o M Z).at M).bind λd _=>match DK tb M d with
 |some (.q _ m)=>((as M Z).at M).bind λds _=>(m M (d::ds)).at M
 |some (.g _ m)=>((as M Z).at M).bind λds _=>m M (d::ds)
 |none=>.bad:=rfl
@[simp]theorem anu (x:Str) (m:Mo->List Dat->bB Dat) (as:QA):Ac x m as M Z=((as M Z).at M).bind λds _=>match m (M++[⟨x,[]⟩]) (ob M.length::ds) with
 |.ok .none M'=>.ok (ob M.length) M'
 |_=>.bad:=rfl
@[simp]theorem alT (m:Mo->List Dat->bB Dat) (as:QA):WL m as M Z=((as M Z).at M).bind λds _=>m M ds:=rfl
@[simp]theorem alS (m:Mo->List Dat->bB Dat) (as:GA):aiU m as M Z=(as M Z).bind λds M1=>m M1 ds:=rfl
@[simp]theorem alD (m:Mo->List Dat->Out Dat) (as:GA):ain m as M Z=(as M Z).bind λds M1=>(m M1 ds).at M1:=rfl
@[simp]theorem alK (a:GF) (r:GA):ajw a r M Z=(a M Z).bind λd M1=>(r M1 Z).bind λds M2=>.ok (d::ds) M2:=rfl
@[simp]theorem anx (t:QT):afk t M Z=(t M Z).at M:=rfl
@[simp]theorem amE (a:GT):alk a M Z=(a M Z).bind λb M1=>.ok (!b) M1:=rfl
@[simp]theorem al0 (a b:GT):akK a b M Z=(a M Z).bind λx M1=>if x=true then b M1 Z else .ok false M1:=rfl
@[simp]theorem anJ (a b:GT):al8 a b M Z=(a M Z).bind λx M1=>if x=true then .ok true M1 else b M1 Z:=rfl
@[simp]theorem amu (a:GF):ala a M Z=(a M Z).bind λd M1=>(HX d).at M1:=rfl
@[simp]theorem amn (x:Str):eV x M Z=.exc ⟨x,[]⟩ Z M:=rfl
@[simp]theorem alL (x:Str) (fs:List Str) (as:QA):Bt x fs as M Z=((as M Z).at M).then Z λds M'=>.exc ⟨x,(fs.zip ds).reverse⟩ Z M':=rfl
@[simp]theorem aog (b:SF) (hs:List Hd):Zh b hs M Z=match b M Z with
 |.exc x Z' M'=>hdl hs x Z' M'
 |o=>o:=rfl
@[simp]theorem anK (x:cY):hdl [] x Z M=.exc x Z M:=rfl
@[simp]theorem am5 (h:Hd) (r:List Hd) (x:cY):hdl (h::r) x Z M=match h.tk x.cls with
  |some true=>match abf Z h.nm with
   |true=>match Di h.y x h.st (RD Z h.nm) with
    |some Z2=>.next (RD Z2 h.nm) M
    |none=>.bad
   |false=>.bad
  |some false=>hdl r x Z M
  |none=>.bad:=rfl
@[simp]theorem anw:RD Z none=Z:=rfl
@[simp]theorem amZ (i:Nat):RD Z (some i)=Z.set i none:=rfl
@[simp]theorem alY:abf Z none=true:=rfl
@[simp]theorem alZ (i:Nat):abf Z (some i)=decide (i < Z.length):=rfl
@[simp]theorem aoM (y:Str) (x:cY):Di y x [] Z=some Z:=rfl
@[simp]theorem apj (y:Str) (x:cY) (j:Nat) (e:CV) (r:List (Nat×CV)):Di y x ((j,e)::r) Z=(Nt y x e).bind λd=>Di y x r (Z.set j (some (.dat d))):=rfl
@[simp]theorem an0 (y:Str) (x:cY) (d:Dat):Nt y x (.con d)=some d:=rfl
@[simp]theorem ane (g:GF):gW g M Z=(g M Z).then Z λd M'=>.ret d M':=rfl
@[simp]theorem ao4 (t:GT) (f k:SF):aml t f k M Z=(t M Z).then Z λc M'=>if c=true then f M' Z else k M' Z:=rfl
@[simp]theorem alG (a b:QF):Bv a b M Z=(a M Z).bind λd=>(b M Z).bind λe=>(Am d).bind λlo=>(Am e).bind λn=>Out.when (decide (n<=100000/\-100000<=n/\lo<=100000/\-100000<=lo)) (.ok (pH lo (n - lo).toNat)):=rfl
@[simp]theorem amV (ft:Ft) (o:QF) (e:GF):ug ft o f e M Z=(e M Z).then Z λd M1=>((o M1 Z).at M1).then Z λod M2=>match jT M2 od with
 |some (h,i)=>match ft.has i.cls f&&decide (i.fs.length < 100) with
  |true=>.next Z (M2.set h (i.put f (.dat d)))
  |false=>.bad
 |none=>.bad:=rfl
@[simp]theorem anL (ft:Ft) (o:QF) (e:IF):Dt ft o f e M Z=((e M Z).at M).then Z λxs M0=>((o (M0++[⟨"",[]⟩]) Z).at (M0++[⟨"",[]⟩])).then Z λod M2=>match jT M2 od with
 |some (h,i)=>match ft.has i.cls f&&decide (i.fs.length < 100) with
  |true=>.next Z (M2.set h (i.put f (.lst M0.length xs)))
  |false=>.bad
 |none=>.bad:=rfl
@[simp]theorem amX (ft:Ft) (o:QF) (b:Bool):Lp ft o f b M Z=((o (M++[⟨"",[]⟩]) Z).at (M++[⟨"",[]⟩])).then Z λod M2=>match jT M2 od with
 |some (h,i)=>match ft.has i.cls f&&decide (i.fs.length < 100) with
  |true=>.next Z (M2.set h (i.put f (.dic b [])))
  |false=>.bad
 |none=>.bad:=rfl
@[simp]theorem am8 (ft:Ft) (o:QF) (e:Mo->Env->Out (List (Dat×Dat))):Rh ft o f e M Z=((e M Z).at M).then Z λkvs _=>((o (M++[⟨"",[]⟩]) Z).at (M++[⟨"",[]⟩])).then Z λod M2=>match jT M2 od with
 |some (h,i)=>match ft.has i.cls f&&decide (i.fs.length < 100) with
  |true=>.next Z (M2.set h (i.put f (.dic true kvs)))
  |false=>.bad
 |none=>.bad:=rfl
@[simp]theorem anB (o:QF) (e:GF):Dd f o e M Z=((o M Z).at M).then Z λod M0=>match Eb M0 f od with
 |some (_,_,n,_)=>(e M0 Z).then Z λd M1=>match Eb M1 f od with
  |some (h,i,n',xs)=>match n==n'&&decide (xs.length < 100000) with
   |true=>.next Z (M1.set h (i.put f (.lst n (xs++[d]))))
   |false=>.bad
  |none=>.bad
 |none=>.bad:=rfl
@[simp]theorem anp (o fi e:QF):PN f o fi e M Z=((e M Z).at M).then Z λd _=>((o M Z).at M).then Z λod _=>match Eb M f od with
 |some (h,i,n,xs)=>((fi M Z).at M).then Z λk _=>match k with
  |.int k=>match ixN xs.length k with
   |some j=>.next Z (M.set h (i.put f (.lst n (xs.set j d))))
   |none=>.bad
  |_=>.bad
 |none=>.bad:=rfl
@[simp]theorem ano (ft:Ft) (o e:QF):QZ ft f o e M Z=((o M Z).at M).then Z λod _=>match jT M od with
 |some (h,i)=>match i.fs.lookup f,ft.has i.cls f&&decide (i.fs.length < 100) with
  |some (.dat (.int a)),true=>((e M Z).at M).then Z λd _=>match d with
   |.int b=>.next Z (M.set h (i.put f (.dat (.int (a+b)))))
   |_=>.bad
  |_,_=>.bad
 |none=>.bad:=rfl
theorem ahs(d:Dat):Eb M f d=(jT M d).bind λp=>match p.2.fs.lookup f with
 |some (.lst n xs)=>some (p.1,p.2,n,xs)
 |_=>none:=rfl
@[simp]theorem anM:Eb M f (ob h)=(M[h]?).bind λi=>match i.cls=="" with
 |true=>none
 |false=>match i.fs.lookup f with
  |some (.lst n xs)=>some (h,i,n,xs)
  |_=>none:=by
 rw[ahs,Zg];cases M[h]? with
 |none=>rfl
 |some i=>
  show(match i.cls=="" with
   |true=>none
   |false=>some (h,i)).bind _=(match i.cls=="" with
   |true=>none
   |false=>_)
  cases i.cls==""<;>rfl
@[simp]theorem anE (i:Inst) (x:iV):i.put f x=⟨i.cls,putL f x i.fs⟩:=rfl
@[simp]theorem apK (x:iV):putL f x []=[(f,x)]:=rfl
@[simp]theorem ap3 (x y:iV) (g:Str) (r:List (Str×iV)):putL f x ((g,y)::r)=if g=f then(g,x)::r else(g,y)::putL f x r:=rfl
@[simp]theorem anv (ft:Ft) (c:Str):Ft.has ft c f=match ft.lookup c with
 |some fs=>fs.contains f
 |none=>false:=rfl
@[simp]theorem anh:yC M f (ob h)=(M[h]?).bind λi=>match i.cls=="" with
 |true=>none
 |false=>match i.fs.lookup f with
  |some (.dic b kvs)=>some (h,i,b,kvs)
  |_=>none:=by
 show(jT M (ob h)).bind _=_
 rw[Zg];cases M[h]? with
 |none=>rfl
 |some i=>
  show(match i.cls=="" with
   |true=>none
   |false=>some (h,i)).bind _=(match i.cls=="" with
   |true=>none
   |false=>_)
  cases i.cls==""<;>rfl
@[simp]theorem aor (neg:Bool) (k o:QF):Ou neg f k o M Z=(k M Z).bind λd=>(o M Z).bind λod=>match yC M f od with
 |some (_,_,b,kvs)=>(dhas b kvs d).bind λr=>.ok (.bool (neg ^^ r))
 |none=>.bad:=rfl
@[simp]theorem am0 (o k e:QF):LQ f o k e M Z=((e M Z).at M).then Z λv _=>((o M Z).at M).then Z λod _=>match yC M f od with
 |some (h,i,b,kvs)=>((k M Z).at M).then Z λd _=>match dhas b kvs d,decide (kvs.length < 100000) with
  |.ok false,true=>.next Z (M.set h (i.put f (.dic b (kvs++[(d,v)]))))
  |_,_=>.bad
 |none=>.bad:=rfl
@[simp]theorem ang (o k:QF):Ls f o k M Z=((o M Z).at M).then Z λod _=>match yC M f od with
 |some (h,i,b,kvs)=>((k M Z).at M).then Z λd _=>match dhas b kvs d,decide (kvs.length<=100000) with
  |.ok true,true=>.next Z (M.set h (i.put f (.dic b (kvs.filter λp=>!PyData.eqv p.1 d))))
  |_,_=>.bad
 |none=>.bad:=rfl
@[simp]theorem amd (o:QF):BR f o M Z=(o M Z).bind λod=>match yC M f od with
 |some (_,_,true,kvs)=>.ok (kvs.map (·.1))
 |_=>.bad:=rfl
@[simp]theorem al9 (o:QF):Cm f o M Z=(o M Z).bind λod=>match yC M f od with
 |some (_,_,_,kvs)=>.ok (.list (kvs.map (·.1)))
 |none=>.bad:=rfl
@[simp]theorem ap7 (it:IF) (tg:fM) (vs:List Nat) (tk:QF):qDc it tg vs tk M Z=(it M Z).bind λds=>Out.when (decide (ds.length<=50000)) (Df tg tk M (cD Z vs) ds []):=rfl
@[simp]theorem amx (kvs:List (Dat×Dat)) (i:Int):dhas false kvs (.int i)=.ok (kvs.any λp=>PyData.eqv p.1 (.int i)):=rfl
@[simp]theorem apd (neg:Bool) (kvs:List (Str×Dat)) (k:QF):TJ neg kvs k M Z=(k M Z).bind λd=>match d with
 |.str x=>.ok (.bool (neg ^^ (kvs.lookup x).isSome))
 |_=>.bad:=rfl
@[simp]theorem ao8 (kvs:List (Str×Dat)) (k:QF):abE kvs k M Z=(k M Z).bind λd=>match d with
 |.str x=>match kvs.lookup x with
  |some y=>.ok y
  |none=>.bad
 |_=>.bad:=rfl
@[simp]theorem amO (it:IF) (tg:fM) (vs:List Nat) (tt:QT) (it1:IF) (tg1:fM) (vs1:List Nat) (tt1:QT) (te:QF):Cg it tg vs tt it1 tg1 vs1 tt1 te M Z=((it M Z).bind λds=>(gQ tg tt it1 tg1 vs1 tt1 te M (cD Z vs) ds).bind λr=>Out.when (decide (r.length<=50000)) (.ok r)).bind λr=>.ok (.list r):=rfl
@[simp]theorem alN (it:IF) (tg:fM) (vs:List Nat) (tt:QT) (te:QF):ahF it tg vs tt te M Z=((it M Z).bind λds=>Out.when (decide (ds.length<=50000)) (dG tg tt te M (cD Z vs) ds)).bind λds=>match intsOf ds with
 |some l=>Out.when (decide (l.length<=4000)) (.ok (.list ((afu l).map PyData.int)))
 |none=>.bad:=rfl
@[simp]theorem alH {α:Type} (k g:Str) (y:α) (r:List (Str×α)):List.lookup k ((g,y)::r)=if k=g then some y else List.lookup k r:=by
 rw[aqG];by_cases e:k=g
 ·subst e;simp
 ·have:(k==g)=false:=by simpa using e
  rw[this,if_neg e]
end
end Rf
namespace Pr
open PySem PySem.Spec PyProof.Rows L2 Evl Rf
def yD:SF:=
 (aD (Dt jQ (ao 0) "allowances" (Kh au))
 (Dt jQ (ao 0) "circles" (Kh au)))
def tM:=mG 1 yD
def Ae:SF:=
 (Lp jQ (ao 0) "held" true)
def uZ:=mG 1 Ae
def Ec:SF:=
 (Dt jQ (ao 0) "beasts" (Kh au))
def zf:=mG 1 Ec
def yP:SF:=
 (aD (ug jQ (ao 0) "owner_count" (gOf (qC (.int 0))))
 (aD (Lp jQ (ao 0) "holders" false)
 (aD (ug jQ (ao 0) "grounds" (Ac "Grounds" tM au))
 (aD (ug jQ (ao 0) "rights" (Ac "Rights" uZ au))
 (ug jQ (ao 0) "herd" (Ac "Herd" zf au))))))
def pJ:=mG 1 yP
def Rz:SF:=
 (aD (bh (aF 5) (gOf (aA qu (aA fG (aA fG (aA wO (ao 5) (qC (.int 48271))) (aA wO (qC (.int 9973)) (ao 4))) (qC (.int 11))) (qC (.int 2147483647)))))
 (Ao 3 (aA qu (aA Oc (ao 5) (qC (.int 1021))) (ao 2))))
def Tw:SF:=
 (aD (Ao 3 (aA qu (ao 0) (ao 2)))
 (bh (aF 0) (gOf (aA Oc (ao 0) (ao 2)))))
def aby:SF:=
 (aD (Ag 3 (Kh au))
 (aD (bh (aF 0) (gOf (eO Tg (ao 0))))
 (aD (bQ (aY (aA geD (ao 0) (aA Yy (qC (.int 10)) (qC (.int 18))))) (aD (qm (Em (ao 1)) (aF 4) Tw)
 (aU (aq 3))) aN)
 (aD (bh (aF 5) (gOf (aA qu (aA wO (aA fG (aA qu (ao 0) (qC (.int 1000003))) (qC (.int 17))) (qC (.int 69621))) (qC (.int 2147483647)))))
 (aD (qm (Em (ao 1)) (aF 4) Rz)
 (aU (aq 3)))))))
def yX:=mQ 6 aby
def N5:SF:=
 (aD (bQ (aY (aA bR (aA qu (ao 1) (qC (.int 4))) (qC (.int 1)))) (aU (eO lA (eE (cV (ao 0)) (aF 2) [2] gA (aA oJ (qC (.int 0)) (aA lE (ao 2) (qC (.int 7))))))) aN)
 (aD (bQ (aY (aA bR (aA qu (ao 1) (qC (.int 4))) (qC (.int 2)))) (aU (eO lA (eE (cV (ao 0)) (aF 2) [2] gA (aA qu (ao 2) (qC (.int 3)))))) aN)
 (aU (eO lA (ao 0)))))
def rP:=mQ 3 N5
def abK:SF:=
 (aD (bh (aF 1) (gOf (aV yX (ak (aq 0) (ak (qC (.int 7)) (ak (qC (.int 10)) au))))))
 (aU (aV rP (ak (QH (ao 1) CJ (sS (qC (.int 6)))) (ak (aA aO (ao 1) (qC (.int 6))) au)))))
def Qa:=mQ 2 abK
def DR:SF:=
 (aD (bQ (aY (aA bR (aA qu (ao 0) (qC (.int 8))) (qC (.int 7)))) (aU (uH au)) aN)
 (aD (bh (aF 1) (gOf (uH (ak (bK (ak (qC (.str "ground")) (ak (qC (.int 0)) (ak (qC (.int 0)) au)))) (ak (bK (ak (qC (.str "owner")) (ak (qC (.int 0)) (ak (qC (.int 0)) au)))) (ak (bK (ak (qC (.str "owner")) (ak (qC (.int 0)) (ak (qC (.int 0)) au)))) (ak (bK (ak (qC (.str "enrol")) (ak (qC (.int 0)) (ak (qC (.int 0)) au)))) (ak (bK (ak (qC (.str "enrol")) (ak (qC (.int 1)) (ak (qC (.int 0)) au)))) au))))))))
 (aD (bh (aF 1) (gOf (aA fG (ao 1) (uH (ak (bK (ak (qC (.str "bring")) (ak (qC (.int 0)) (ak (qC (.int 0)) au)))) (ak (bK (ak (qC (.str "cut")) (ak (qC (.int 0)) (ak (qC (.int 0)) au)))) (ak (bK (ak (qC (.str "bring")) (ak (qC (.int 1)) (ak (qC (.int 0)) au)))) (ak (bK (ak (qC (.str "cut")) (ak (qC (.int 1)) (ak (qC (.int 0)) au)))) (ak (bK (ak (qC (.str "ground")) (ak (qC (.int 0)) (ak (qC (.int 0)) au)))) (ak (bK (ak (qC (.str "enrol")) (ak (qC (.int 0)) (ak (qC (.int 1)) au)))) au))))))))))
 (aU (aq 1)))))
def uR:=mQ 2 DR
def Ko:SF:=
 (aD (bh (aF 1) (gOf (uH (ak (qC (.str "tear")) (ak (qC (.str "cut")) (ak (qC (.str "bring")) (ak (qC (.str "sell")) (ak (qC (.str "move")) (ak (qC (.str "enrol")) (ak (qC (.str "bear")) (ak (qC (.str "tear")) (ak (qC (.str "cut")) (ak (qC (.str "sell")) (ak (qC (.str "move")) (ak (qC (.str "unite")) (ak (qC (.str "part")) au))))))))))))))))
 (aD (bh (aF 1) (gOf (aA fG (ao 1) (uH (ak (qC (.str "heir")) (ak (qC (.str "pass")) (ak (qC (.str "die")) (ak (qC (.str "leave")) (ak (qC (.str "ground")) (ak (qC (.str "owner")) (ak (qC (.str "enrol")) (ak (qC (.str "tear")) (ak (qC (.str "sell")) (ak (qC (.str "bring")) (ak (qC (.str "bear")) (ak (qC (.str "cut")) au))))))))))))))))
 (aU (aA aO (ao 1) (aA qu (ao 0) (qC (.int 25)))))))
def vU:=mQ 2 Ko
def Oe:SF:=
 (aD (bh (aF 5) (gOf (aA aO (bK (ak (qC (.int 0)) (ak (qC (.int 0)) (ak (qC (.int 0)) (ak (qC (.int 0)) (ak (qC (.int 0)) (ak (qC (.int 1)) (ak (qC (.int 1)) (ak (qC (.int 2)) (ak (qC (.int 3)) (ak (eO Ol (qC (.int 1))) au))))))))))) (ao 4))))
 (Ao 2 (aA oJ (qC (.int 0)) (aA HD (qC (.int 9)) (aA fG (ao 3) (ao 5))))))
def Xh:SF:=
 (aD (Ag 2 (Kh au))
 (aD (qm (Ef (aq 0) (aq 1)) (bA [3,4]) Oe)
 (aU (eO lA (ao 2)))))
def Jp:=mQ 6 Xh
def KR:SF:=
 (aD (bQ (aY (aA M4 (ao 1) (qC (.int 4)))) (aU (aV Jp (ak (aq 2) (ak (aq 0) au)))) aN)
 (aU (aV rP (ak (aq 0) (ak (aq 1) au)))))
def v7:=mQ 3 KR
def WM:SF:=
 (aD (bQ (iJ (ao 2)) (aU (aA fG (qC (.int 1)) (aA qu (ao 0) (aA oJ (qC (.int 1)) (ao 1))))) aN)
 (aU (aA qu (ao 0) (aA fG (ao 1) (qC (.int 2))))))
def jG:=mQ 3 WM
def jK:SF:=
 (aD (bh (aF 6) (gOf (aA vZ (aA aO (ao 3) (qC (.int 6))) (qC (.int 9)))))
 (aD (bh (aF 7) (gOf (aV v7 (ak (QH (ao 3) (sS (qC (.int 8))) (sS (qC (.int 14)))) (ak (aA aO (ao 3) (qC (.int 7))) (ak (aq 5) au))))))
 (aD (bQ (aY (aA bR (ao 0) (qC (.str "owner")))) (aU (bK (ak (qC (.str "owner")) au))) aN)
 (aD (bQ (aY (aA bR (ao 0) (qC (.str "ground")))) (aU (bK (ak (qC (.str "ground")) (ak (aA fG (aA aO (bK (ak (qC (.int 0)) (ak (qC (.int 1)) (ak (qC (.int 2)) (ak (qC (.int 3)) (ak (qC (.int 0)) (ak (qC (.int 1)) (ak (qC (.int 5)) (ak (qC (.int 6)) (ak (qC (.int 7)) (ak (qC (.int 8)) au))))))))))) (aA aO (ao 3) (qC (.int 7)))) (aA wO (qC (.int 4)) (eO intD (QJ (ao 6))))) au)))) aN)
 (aD (bQ (jF (aY (aA bR (ao 0) (qC (.str "bring")))) (aY (aA M4 (aA aO (ao 3) (qC (.int 7))) (qC (.int 6))))) (bh (aF 7) (gOf (bK (ak (qC (.int 0)) (ak (qC (.int 0)) (ak (qC (.int 0)) (ak (qC (.int 0)) (ak (qC (.int 0)) (ak (qC (.int 0)) au))))))))) aN)
 (aD (bQ (yd (aY (aA bR (ao 0) (qC (.str "enrol")))) (aY (aA bR (ao 0) (qC (.str "bring"))))) (aU (bK (ak (aq 0) (ak (aV jG (ak (aq 1) (ak (aA aO (ao 4) (qC (.int 0))) (ak (aq 6) au)))) (ak (aV jG (ak (aq 2) (ak (aA aO (ao 4) (qC (.int 1))) (ak (aq 6) au)))) (ak (aq 7) au)))))) aN)
 (aD (bQ (aY (aA bR (ao 0) (qC (.str "leave")))) (aU (bK (ak (aq 0) (ak (aV jG (ak (aq 1) (ak (aA aO (ao 4) (qC (.int 0))) (ak (aq 6) au)))) (ak (aV jG (ak (aq 2) (ak (aA aO (ao 4) (qC (.int 1))) (ak (aq 6) au)))) au))))) aN)
 (aD (bQ (aY (aA bR (ao 0) (qC (.str "heir")))) (aU (bK (ak (aq 0) (ak (aV jG (ak (aq 1) (ak (aA aO (ao 4) (qC (.int 0))) (ak (aq 6) au)))) (ak (aV jG (ak (aq 2) (ak (aA aO (ao 4) (qC (.int 1))) (ak (aq 6) au)))) (ak (aA qu (aA aO (ao 3) (qC (.int 7))) (qC (.int 4))) au)))))) aN)
 (aD (bQ (aY (aA bR (ao 0) (qC (.str "pass")))) (aU (bK (ak (aq 0) (ak (aV jG (ak (aq 1) (ak (aA aO (ao 4) (qC (.int 0))) (ak (aq 6) au)))) (ak (aV jG (ak (aq 2) (ak (aA aO (ao 4) (qC (.int 0))) (ak (aq 6) au)))) au))))) aN)
 (aD (bQ (aY (aA bR (ao 0) (qC (.str "unite")))) (aU (bK (ak (aq 0) (ak (aV jG (ak (aq 1) (ak (aA aO (ao 4) (qC (.int 1))) (ak (aq 6) au)))) (ak (aV jG (ak (aq 2) (ak (aA aO (ao 4) (qC (.int 1))) (ak (aq 6) au)))) au))))) aN)
 (aD (bQ (aY (aA bR (ao 0) (qC (.str "part")))) (aU (bK (ak (aq 0) (ak (aV jG (ak (aq 1) (ak (aA aO (ao 4) (qC (.int 1))) (ak (aq 6) au)))) au)))) aN)
 (aD (bQ (aY (aA bR (ao 0) (qC (.str "tear")))) (aU (bK (ak (aq 0) (ak (aV jG (ak (aq 1) (ak (aA aO (ao 4) (qC (.int 2))) (ak (aq 6) au)))) (ak (aA qu (aA aO (ao 3) (qC (.int 7))) (qC (.int 6))) au))))) aN)
 (aD (bQ (aY (aA bR (ao 0) (qC (.str "sell")))) (aU (bK (ak (aq 0) (ak (aV jG (ak (aq 1) (ak (aA aO (ao 4) (qC (.int 2))) (ak (aq 6) au)))) (ak (aV jG (ak (aq 2) (ak (aA aO (ao 4) (qC (.int 0))) (ak (aq 6) au)))) au))))) aN)
 (aD (bQ (aY (aA bR (ao 0) (qC (.str "move")))) (aU (bK (ak (aq 0) (ak (aV jG (ak (aq 1) (ak (aA aO (ao 4) (qC (.int 2))) (ak (aq 6) au)))) (ak (aV jG (ak (aq 2) (ak (aA aO (ao 4) (qC (.int 1))) (ak (aq 6) au)))) au))))) aN)
 (aU (bK (ak (aq 0) (ak (aV jG (ak (aq 1) (ak (aA aO (ao 4) (qC (.int 2))) (ak (aq 6) au)))) au))))))))))))))))))
def fV:=mQ 8 jK
def GX:SF:=
 (aD (bh (aF 8) (gOf (aV yX (ak (aq 7) (ak (qC (.int 14)) (ak (qC (.int 10)) au))))))
 (aD (bh (aF 9) (gOf (aV vU (ak (aA fG (aA wO (aA aO (ao 8) (qC (.int 0))) (qC (.int 10))) (aA aO (ao 8) (qC (.int 1)))) au))))
 (aD (bh (aF 10) (gOf (aA fG (aA wO (aA aO (ao 8) (qC (.int 2))) (qC (.int 10))) (aA aO (ao 8) (qC (.int 3))))))
 (aD (bh (aF 11) (gOf (aA fG (aA wO (aA aO (ao 8) (qC (.int 4))) (qC (.int 10))) (aA aO (ao 8) (qC (.int 5))))))
 (aD (bQ (aY (aA M4 (ao 6) (eO oF (ao 4)))) (bh (bA [9,10,11]) (gOf (aA aO (ao 4) (ao 6)))) aN)
 (aD (bh (bA [12,13,14]) (gOf (aq 2)))
 (aD (Ao 5 (aV fV (ak (aq 9) (ak (aq 10) (ak (aq 11) (ak (aq 8) (ak (aq 2) (ak (aq 3) au))))))))
 (aD (bQ (aY (aA bR (ao 9) (qC (.str "owner")))) (yQ 12 (qC (.int 1))) aN)
 (aD (bQ (aY (aA bR (ao 9) (qC (.str "ground")))) (yQ 13 (qC (.int 1))) aN)
 (aD (bQ (yd (aY (aA bR (ao 9) (qC (.str "bring")))) (aY (aA bR (ao 9) (qC (.str "bear"))))) (yQ 14 (qC (.int 1))) aN)
 (bh (aF 2) (gOf (bK (ak (aq 12) (ak (aq 13) (ak (aq 14) au))))))))))))))))
def Xp:SF:=
 (aD (bh (aF 2) (gOf (bK (ak (qC (.int 0)) (ak (qC (.int 0)) (ak (qC (.int 0)) au))))))
 (aD (bh (aF 3) (gOf (aV Qa (ak (aA Oc (ao 1) (qC (.int 512))) au))))
 (aD (bh (aF 4) (gOf (aV uR (ak (aq 1) au))))
 (aD (Ag 5 (Kh au))
 (aD (qm (wu 0 (aq 0)) (bA [6,7]) GX)
 (aU (aq 5)))))))
def JX:=mQ 15 Xp
def Aa:SF:=
 (aU (bK (ak (gD "owner" (ao 0)) (ak (gD "ground" (ao 0)) (ak (gD "due" (ao 0)) (ak (gD "ear" (ao 0)) (ak (gD "alive" (ao 0)) au)))))))
def vm:=mQ 1 Aa
def lN:List (Str×MV):=[("Beast",.q 1 vm)]
def CN:SF:=
 (aU (aA fG (aR lN (ao 0) au) (bK (ak (gD "mother" (ao 0)) (ak (eO lA (bL "story" (ao 0))) au)))))
def wX:=mQ 1 CN
def vA:SF:=
 (aU (Cm "holders" (ao 0)))
def qp:=mQ 1 vA
def uJ:SF:=
 (aU (Cm "held" (ao 0)))
def oK:=mQ 1 uJ
def tR:SF:=
 (aU (eO oF (bL "allowances" (ao 0))))
def oY:=mQ 1 tR
def eX:List (Str×MV):=[("Grounds",.q 1 oY)]
def Af:SF:=
 (aU (Vm (nR uG uG (qC (.int 1)) (ao 1) (aR eX (ao 0) au))))
def vf:=mQ 2 Af
def yK:List (Str×MV):=[("Grounds",.q 2 vf)]
def yI:SF:=
 (bQ (jU (iJ (aR yK (ao 0) (ak (aq 1) au)))) (eV "NoGround") aN)
def uz:=mQ 2 yI
def aG:List (Str×MV):=[("Grounds",.q 2 uz)]
def mJ:SF:=
 (aD (cG (gOf (aR aG (ao 0) (ak (aq 1) au))))
 (aU (aA aO (bL "allowances" (ao 0)) (aA lE (ao 1) (qC (.int 1))))))
def jH:=mQ 2 mJ
def oA:SF:=
 (aD (cG (gOf (aR aG (ao 0) (ak (aq 1) au))))
 (aU (eO Ma (aA aO (bL "circles" (ao 0)) (aA lE (ao 1) (qC (.int 1)))))))
def j5:=mQ 2 oA
def bF:List (Str×MV):=[("Grounds",.q 2 j5)]
def nO:SF:=
 (aU (aR bF (bL "grounds" (ao 0)) (ak (aq 1) au)))
def kh:=mQ 2 nO
def sH:List (Str×MV):=[("Rights",.q 1 oK)]
def uK:List (Str×MV):=[("Commons",.q 1 qp)]
def u5:List (Str×MV):=[("Beast",.q 1 wX)]
def bT:List (Str×MV):=[("Commons",.q 2 kh)]
def dX:List (Str×MV):=[("Grounds",.q 2 jH)]
def yx:SF:=
 (aD (bh (aF 1) (gOf (eE (Bv (qC (.int 1)) (aA fG (aR eX (bL "grounds" (ao 0)) au) (qC (.int 1)))) (aF 3) [3] gA (bK (ak (aR dX (bL "grounds" (ao 0)) (ak (aq 3) au)) (ak (eO lA (aR bT (ao 0) (ak (aq 3) au))) au))))))
 (aD (bh (aF 2) (gOf (eE (cV (bL "beasts" (bL "herd" (ao 0)))) (aF 4) [4] gA (aR u5 (ao 4) au))))
 (aU (bK (ak (aR uK (ao 0) au) (ak (aq 1) (ak (aR sH (bL "rights" (ao 0)) au) (ak (aq 2) au))))))))
def pB:=mQ 5 yx
def lF:SF:=
 (bQ (aY (Ou true "holders" (aq 1) (ao 0))) (eV "NoOwner") aN)
def jm:=mQ 2 lF
def yc:SF:=
 (aU (eE (BR "held" (ao 0)) (bA [3,4,5]) [3,4,5] (jF (aY (aA bR (ao 3) (ao 1))) (aY (aA bR (ao 4) (ao 2)))) (aq 5)))
def uh:=mQ 6 yc
def cJ:List (Str×MV):=[("Rights",.q 3 uh)]
def rQ:SF:=
 (aU (aA W8 (eO oF (aR cJ (ao 0) (ak (aq 1) (ak (aq 2) au)))) (qC (.int 0))))
def ni:=mQ 3 rQ
def qT:List (Str×MV):=[("Rights",.q 3 ni)]
def pX:SF:=
 (bQ (jU (iJ (aR qT (bL "rights" (ao 0)) (ak (aq 1) (ak (aq 2) au))))) (eV "NoRight") aN)
def lG:=mQ 3 pX
def rF:SF:=
 (aD (QZ jQ "owner_count" (ao 0) (qC (.int 1)))
 (aD (LQ "holders" (ao 0) (gD "owner_count" (ao 0)) (qC (.bool true)))
 (aU (gD "owner_count" (ao 0)))))
def ig:=mG 1 rF
def oE:SF:=
 (aD (bh (aF 4) (gOf (bK (ak (aq 1) (ak (aq 2) (ak (aq 3) au))))))
 (aD (bQ (aY (Ou false "held" (aq 4) (ao 0))) (eV "HasRight") aN)
 (LQ "held" (ao 0) (aq 4) (qC (.bool true)))))
def iY:=mG 5 oE
def BX:SF:=
 (bh (aF 2) (gOf (Cg (cV (ao 2)) (bA [4,5]) [4,5,6] gA (Bv (ao 3) (aA fG (aA HD (aA fG (ao 3) (ao 5)) (qC cR)) (qC (.int 1)))) (aF 6) [6] gA (bK (ak (aA fG (ao 4) (bK (ak (aq 6) au))) (ak (aA lE (ao 5) (aA lE (ao 6) (ao 3))) au))))))
def Yw:SF:=
 (aD (bh (aF 2) (gOf (uH (ak (bK (ak (bK au) (ak (aq 1) au))) au))))
 (aD (qm (cV (aq 0)) (aF 3) BX)
 (aU (eE (cV (ao 2)) (bA [4,5]) [4,5] gA (aq 4)))))
def Jv:=mQ 7 Yw
def Rv:SF:=
 (aU (eO Ue (eE (Ef (ao 0) (ao 1)) (bA [2,3]) [2,3] (aY (aA W8 (ao 3) (ao 2))) (aA lE (ao 3) (ao 2)))))
def tZ:=mQ 4 Rv
def Ed:SF:=
 (aU (eE (cV (aV Jv (ak (aq 0) (ak (aq 1) au)))) (aF 2) [2] (aY (aA bR (aV tZ (ak (aq 0) (ak (aq 2) au))) (ao 1))) (aq 2)))
def uP:=mQ 3 Ed
def R7:SF:=
 (aU (aA oJ (aV tZ (ak (aq 0) (ak (aq 1) au))) (aV tZ (ak (aq 1) (ak (aq 0) au)))))
def Fd:=mQ 2 R7
def W7:SF:=
 (aU (aA uG (aV Fd (ak (aq 0) (ak (aq 1) au))) (ao 2)))
def qL:=mQ 3 W7
def jO:SF:=
 (bQ (jU (iJ (eO Ox (eE (cV (ao 2)) (bA [5,6]) [5,6] gA (aV qL (ak (aq 4) (ak (aq 6) (ak (aq 3) au)))))))) (aU (aq 4)) aN)
def wN:SF:=
 (aD (qm (cV (aV uP (ak (aq 0) (ak (aq 1) au)))) (aF 4) jO)
 (eV "NoneFree"))
def pG:=mQ 7 wN
def pW:SF:=
 (aU (aA aO (aR cJ (bL "rights" (ao 0)) (ak (aq 1) (ak (aq 2) au))) (qC (.int 0))))
def lH:=mQ 3 pW
def Nz:SF:=
 (aU (eO Px (ao 0)))
def pQ:=mQ 1 Nz
def uN:SF:=
 (aU (eE (wu 1 (bL "beasts" (ao 0))) (bA [1,2]) [1,2] (iJ (bL "alive" (ao 2))) (bK (ak (aq 1) (ak (aq 2) au)))))
def oM:=mQ 3 uN
def dY:List (Str×MV):=[("Herd",.q 1 oM)]
def yg:SF:=
 (aU (eE (cV (aR dY (ao 0) au)) (bA [2,3]) [2,3] (aY (aA (inD false) (bL "ground" (ao 3)) (ao 1))) (bK (ak (aq 2) (ak (aq 3) au)))))
def oX:=mQ 4 yg
def qW:SF:=
 (aU (eE (BR "held" (ao 0)) (bA [2,3,4]) [2,3,4] (aY (aA (inD false) (ao 3) (ao 1))) (bK (ak (aq 2) (ak (aq 4) au)))))
def mH:=mQ 5 qW
def qj:List (Str×MV):=[("Rights",.q 2 mH)]
def jr:List (Str×MV):=[("Herd",.q 2 oX)]
def jR:SF:=
 (aD (bh (aF 3) (gOf (aR bT (ao 0) (ak (aq 2) au))))
 (aD (bh (aF 4) (gOf (eE (cV (aR jr (bL "herd" (ao 0)) (ak (aq 3) au))) (bA [5,6]) [5,6] (jF (aY (xX true .none (bL "due" (ao 6)))) (aY (aA vZ (ao 5) (ao 1)))) (bK (ak (gD "owner" (ao 6)) (ak (gD "due" (ao 6)) au))))))
 (aU (aV pQ (ak (aA fG (aR qj (bL "rights" (ao 0)) (ak (aq 3) au)) (ao 4)) au)))))
def iD:=mQ 7 jR
def cZ:List (Str×MV):=[("Commons",.q 3 iD)]
def nJ:SF:=
 (aU (aR cZ (ao 0) (ak (qC (.int 0)) (ak (aq 1) au))))
def j9:=mQ 2 nJ
def uf:SF:=
 (aU (eO maxD (eE (cV (aR bF (ao 0) (ak (aq 1) au))) (aF 2) [2] gA (aR dX (ao 0) (ak (aq 2) au)))))
def oZ:=mQ 3 uf
def rG:List (Str×MV):=[("Grounds",.q 2 oZ)]
def uD:SF:=
 (aU (aR rG (bL "grounds" (ao 0)) (ak (aq 1) au)))
def pF:=mQ 2 uD
def iw:List (Str×MV):=[("Rights",.g 4 iY)]
def gM:List (Str×MV):=[("Commons",.g 1 ig)]
def cC:List (Str×MV):=[("Commons",.q 2 pF)]
def cH:List (Str×MV):=[("Commons",.q 2 j9)]
def bV:List (Str×MV):=[("Commons",.q 3 lH)]
def aK:List (Str×MV):=[("Commons",.q 3 lG)]
def aC:List (Str×MV):=[("Commons",.q 2 jm)]
def dR:SF:=
 (aD (cG (gOf (aR aC (ao 0) (ak (aq 1) au))))
 (aD (cG (gOf (aR aG (bL "grounds" (ao 0)) (ak (aq 2) au))))
 (aD (bQ (jU (nR uG uG (qC iU) (ao 3) (qC j7))) (eV "BadExtra") aN)
 (aD (cG (gOf (aR aK (ao 0) (ak (aq 1) (ak (aq 2) au)))))
 (aD (bh (aF 4) (gOf (aV pG (ak (aR bV (ao 0) (ak (aq 1) (ak (aq 2) au))) (ak (aq 3) (ak (aR cH (ao 0) (ak (aq 2) au)) (ak (aR cC (ao 0) (ak (aq 2) au)) au)))))))
 (aD (bh (aF 5) (cP gM (ao 0) au))
 (aD (cG (cP iw (bL "rights" (ao 0)) (ak (aq 5) (ak (aq 2) (ak (aq 4) au)))))
 (aU (bK (ak (aq 5) (ak (aq 4) au)))))))))))
def cW:=mG 6 dR
def jy:SF:=
 (aD (bQ (jU (nR uG uG (qC (.int 0)) (ao 1) (qC gK))) (eV "BadAllowance") aN)
 (aD (Dd "allowances" (ao 0) (gOf (aq 1)))
 (aD (Dd "circles" (ao 0) (gOf (bK (ak (aR eX (ao 0) au) au))))
 (aU (aR eX (ao 0) au)))))
def eZ:=mG 2 jy
def kJ:List (Str×MV):=[("Grounds",.g 2 eZ)]
def lC:SF:=
 (gW (cP kJ (bL "grounds" (ao 0)) (ak (aq 1) au)))
def gG:=mG 2 lC
def K7:SF:=
 (aU (eE (cV (aV pQ (ak (aq 2) au))) (bA [4,5]) [4,5] (jF (aY (aA vZ (ao 4) (ao 0))) (iJ (aV qL (ak (aq 1) (ak (aq 5) (ak (aq 3) au)))))) (bK (ak (aq 4) (ak (aq 5) au)))))
def zK:=mQ 6 K7
def R9:SF:=
 (aU (eO lA (eE (Ef (ao 0) (ao 1)) (bA [2,3]) [2,3] gA (aA oJ (ao 2) (ao 3)))))
def pA:=mQ 4 R9
def Bp:SF:=
 (aD (bh (aF 4) (gOf (aV zK (ak (aq 0) (ak (aq 1) (ak (aq 2) (ak (aq 3) au)))))))
 (bQ (iJ (ao 4)) (aD (bh (bA [5,6]) (gOf (aA aO (ao 4) (qC (.int 0)))))
 (Bt "Clash" ["ones","others","ear"] (ak (bK (ak (aq 0) (ak (aq 1) au))) (ak (bK (ak (aq 5) (ak (aq 6) au))) (ak (aV pA (ak (aq 1) (ak (aq 6) au))) au))))) aN))
def ou:=mQ 7 Bp
def lJ:SF:=
 (cG (gOf (aV ou (ak (aq 1) (ak (aq 2) (ak (aR cH (ao 0) (ak (aq 3) au)) (ak (aR cC (ao 0) (ak (aq 3) au)) au)))))))
def gJ:=mQ 4 lJ
def GP:SF:=
 (aU (wF (aA bR (eO oF (ao 0)) (eO oF (qC iQ))) (eO Nk (eE (cV (ao 0)) (aF 1) [1] gA (Vm (nR uG uG (qC (.int 0)) (ao 1) (qC cR)))))))
def tL:=mQ 2 GP
def GJ:SF:=
 (bQ (jU (iJ (aV tL (ak (aq 0) au)))) (eV "BadEar") aN)
def qd:=mQ 1 GJ
def bU:List (Str×MV):=[("Commons",.q 4 gJ)]
def fX:SF:=
 (aD (cG (gOf (aR aC (ao 0) (ak (aq 1) au))))
 (aD (cG (gOf (aR aG (bL "grounds" (ao 0)) (ak (aq 2) au))))
 (aD (cG (gOf (aV qd (ak (aq 3) au))))
 (aD (bQ (aY (aA bR (ao 3) (qC ju))) (eV "Bare") aN)
 (aD (bQ (aY (aA (inD false) (ao 3) (aR cJ (bL "rights" (ao 0)) (ak (aq 1) (ak (aq 2) au))))) (eV "HasRight") aN)
 (aD (cG (gOf (aR bU (ao 0) (ak (aq 1) (ak (aq 3) (ak (aq 2) au))))))
 (cG (cP iw (bL "rights" (ao 0)) (ak (aq 1) (ak (aq 2) (ak (aq 3) au)))))))))))
def dU:=mG 4 fX
def wA:SF:=
 (Ls "held" (ao 0) (bK (ak (aq 1) (ak (aq 2) (ak (aq 4) au)))))
def u9:SF:=
 (aD (bh (aF 3) (gOf (aR cJ (ao 0) (ak (aq 1) (ak (aq 2) au)))))
 (aD (bQ (jU (iJ (ao 3))) (eV "NoRight") aN)
 (aD (qm (cV (aq 3)) (aF 4) wA)
 (aU (aq 3)))))
def mV:=mG 5 u9
def yO:List (Str×MV):=[("Rights",.g 3 mV)]
def jw:SF:=
 (aD (cG (gOf (aR aC (ao 0) (ak (aq 1) au))))
 (aD (cG (gOf (aR aG (bL "grounds" (ao 0)) (ak (aq 2) au))))
 (aD (cG (gOf (aR aK (ao 0) (ak (aq 1) (ak (aq 2) au)))))
 (aD (bQ (iJ (eO Ox (eE (cV (aR jr (bL "herd" (ao 0)) (ak (uH (ak (aq 2) au)) au))) (bA [3,4]) [3,4] gA (aA bR (bL "owner" (ao 4)) (ao 1))))) (eV "StillThere") aN)
 (gW (cP yO (bL "rights" (ao 0)) (ak (aq 1) (ak (aq 2) au))))))))
def fW:=mG 5 jw
def pZ:SF:=
 (aD (bh (bA [2,3,4,5,6]) (gOf (aq 1)))
 (aD (ug jQ (ao 0) "owner" (gOf (aq 2)))
 (aD (ug jQ (ao 0) "ground" (gOf (aq 3)))
 (aD (ug jQ (ao 0) "due" (gOf (aq 4)))
 (aD (ug jQ (ao 0) "ear" (gOf (aq 5)))
 (ug jQ (ao 0) "alive" (gOf (aq 6))))))))
def mD:=mG 7 pZ
def Lq:SF:=
 (aD (bQ (aY (aA bR (aA aO (ao 0) (qC (.int 0))) (qC (.str "born")))) (aD (bh (bA [1,2,3,4]) (gOf (aq 0)))
 (aU (bK (ak (aq 3) (ak (aq 4) (ak (qC .none) (ak (qC ju) (ak (qC (.bool true)) au)))))))) aN)
 (aD (bh (bA [1,3,4,5]) (gOf (aq 0)))
 (aU (bK (ak (aq 3) (ak (aq 4) (ak (qC .none) (ak (aq 5) (ak (qC (.bool true)) au)))))))))
def Bu:=mQ 6 Lq
def jC:List (Str×MV):=[("Beast",.g 2 mD)]
def Cj:SF:=
 (aD (Dt jQ (ao 0) "story" (Kh (ak (aq 1) au)))
 (aD (ug jQ (ao 0) "mother" (gOf (Q6 (aY (aA bR (aA aO (ao 1) (qC (.int 0))) (qC (.str "born")))) (aA aO (ao 1) (qC (.int 1))) (qC (.int 0)))))
 (cG (cP jC (ao 0) (ak (aV Bu (ak (aq 1) au)) au)))))
def sV:=mG 2 Cj
def vH:SF:=
 (aD (Dd "beasts" (ao 0) (Ac "Beast" sV (ak (aq 1) au)))
 (aU (eO oF (bL "beasts" (ao 0)))))
def qw:=mG 2 vH
def jD:List (Str×MV):=[("Herd",.g 2 qw)]
def jo:SF:=
 (aD (cG (gOf (aR aC (ao 0) (ak (aq 1) au))))
 (aD (cG (gOf (aR aG (bL "grounds" (ao 0)) (ak (aq 2) au))))
 (aD (cG (gOf (aV qd (ak (aq 3) au))))
 (aD (cG (gOf (aR aK (ao 0) (ak (aq 1) (ak (aq 2) au)))))
 (gW (cP jD (bL "herd" (ao 0)) (ak (bK (ak (qC (.str "brought")) (ak (aq 1) (ak (aq 2) (ak (aq 3) au))))) au)))))))
def fY:=mG 4 jo
def sY:SF:=
 (aD (bQ (jU (nR uG uG (qC (.int 1)) (ao 1) (eO oF (bL "beasts" (ao 0))))) (eV "NoBeast") aN)
 (aU (aA aO (bL "beasts" (ao 0)) (aA lE (ao 1) (qC (.int 1))))))
def jV:=mQ 2 sY
def fD:List (Str×MV):=[("Herd",.q 2 jV)]
def uY:SF:=
 (aD (bh (aF 2) (gOf (aR fD (ao 0) (ak (aq 1) au))))
 (aD (bQ (jU (iJ (bL "alive" (ao 2)))) (eV "Dead") aN)
 (aU (aq 2))))
def qM:=mQ 3 uY
def bJ:List (Str×MV):=[("Herd",.q 2 qM)]
def qI:SF:=
 (aD (bh (aF 2) (gOf (aR bJ (ao 0) (ak (aq 1) au))))
 (aD (bQ (aY (xX false .none (bL "due" (ao 2)))) (eV "Unmarked") aN)
 (aU (aq 2))))
def mW:=mQ 3 qI
def bD:List (Str×MV):=[("Herd",.q 2 mW)]
def lQ:SF:=
 (aD (bh (aF 2) (gOf (aR bD (bL "herd" (ao 0)) (ak (aq 1) au))))
 (gW (cP jD (bL "herd" (ao 0)) (ak (bK (ak (qC (.str "born")) (ak (aq 1) (ak (gD "owner" (ao 2)) (ak (gD "ground" (ao 2)) au))))) au))))
def iW:=mG 3 lQ
def Il:SF:=
 (aU (eO lA (eE (wu 0 (ao 0)) (bA [2,3]) [2,3] gA (Q6 (aY (aA bR (ao 2) (ao 1))) (aA fG (ao 3) (qC (.int 1))) (aq 3)))))
def wj:=mQ 4 Il
def Ka:SF:=
 (aD (bh (bA [2,3,4,5,6]) (gOf (aq 0)))
 (aD (bh (aF 7) (gOf (aA aO (ao 1) (qC (.int 0)))))
 (aD (bQ (aY (aA bR (ao 7) (qC (.str "cut")))) (Pb 4 5 (gOf (aA aO (ao 1) (qC (.int 1))))) (bQ (aY (aA bR (ao 7) (qC (.str "torn")))) (bh (aF 5) (gOf (aV wj (ak (aq 5) (ak (aA aO (ao 1) (qC (.int 1))) au))))) (bQ (aY (aA bR (ao 7) (qC (.str "sold")))) (aD (bh (aF 2) (gOf (aA aO (ao 1) (qC (.int 1)))))
 (Pb 4 5 (gOf (aA aO (ao 1) (qC (.int 2)))))) (bQ (aY (aA bR (ao 7) (qC (.str "moved")))) (bh (aF 3) (gOf (aA aO (ao 1) (qC (.int 1))))) (bQ (aY (aA bR (ao 7) (qC (.str "followed")))) (aD (bh (aF 2) (gOf (aA aO (ao 1) (qC (.int 1)))))
 (bh (aF 3) (gOf (aA aO (ao 1) (qC (.int 2)))))) (bQ (aY (aA bR (ao 7) (qC (.str "passed")))) (bh (aF 2) (gOf (aA aO (ao 1) (qC (.int 1))))) (bQ (aY (aA bR (ao 7) (qC (.str "died")))) (bh (aF 6) (gOf (qC (.bool false)))) aN)))))))
 (aU (bK (ak (aq 2) (ak (aq 3) (ak (aq 4) (ak (aq 5) (ak (aq 6) au))))))))))
def z9:=mQ 8 Ka
def yF:SF:=
 (aD (Dd "story" (ao 0) (gOf (aq 1)))
 (cG (cP jC (ao 0) (ak (aV z9 (ak (aR lN (ao 0) au) (ak (aq 1) au))) au))))
def lM:=mG 2 yF
def bM:List (Str×MV):=[("Beast",.g 2 lM)]
def mZ:SF:=
 (aD (bh (aF 2) (gOf (aR bJ (bL "herd" (ao 0)) (ak (aq 1) au))))
 (aD (bh (aF 3) (gOf (aV pA (ak (gD "ear" (ao 2)) (ak (aR bV (ao 0) (ak (gD "owner" (ao 2)) (ak (gD "ground" (ao 2)) au))) au)))))
 (aD (cG (gOf (aR bU (ao 0) (ak (gD "owner" (ao 2)) (ak (aq 3) (ak (gD "ground" (ao 2)) au))))))
 (aD (cG (cP bM (ao 2) (ak (bK (ak (qC (.str "cut")) (ak (aq 3) au))) au)))
 (aU (aq 3))))))
def jE:=mG 4 mZ
def jd:SF:=
 (aD (bh (aF 3) (gOf (aR bJ (bL "herd" (ao 0)) (ak (aq 1) au))))
 (aD (bQ (jU (nR uG M4 (qC (.int 0)) (ao 2) (eO oF (qC iQ)))) (eV "NoPlace") aN)
 (aD (bQ (aY (aA geD (aA aO (bL "ear" (ao 3)) (ao 2)) (qC cR))) (eV "Deepest") aN)
 (aD (cG (cP bM (ao 3) (ak (bK (ak (qC (.str "torn")) (ak (aq 2) au))) au)))
 (aU (gD "ear" (ao 3)))))))
def fK:=mG 4 jd
def vo:SF:=
 (aD (cG (gOf (aR fD (ao 0) (ak (aq 1) au))))
 (aU (eE (cV (aR dY (ao 0) au)) (bA [2,3]) [2,3] (jF (aY (aA bR (bL "mother" (ao 3)) (ao 1))) (aY (xX false .none (bL "due" (ao 3))))) (bK (ak (aq 2) (ak (aq 3) au))))))
def qK:=mQ 4 vo
def yL:List (Str×MV):=[("Herd",.q 2 qK)]
def qb:SF:=
 (cG (cP bM (ao 4) (ak (bK (ak (qC (.str "followed")) (ak (gD "owner" (ao 2)) (ak (gD "ground" (ao 2)) au)))) au)))
def tD:SF:=
 (aD (bh (aF 2) (gOf (aR fD (ao 0) (ak (aq 1) au))))
 (qm (cV (aR yL (ao 0) (ak (aq 1) au))) (bA [3,4]) qb))
def m9:=mG 5 tD
def iy:List (Str×MV):=[("Herd",.g 2 m9)]
def fJ:SF:=
 (aD (bh (aF 3) (gOf (aR bD (bL "herd" (ao 0)) (ak (aq 1) au))))
 (aD (cG (gOf (aR aC (ao 0) (ak (aq 2) au))))
 (aD (bQ (aY (aA bR (bL "owner" (ao 3)) (ao 2))) (eV "SameOwner") aN)
 (aD (cG (gOf (aR aK (ao 0) (ak (aq 2) (ak (gD "ground" (ao 3)) au)))))
 (aD (bh (aF 4) (gOf (aV pA (ak (gD "ear" (ao 3)) (ak (aR bV (ao 0) (ak (aq 2) (ak (gD "ground" (ao 3)) au))) au)))))
 (aD (cG (gOf (aV ou (ak (aq 2) (ak (aq 4) (ak (aR cZ (ao 0) (ak (aq 1) (ak (gD "ground" (ao 3)) au))) (ak (aR cC (ao 0) (ak (gD "ground" (ao 3)) au)) au)))))))
 (aD (cG (cP bM (ao 3) (ak (bK (ak (qC (.str "sold")) (ak (aq 2) (ak (aq 4) au)))) au)))
 (aD (cG (cP iy (bL "herd" (ao 0)) (ak (aq 1) au)))
 (aU (aq 4))))))))))
def dJ:=mG 5 fJ
def fL:SF:=
 (aD (bh (aF 3) (gOf (aR bD (bL "herd" (ao 0)) (ak (aq 1) au))))
 (aD (cG (gOf (aR aG (bL "grounds" (ao 0)) (ak (aq 2) au))))
 (aD (bh (aF 4) (gOf (gD "ground" (ao 3))))
 (aD (bQ (aY (aA bR (ao 4) (ao 2))) (eV "SameGround") aN)
 (aD (cG (gOf (aR aK (ao 0) (ak (gD "owner" (ao 3)) (ak (aq 2) au)))))
 (aD (cG (gOf (aR bU (ao 0) (ak (gD "owner" (ao 3)) (ak (gD "due" (ao 3)) (ak (aq 2) au))))))
 (aD (cG (cP bM (ao 3) (ak (bK (ak (qC (.str "moved")) (ak (aq 2) au))) au)))
 (aD (cG (cP iy (bL "herd" (ao 0)) (ak (aq 1) au)))
 (aU (aq 4))))))))))
def dN:=mG 5 fL
def qN:SF:=
 (cG (cP bM (aR bJ (bL "herd" (ao 0)) (ak (aq 1) au)) (ak (bK (ak (qC (.str "died")) au)) au)))
def kY:=mG 2 qN
def GD:SF:=
 (aD (bh (aF 2) (gOf (aV pQ (ak (aq 0) au))))
 (aU (Cg (wu 0 (ao 2)) (bA [3,4]) [3,4,5] gA (cV (QH (ao 2) (sS (aA fG (ao 3) (qC (.int 1)))) CJ)) (aF 5) [5] (jF (aY (aA vZ (aA aO (ao 4) (qC (.int 0))) (aA aO (ao 5) (qC (.int 0))))) (iJ (aV qL (ak (aA aO (ao 4) (qC (.int 1))) (ak (aA aO (ao 5) (qC (.int 1))) (ak (aq 1) au)))))) (bK (ak (aq 4) (ak (aq 5) au))))))
def uw:=mQ 6 GD
def sJ:SF:=
 (aD (bh (aF 3) (gOf (aA oJ (aR cC (ao 0) (ak (aq 1) au)) (aR cC (ao 0) (ak (aq 2) au)))))
 (aU (aV uw (ak (aA fG (aR cH (ao 0) (ak (aq 1) au)) (aR cH (ao 0) (ak (aq 2) au))) (ak (aq 3) au)))))
def jZ:=mQ 4 sJ
def qU:SF:=
 (PN "circles" (ao 0) (aA lE (ao 3) (qC (.int 1))) (aq 2))
def uL:SF:=
 (aD (bh (aF 2) (gOf (eO lA (ao 1))))
 (aD (qm (cV (aq 1)) (aF 3) qU)
 (aU (aq 1))))
def lu:=mG 4 uL
def gj:List (Str×MV):=[("Grounds",.g 2 lu)]
def rM:SF:=
 (aD (bh (aF 3) (gOf (aR bF (ao 0) (ak (aq 1) au))))
 (aD (bh (aF 4) (gOf (aR bF (ao 0) (ak (aq 2) au))))
 (aD (bQ (aY (aA (inD false) (ao 2) (ao 3))) (eV "Together") aN)
 (gW (cP gj (ao 0) (ak (eO yZ (aA fG (ao 3) (ao 4))) au))))))
def kW:=mG 5 rM
def vK:List (Str×MV):=[("Grounds",.g 3 kW)]
def mF:List (Str×MV):=[("Commons",.q 3 jZ)]
def jh:SF:=
 (aD (cG (gOf (aR aG (bL "grounds" (ao 0)) (ak (aq 2) au))))
 (aD (bQ (aY (aA (inD false) (ao 2) (aR bT (ao 0) (ak (aq 1) au)))) (eV "Together") aN)
 (aD (bh (aF 3) (gOf (aR mF (ao 0) (ak (aq 1) (ak (aq 2) au)))))
 (aD (bQ (iJ (ao 3)) (aD (bh (bA [4,5]) (gOf (aA aO (ao 3) (qC (.int 0)))))
 (Bt "Clash" ["ones","others","ear"] (ak (aq 4) (ak (aq 5) (ak (aV pA (ak (aA aO (ao 4) (qC (.int 1))) (ak (aA aO (ao 5) (qC (.int 1))) au))) au))))) aN)
 (gW (cP vK (bL "grounds" (ao 0)) (ak (aq 1) (ak (aq 2) au))))))))
def fQ:=mG 6 jh
def o9:SF:=
 (aD (bh (aF 2) (gOf (eE (cV (aR bF (ao 0) (ak (aq 1) au))) (aF 3) [3] (aY (aA vZ (ao 3) (ao 1))) (aq 3))))
 (aD (bQ (jU (iJ (ao 2))) (eV "Alone") aN)
 (aD (cG (cP gj (ao 0) (ak (uH (ak (aq 1) au)) au)))
 (gW (cP gj (ao 0) (ak (aq 2) au))))))
def iZ:=mG 4 o9
def m7:List (Str×MV):=[("Grounds",.g 2 iZ)]
def pq:SF:=
 (gW (cP m7 (bL "grounds" (ao 0)) (ak (aq 1) au)))
def jP:=mG 2 pq
def rZ:SF:=
 (Rh jQ (ao 0) "held" (qDc (BR "held" (ao 0)) (bA [3,4,5]) [3,4,5] (bK (ak (Q6 (aY (aA bR (ao 3) (ao 1))) (aq 2) (aq 3)) (ak (aq 4) (ak (aq 5) au))))))
def nQ:=mG 6 rZ
def Ck:SF:=
 (aU (eE (cV (aR dY (ao 0) au)) (bA [2,3]) [2,3] (aY (aA bR (bL "owner" (ao 3)) (ao 1))) (bK (ak (aq 2) (ak (aq 3) au)))))
def xO:=mQ 4 Ck
def Ad:List (Str×MV):=[("Herd",.q 2 xO)]
def qZ:List (Str×MV):=[("Rights",.g 3 nQ)]
def rB:SF:=
 (cG (cP bM (ao 5) (ak (bK (ak (qC (.str "passed")) (ak (aq 2) au))) au)))
def jB:SF:=
 (aD (cG (gOf (aR aC (ao 0) (ak (aq 1) au))))
 (aD (cG (gOf (aR aC (ao 0) (ak (aq 2) au))))
 (aD (bQ (aY (aA bR (ao 1) (ao 2))) (eV "SameOwner") aN)
 (aD (cG (cP qZ (bL "rights" (ao 0)) (ak (aq 1) (ak (aq 2) au))))
 (aD (bh (aF 3) (gOf (aR Ad (bL "herd" (ao 0)) (ak (aq 1) au))))
 (aD (qm (cV (aq 3)) (bA [4,5]) rB)
 (aD (Ls "holders" (ao 0) (aq 1))
 (aU (eE (cV (ao 3)) (bA [4,5]) [4,5] gA (aq 4))))))))))
def fO:=mG 6 jB
def uX:SF:=
 (aD (bQ (aY (aA bR (ao 0) (qC (.str "ear")))) (aU (wF (xg .tuple (ao 1)) (aV tL (ak (aq 1) au)))) aN)
 (aD (bh (aF 2) (gOf (Q6 (aY (aA bR (ao 0) (qC (.str "place")))) (aA lE (eO oF (qC iQ)) (qC (.int 1))) (qC nZ))))
 (aU (wF (xg .int (ao 1)) (Vm (nR uG uG (qC (.int 0)) (ao 1) (ao 2)))))))
def iz:=mQ 3 uX
def X4:SF:=
 (aD (bQ (yd (aY (aA bR (eO oF (ao 0)) (qC (.int 0)))) (aY (TJ true (zj yu) (aA aO (ao 0) (qC (.int 0)))))) (aU (qC (.bool false))) aN)
 (aD (bh (aF 1) (gOf (abE (zj yu) (aA aO (ao 0) (qC (.int 0))))))
 (aD (bh (aF 2) (gOf (QH (ao 0) (sS (qC (.int 1))) CJ)))
 (aU (wF (aA bR (eO oF (ao 2)) (eO oF (ao 1))) (eO Nk (eE (Ef (ao 1) (ao 2)) (bA [3,4]) [3,4] gA (aV iz (ak (aq 3) (ak (aq 4) au))))))))))
def FJ:=mQ 5 X4
def qX:List (Str×MV):=[("Commons",.g 4 cW)]
def tG:List (Str×MV):=[("Commons",.g 3 fO)]
def wU:List (Str×MV):=[("Commons",.g 2 jP)]
def vq:List (Str×MV):=[("Commons",.g 3 fQ)]
def xZ:List (Str×MV):=[("Commons",.g 2 kY)]
def wW:List (Str×MV):=[("Commons",.g 3 dN)]
def xH:List (Str×MV):=[("Commons",.g 3 dJ)]
def xM:List (Str×MV):=[("Commons",.g 3 fK)]
def yM:List (Str×MV):=[("Commons",.g 2 jE)]
def wB:List (Str×MV):=[("Commons",.g 2 iW)]
def vD:List (Str×MV):=[("Commons",.g 4 fY)]
def vM:List (Str×MV):=[("Commons",.g 3 fW)]
def vB:List (Str×MV):=[("Commons",.g 4 dU)]
def oU:List (Str×MV):=[("Commons",.g 2 gG)]
def cX:SF:=
 (aD (bQ (jU (iJ (aV FJ (ak (aq 1) au)))) (eV "BadDeed") aN)
 (aD (WR 2 3 (gOf (aq 1)))
 (aD (bQ (aY (aA bR (ao 2) (qC (.str "owner")))) (gW (cP gM (ao 0) au)) aN)
 (aD (bQ (aY (aA bR (ao 2) (qC (.str "ground")))) (gW (cP oU (ao 0) (ak (aA aO (ao 3) (qC (.int 0))) au))) aN)
 (aD (bQ (aY (aA bR (ao 2) (qC (.str "enrol")))) (gW (cP vB (ao 0) (ak (aA aO (ao 3) (qC (.int 0))) (ak (aA aO (ao 3) (qC (.int 1))) (ak (aA aO (ao 3) (qC (.int 2))) au))))) aN)
 (aD (bQ (aY (aA bR (ao 2) (qC (.str "leave")))) (gW (cP vM (ao 0) (ak (aA aO (ao 3) (qC (.int 0))) (ak (aA aO (ao 3) (qC (.int 1))) au)))) aN)
 (aD (bQ (aY (aA bR (ao 2) (qC (.str "bring")))) (gW (cP vD (ao 0) (ak (aA aO (ao 3) (qC (.int 0))) (ak (aA aO (ao 3) (qC (.int 1))) (ak (aA aO (ao 3) (qC (.int 2))) au))))) aN)
 (aD (bQ (aY (aA bR (ao 2) (qC (.str "bear")))) (gW (cP wB (ao 0) (ak (aA aO (ao 3) (qC (.int 0))) au))) aN)
 (aD (bQ (aY (aA bR (ao 2) (qC (.str "cut")))) (gW (cP yM (ao 0) (ak (aA aO (ao 3) (qC (.int 0))) au))) aN)
 (aD (bQ (aY (aA bR (ao 2) (qC (.str "tear")))) (gW (cP xM (ao 0) (ak (aA aO (ao 3) (qC (.int 0))) (ak (aA aO (ao 3) (qC (.int 1))) au)))) aN)
 (aD (bQ (aY (aA bR (ao 2) (qC (.str "sell")))) (gW (cP xH (ao 0) (ak (aA aO (ao 3) (qC (.int 0))) (ak (aA aO (ao 3) (qC (.int 1))) au)))) aN)
 (aD (bQ (aY (aA bR (ao 2) (qC (.str "move")))) (gW (cP wW (ao 0) (ak (aA aO (ao 3) (qC (.int 0))) (ak (aA aO (ao 3) (qC (.int 1))) au)))) aN)
 (aD (bQ (aY (aA bR (ao 2) (qC (.str "die")))) (gW (cP xZ (ao 0) (ak (aA aO (ao 3) (qC (.int 0))) au))) aN)
 (aD (bQ (aY (aA bR (ao 2) (qC (.str "unite")))) (gW (cP vq (ao 0) (ak (aA aO (ao 3) (qC (.int 0))) (ak (aA aO (ao 3) (qC (.int 1))) au)))) aN)
 (aD (bQ (aY (aA bR (ao 2) (qC (.str "part")))) (gW (cP wU (ao 0) (ak (aA aO (ao 3) (qC (.int 0))) au))) aN)
 (aD (bQ (aY (aA bR (ao 2) (qC (.str "pass")))) (gW (cP tG (ao 0) (ak (aA aO (ao 3) (qC (.int 0))) (ak (aA aO (ao 3) (qC (.int 1))) au)))) aN)
 (gW (cP qX (ao 0) (ak (aA aO (ao 3) (qC (.int 0))) (ak (aA aO (ao 3) (qC (.int 1))) (ak (aA aO (ao 3) (qC (.int 2))) au)))))))))))))))))))))
def cQ:=mG 4 cX
def qJ:List (Str×MV):=[("Commons",.g 2 cQ)]
def BW:SF:=
 (aD (bh (aF 2) (gOf (qC .none)))
 (aD (Zh (cG (cP qJ (ao 0) (ak (aq 1) au))) [⟨"Clash",λx=>Hf.lookup x,some 3,[(2,(.flds ["ones","others","ear"]))]⟩,⟨"CommonError",λx=>uo.lookup x,none,[(2,(.con .none))]⟩])
 (aU (aq 2))))
def vC:=mG 4 BW
def Y5:SF:=
 (aD (bQ (aY (aA M4 (ao 1) (eO oF (ao 0)))) (aU (aA aO (ao 0) (ao 1))) aN)
 (aU (qC (.int 0))))
def Ew:=mQ 2 Y5
def sU:SF:=
 (aD (bQ (yd (aY (aA bR (aA aO (ao 1) (qC (.int 0))) (qC (.str "enrol")))) (aY (aA bR (aA aO (ao 1) (qC (.int 0))) (qC (.str "move"))))) (aU (uH (ak (aA aO (ao 1) (qC (.int 2))) au))) aN)
 (aD (bQ (aY (aA bR (aA aO (ao 1) (qC (.int 0))) (qC (.str "unite")))) (aU (uH (ak (aA aO (ao 1) (qC (.int 1))) (ak (aA aO (ao 1) (qC (.int 2))) au)))) aN)
 (aU (uH (ak (aA aO (aA aO (aA aO (ao 0) (qC (.int 3))) (aA lE (aA aO (ao 1) (qC (.int 1))) (qC (.int 1)))) (qC (.int 1))) au)))))
def nM:=mQ 2 sU
def Ui:SF:=
 (aU (wF (xg .int (ao 0)) (QJ (xg .bool (ao 0)))))
def Gv:=mQ 1 Ui
def NP(r:Mo->List Dat->Out Dat):SF:=
 (bQ (jU (iJ (aV r (ak (aq 2) (ak (aq 3) au))))) (aU (qC (.bool false))) aN)
def Fy(r:Mo->List Dat->Out Dat):SF:=
 (aD (bQ (aY (xX false .none (ao 1))) (aU (xX false .none (ao 0))) aN)
 (aD (bQ (aY (xX false (.bool true) (ao 1))) (aU (xX false (.bool true) (ao 0))) aN)
 (aD (bQ (aY (xX false (.bool false) (ao 1))) (aU (xX false (.bool false) (ao 0))) aN)
 (aD (bQ (iJ (xg .int (ao 1))) (aU (wF (aV Gv (ak (aq 0) au)) (aA bR (ao 0) (ao 1)))) aN)
 (aD (bQ (iJ (xg .str (ao 1))) (aU (wF (xg .str (ao 0)) (aA bR (ao 0) (ao 1)))) aN)
 (aD (bQ (jF (iJ (xg .tuple (ao 1))) (jU (iJ (xg .tuple (ao 0))))) (aU (qC (.bool false))) aN)
 (aD (bQ (jF (iJ (xg .list (ao 1))) (jU (iJ (xg .list (ao 0))))) (aU (qC (.bool false))) aN)
 (aD (bQ (aY (aA vZ (eO oF (ao 0)) (eO oF (ao 1)))) (aU (qC (.bool false))) aN)
 (aD (qm (Ef (aq 0) (aq 1)) (bA [2,3]) (NP r))
 (aU (qC (.bool true))))))))))))
def qF:Nat->Mo->List Dat->Out Dat
 |0=>λ_ _=>.bad
 |n+1=>mQ 4 (Fy (qF n))
def JZ:SF:=
 (aU (eO maxD (eE (cV (aA aO (aA aO (aA aO (ao 0) (qC (.int 1))) (aA lE (ao 1) (qC (.int 1)))) (qC (.int 1)))) (aF 2) [2] gA (aA aO (aA aO (aA aO (ao 0) (qC (.int 1))) (aA lE (ao 2) (qC (.int 1)))) (qC (.int 0))))))
def vW:=mQ 3 JZ
def yN:SF:=
 (bQ (yd (aY (aA bR (ao 1) (uH au))) (aY (aA vZ (aA aO (ao 1) (eO Ol (qC (.int 1)))) (ao 2)))) (Ao 1 (aq 2)) aN)
def XJ:SF:=
 (aD (Ag 1 (Kh au))
 (aD (qm (cV (eO yZ (ao 0))) (aF 2) yN)
 (aU (aq 1))))
def JD:=mQ 3 XJ
def lK:SF:=
 (bQ (jF (iJ (aA aO (ao 5) (qC (.int 4)))) (jF (aY (xX true .none (aA aO (ao 5) (qC (.int 2))))) (jF (aY (aA (inD false) (aA aO (ao 5) (qC (.int 1))) (ao 1))) (aY (aA vZ (aA fG (ao 4) (qC (.int 1))) (ao 2)))))) (Ao 3 (bK (ak (aA aO (ao 5) (qC (.int 0))) (ak (aA aO (ao 5) (qC (.int 2))) au)))) aN)
def Kf:SF:=
 (aD (Ag 3 (zP (cV (aA aO (ao 0) (qC (.int 2)))) (bA [6,7,8]) [6,7,8] (aY (aA (inD false) (ao 7) (ao 1))) (bK (ak (aq 6) (ak (aq 8) au)))))
 (aD (qm (wu 0 (aA aO (ao 0) (qC (.int 3)))) (bA [4,5]) lK)
 (aU (aV JD (ak (aq 3) au)))))
def zV:=mQ 9 Kf
def abe:SF:=
 (aU (eO lA (eE (Ef (ao 0) (ao 1)) (bA [2,3]) [2,3] gA (aA oJ (ao 2) (ao 3)))))
def Qy:=mQ 4 abe
def Uh:SF:=
 (aU (eO Ue (eE (Ef (ao 0) (ao 1)) (bA [2,3]) [2,3] gA (aA oJ (qC (.int 0)) (aA lE (ao 3) (ao 2))))))
def Bw:=mQ 4 Uh
def Dg:SF:=
 (bh (aF 8) (gOf (aA fG (ao 8) (aV zV (ak (aq 0) (ak (aA aO (aA aO (aA aO (ao 0) (qC (.int 1))) (aA lE (ao 9) (qC (.int 1)))) (qC (.int 1))) (ak (qC (.int 0)) au)))))))
def Le:SF:=
 (aD (bQ (aY (aA (inD true) (aA aO (ao 1) (qC (.int 0))) (bK (ak (qC (.str "enrol")) (ak (qC (.str "cut")) (ak (qC (.str "sell")) (ak (qC (.str "move")) (ak (qC (.str "unite")) au)))))))) (aU (qC (.bool false))) aN)
 (aD (bh (bA [3,4,5]) (gOf (aq 2)))
 (aD (bh (aF 6) (gOf (aV nM (ak (aq 0) (ak (aq 1) au)))))
 (aD (bh (aF 7) (gOf (eO maxD (eE (cV (ao 6)) (aF 9) [9] gA (aV vW (ak (aq 0) (ak (aq 9) au)))))))
 (aD (bh (aF 8) (gOf (uH au)))
 (aD (qm (cV (aq 6)) (aF 9) Dg)
 (aD (bQ (yd (aY (aA bR (aA aO (ao 3) (qC (.int 0))) (aA aO (ao 4) (qC (.int 0))))) (yd (aY (aA (inD true) (ao 4) (ao 8))) (jF (aY (aA bR (aA aO (ao 1) (qC (.int 0))) (qC (.str "unite")))) (aY (aA (inD true) (ao 3) (ao 8)))))) (aU (qC (.bool false))) aN)
 (aD (bQ (jU (iJ (aV (qF 10) (ak (aq 5) (ak (aV Qy (ak (aA aO (ao 3) (qC (.int 1))) (ak (aA aO (ao 4) (qC (.int 1))) au))) au))))) (aU (qC (.bool false))) aN)
 (aU (wF (aA uG (aV Bw (ak (aA aO (ao 3) (qC (.int 1))) (ak (aq 5) au))) (ao 7)) (aA uG (aV Bw (ak (aA aO (ao 4) (qC (.int 1))) (ak (aq 5) au))) (ao 7))))))))))))
def Bs:=mQ 10 Le
def rK:List (Str×MV):=[("Commons",.q 1 pB)]
def Gq:SF:=
 (aD (bh (aF 3) (gOf (aR rK (ao 1) au)))
 (aD (bh (aF 4) (WL vC (ak (aq 1) (ak (aq 2) au))))
 (bQ (jF (aY (xX true .none (ao 4))) (jU (iJ (aV Bs (ak (aq 3) (ak (aq 2) (ak (aq 4) au))))))) (aU (qC (.bool false))) aN)))
def abx:SF:=
 (aD (bh (aF 1) (Ac "Commons" pJ au))
 (aD (qm (cV (aV JX (ak (QH (ao 0) (sS (qC (.int 1))) (sS (qC (.int 40)))) (ak (eO Tg (aV Ew (ak (aq 0) (ak (qC (.int 0)) au)))) au)))) (aF 2) Gq)
 (aU (qC (.bool true)))))
def WT:=mG 5 abx
theorem VR:FnScope ["self","ones","others","ear"] ["self","ones","others","ear"] (defScope Jr):=⟨rfl,rfl,rfl,by decide +kernel,rfl,by decide +kernel,by decide +kernel⟩
abbrev rX(N:List Str)(s:Stmt)(G:List (Str×GV))(B:List Str)(Ms:List (Str×List (Str×MV)))(ml:List Str):Option SF:=rd ⟨N,defScope s,G,B,⟨Ms,jQ,xmH,dfH,Vs⟩,ml,true⟩ (defBody s)
abbrev rY(N:List Str)(s:Stmt)(G:List (Str×GV))(B:List Str)(Ms:List (Str×List (Str×MV)))(ml:List Str):Option SF:=rdG ⟨N,defScope s,G,B,⟨Ms,jQ,xmH,dfH,Vs⟩,ml,true⟩ (defBody s)
theorem ahi:FnScope ["_law_found","_law_due","_law_one","_law_other"] ["_law_found","_law_due"] (defScope Rm):=⟨rfl,rfl,rfl,by decide +kernel,rfl,by decide +kernel,by decide +kernel⟩
theorem akp:FnScope ["_law_script","_law_house","_law_deed_here","_law_stand","_law_told"] ["_law_script"] (defScope Lr):=⟨rfl,rfl,rfl,by decide +kernel,rfl,by decide +kernel,by decide +kernel⟩
theorem RM:rY ["self"] Gj [] [] [] []=some yD:=by kernel_rfl
theorem Wr:rY ["self"] Iv [] [] [] []=some Ae:=by kernel_rfl
theorem ZF:rY ["self"] M7 [] [] [] []=some Ec:=by kernel_rfl
theorem R5:rY ["self"] Gm [("Herd",.cls 0 zf),("Rights",.cls 0 uZ),("Grounds",.cls 0 tM)] [] [] []=some yP:=by kernel_rfl
theorem ali:rX ["_law_cell_here","_law_many","_law_base","_law_found","_law_k","_law_turn"] s_row [] ["range","abs"] [] ["_law_found"]=some aby:=by kernel_rfl
theorem aeS:rX ["_law_figures","_law_mode","_law_figure"] Yb [] ["tuple","max"] [] []=some N5:=by kernel_rfl
theorem akT:rX ["_law_cell_here","_law_figures"] afV [("_law_ear_by",.fq 2 rP),("_law_row",.fq 3 yX)] [] [] []=some abK:=by kernel_rfl
theorem Zu:rX ["_law_head","_law_rows"] M5 [] [] [] []=some DR:=by kernel_rfl
theorem adp:rX ["_law_figure","_law_some"] VH [] [] [] []=some Ko:=by kernel_rfl
theorem ajd:rX ["_law_ear_here","_law_figures","_law_found","_law_depth","_law_figure","_law_more"] acj [] ["tuple","zip","max","min"] [] ["_law_found"]=some Xh:=by kernel_rfl
theorem ab7:rX ["_law_figures","_law_mode","_law_base"] UJ [("_law_ear_by",.fq 2 rP),("_law_near",.fq 2 Jp)] [] [] []=some KR:=by kernel_rfl
theorem alp:rX ["_law_figure","_law_many","_law_sure"] afA [] ["max"] [] []=some WM:=by kernel_rfl
theorem ahV:rX ["_law_word","_law_one","_law_two","_law_parts","_law_counts","_law_base","_law_sure","_law_mark"] ab1 [("_law_ref",.fq 3 jG),("_law_mark_by",.fq 3 v7)] ["int"] [] []=some jK:=by kernel_rfl
theorem aiB:rX ["_law_cells","_law_head","_law_counts","_law_base","_law_begun_here","_law_plan_here","_law_at","_law_cell_here","_law_parts","_law_word","_law_one","_law_two","_law_owners","_law_grounds_here","_law_beasts"] acw [("_law_deed",.fq 6 fV),("_law_word_by",.fq 1 vU),("_law_row",.fq 3 yX),("_law_begun",.fq 1 uR),("_law_ear",.fq 1 Qa)] ["enumerate","len"] [] ["_law_plan_here"]=some Xp:=by kernel_rfl
theorem Wf:rX ["self"] Jd [] [] [] []=some Aa:=by kernel_rfl
theorem Xo:rX ["self"] JN [] ["tuple"] [("stand",lN)] []=some CN:=by kernel_rfl
theorem Nm:rX ["self"] CK [] ["list"] [] []=some vA:=by kernel_rfl
theorem Mr:rX ["self"] Bf [] ["list"] [] []=some uJ:=by kernel_rfl
theorem Td:rX ["self"] Gu [] ["len"] [] []=some tR:=by kernel_rfl
theorem Wi:rX ["self","ground"] Iu [] [] [("many",eX)] []=some Af:=by kernel_rfl
theorem T6:rX ["self","ground"] FW [("NoGround",.exc)] [] [("has",yK)] []=some yI:=by kernel_rfl
theorem Jl:rX ["self","ground"] xU [] [] [("need",aG)] []=some mJ:=by kernel_rfl
theorem Ky:rX ["self","ground"] zE [] ["list"] [("need",aG)] []=some oA:=by kernel_rfl
theorem Jy:rX ["self","ground"] z7 [] [] [("together",bF)] []=some nO:=by kernel_rfl
theorem Sv:rX ["self","grounds","beasts","ground","beast"] FZ [] ["range","tuple"] [("all_rows",sH),("owners",uK),("told",u5),("many",eX),("together",bT),("allowance",dX)] []=some yx:=by kernel_rfl
theorem G4:rX ["self","owner"] wY [("NoOwner",.exc)] [] [] []=some lF:=by kernel_rfl
theorem Tz:rX ["self","owner","ground","holder","where","mark"] FT [] [] [] []=some yc:=by kernel_rfl
theorem KD:rX ["self","owner","ground"] z8 [] ["len"] [("marks",cJ)] []=some rQ:=by kernel_rfl
theorem Ih:rX ["self","owner","ground"] wg [("NoRight",.exc)] [] [("has_right",qT)] []=some pX:=by kernel_rfl
theorem Jm:rY ["self"] xV [] [] [] []=some rF:=by kernel_rfl
theorem Jt:rY ["self","owner","ground","mark","row"] zB [("HasRight",.exc)] [] [] []=some oE:=by kernel_rfl
theorem aiE:rX ["ear","many","heads","depth","head","left","cut"] adN [("GREATEST_DEPTH",.con cR)] ["range","min"] [] []=some Yw:=by kernel_rfl
theorem aha:rX ["one","other","here","there"] aaI [] ["sum","zip"] [] []=some Rv:=by kernel_rfl
theorem ZK:rX ["mark","extra","ear"] MJ [("lacks",.fq 2 tZ),("torn",.fq 2 Jv)] [] [] []=some Ed:=by kernel_rfl
theorem agN:rX ["one","other"] aaC [("lacks",.fq 2 tZ)] ["max"] [] []=some R7:=by kernel_rfl
theorem ahT:rX ["one","other","room"] acg [("apart",.fq 2 Fd)] [] [] []=some W7:=by kernel_rfl
theorem Yr:rX ["mark","extra","rows","room","ear","owner","taken"] Ke [("NoneFree",.exc),("offspring",.fq 2 uP),("meet",.fq 3 qL)] ["any"] [] []=some wN:=by kernel_rfl
theorem Gx:rX ["self","owner","ground"] wD [] [] [("marks",cJ)] []=some pW:=by kernel_rfl
theorem aeK:rX ["rows"] Zq [] ["sorted","set"] [] []=some Nz:=by kernel_rfl
theorem Ml:rX ["self","number","beast"] Ay [] ["enumerate"] [] []=some uN:=by kernel_rfl
theorem TF:rX ["self","grounds","number","beast"] Fw [] [] [("all_living",dY)] []=some yg:=by kernel_rfl
theorem Ji:rX ["self","grounds","owner","ground","mark"] xP [] [] [] []=some qW:=by kernel_rfl
theorem Ea:rX ["self","left_out","ground","near","due","number","beast"] uQ [("tidied",.fq 1 pQ)] [] [("in_grounds",qj),("grazing",jr),("together",bT)] []=some jR:=by kernel_rfl
theorem Kv:rX ["self","ground"] zq [] [] [("standing_but",cZ)] []=some nJ:=by kernel_rfl
theorem Tf:rX ["self","ground","near"] Fb [] ["max"] [("together",bF),("allowance",dX)] []=some uf:=by kernel_rfl
theorem Tv:rX ["self","ground"] Ep [] [] [("room",rG)] []=some uD:=by kernel_rfl
theorem Kg:rY ["self","elder","ground","extra","mark","heir"] zJ [("first_free",.fq 4 pG),("BadExtra",.exc),("FEWEST_EXTRA",.con iU),("MOST_EXTRA",.con j7)] [] [("add_right",iw),("new_owner",gM),("room",cC),("standing",cH),("first_mark",bV),("need_right",aK),("need",aG),("need_owner",aC)] []=some dR:=by kernel_rfl
theorem Hu:rY ["self","allowance"] wH [("BadAllowance",.exc),("GREATEST_ALLOWANCE",.con gK)] [] [("many",eX)] []=some jy:=by kernel_rfl
theorem Hw:rY ["self","allowance"] wV [] [] [("add_ground",kJ)] []=some lC:=by kernel_rfl
theorem acG:rX ["owner","ear","rows","room","holder","mark"] Vq [("meet",.fq 3 qL),("tidied",.fq 1 pQ)] [] [] []=some K7:=by kernel_rfl
theorem agW:rX ["one","other","here","there"] aaB [] ["tuple","zip","max"] [] []=some R9:=by kernel_rfl
theorem aa0:rX ["owner","ear","rows","room","bars","holder","mark"] Qm [("Clash",.exi ["ones","others","ear"]),("joint",.fq 2 pA),("barring",.fq 4 zK)] [] [] []=some Bp:=by kernel_rfl
theorem HY:rX ["self","owner","ear","ground"] xJ [("ask_room",.fq 4 ou)] [] [("room",cC),("standing",cH)] []=some lJ:=by kernel_rfl
theorem adZ:rX ["parts","depth"] Yg [("GREATEST_DEPTH",.con cR),("PLACES",.con iQ)] ["all","len"] [] []=some GP:=by kernel_rfl
theorem aa7:rX ["parts"] Qu [("BadEar",.exc),("is_ear",.fq 1 tL)] [] [] []=some GJ:=by kernel_rfl
theorem Pa:rY ["self","owner","ground","mark"] Dr [("HasRight",.exc),("Bare",.exc),("BARE_EAR",.con ju),("need_ear",.fq 1 qd)] [] [("add_right",iw),("ask_ground",bU),("marks",cJ),("need",aG),("need_owner",aC)] []=some fX:=by kernel_rfl
theorem Ws:rY ["self","owner","ground","gone","mark"] IW [("NoRight",.exc)] [] [("marks",cJ)] []=some u9:=by kernel_rfl
theorem O7:rY ["self","owner","ground","number","beast"] Dh [("StillThere",.exc)] ["any"] [("drop",yO),("grazing",jr),("need_right",aK),("need",aG),("need_owner",aC)] []=some jw:=by kernel_rfl
theorem Ny:rY ["self","stand","owner","ground","due","ear","alive"] Ce [] [] [] []=some pZ:=by kernel_rfl
theorem ahg:rX ["first","word","mother","owner","ground","ear"] Z7 [("BARE_EAR",.con ju)] [] [] []=some Lq:=by kernel_rfl
theorem WW:rY ["self","first"] JB [("begun",.fq 1 Bu)] [] [("stand_so",jC)] []=some Cj:=by kernel_rfl
theorem NQ:rY ["self","first"] BZ [("Beast",.cls 1 sV)] ["len"] [] []=some vH:=by kernel_rfl
theorem Qz:rY ["self","owner","ground","ear"] Dk [("need_ear",.fq 1 qd)] [] [("add_beast",jD),("need_right",aK),("need",aG),("need_owner",aC)] []=some jo:=by kernel_rfl
theorem Yt:rX ["self","number"] Km [("NoBeast",.exc)] ["len"] [] []=some sY:=by kernel_rfl
theorem VP:rX ["self","number","beast"] IV [("Dead",.exc)] [] [("known",fD)] []=some uY:=by kernel_rfl
theorem V7:rX ["self","number","beast"] Jb [("Unmarked",.exc)] [] [("living",bJ)] []=some qI:=by kernel_rfl
theorem TQ:rY ["self","mother","cow"] Ey [] [] [("add_beast",jD),("marked",bD)] []=some lQ:=by kernel_rfl
theorem abg:rX ["ear","place","at","depth"] Q7 [] ["tuple","enumerate"] [] []=some Il:=by kernel_rfl
theorem acZ:rX ["stand","event","owner","ground","due","ear","alive","word"] Vu [("deepened",.fq 2 wj)] [] [] []=some Ka:=by kernel_rfl
theorem T9:rY ["self","event"] Gf [("gone_on",.fq 2 z9)] [] [("stand_so",jC),("stand",lN)] []=some yF:=by kernel_rfl
theorem Wj:rY ["self","beast","found","due"] Je [("joint",.fq 2 pA)] [] [("befall",bM),("ask_ground",bU),("first_mark",bV),("living",bJ)] []=some mZ:=by kernel_rfl
theorem SJ:rY ["self","beast","place","found"] FP [("Deepest",.exc),("GREATEST_DEPTH",.con cR),("NoPlace",.exc),("PLACES",.con iQ)] ["len"] [("befall",bM),("living",bJ)] []=some jd:=by kernel_rfl
theorem Wq:rX ["self","mother","number","beast"] Ja [] [] [("all_living",dY),("known",fD)] []=some vo:=by kernel_rfl
theorem KZ:rY ["self","mother","beast","number","calf"] zU [] [] [("calves",yL),("befall",bM),("known",fD)] []=some tD:=by kernel_rfl
theorem Ud:rY ["self","beast","buyer","found","due"] Eu [("ask_room",.fq 4 ou),("joint",.fq 2 pA),("SameOwner",.exc)] [] [("lead_calves",iy),("befall",bM),("room",cC),("standing_but",cZ),("first_mark",bV),("need_right",aK),("need_owner",aC),("marked",bD)] []=some fJ:=by kernel_rfl
theorem Uj:rY ["self","beast","ground","found","left"] Gi [("SameGround",.exc)] [] [("lead_calves",iy),("befall",bM),("ask_ground",bU),("need_right",aK),("need",aG),("marked",bD)] []=some fL:=by kernel_rfl
theorem Wk:rY ["self","beast"] Ir [] [] [("befall",bM),("living",bJ)] []=some qN:=by kernel_rfl
theorem aa4:rX ["rows","room","tidy","at","row","greater"] Qp [("meet",.fq 3 qL),("tidied",.fq 1 pQ)] ["enumerate"] [] []=some GD:=by kernel_rfl
theorem J8:rX ["self","ground","other","room"] zY [("clashing",.fq 2 uw)] ["max"] [("standing",cH),("room",cC)] []=some sJ:=by kernel_rfl
theorem Mq:rY ["self","grounds","circle","ground"] Bc [] ["tuple"] [] []=some uL:=by kernel_rfl
theorem Pj:rY ["self","ground","other","ones","others"] CQ [("Together",.exc)] ["sorted"] [("enclose",gj),("together",bF)] []=some rM:=by kernel_rfl
theorem QD:rY ["self","ground","other","pairs","row","greater"] Ds [("Clash",.exi ["ones","others","ear"]),("joint",.fq 2 pA),("Together",.exc)] [] [("unite",vK),("quarrels",mF),("together",bT),("need",aG)] []=some jh:=by kernel_rfl
theorem Sy:rY ["self","ground","left","near"] Gg [("Alone",.exc)] [] [("enclose",gj),("together",bF)] []=some o9:=by kernel_rfl
theorem RP:rY ["self","ground"] Fx [] [] [("part",m7)] []=some pq:=by kernel_rfl
theorem Kw:rY ["self","elder","heir","owner","ground","mark"] zA [] [] [] []=some rZ:=by kernel_rfl
theorem YS:rX ["self","owner","number","beast"] JF [] [] [("all_living",dY)] []=some Ck:=by kernel_rfl
theorem Mj:rY ["self","elder","heir","passed","number","beast"] Ba [("SameOwner",.exc)] [] [("befall",bM),("owned",Ad),("hand_over",qZ),("need_owner",aC)] []=some jB:=by kernel_rfl
theorem Zw:rX ["kind","part","greatest"] MK [("PLACES",.con iQ),("GREATEST_PART",.con nZ),("is_ear",.fq 1 tL)] ["isinstance","int","len","tuple"] [] []=some uX:=by kernel_rfl
theorem aj8:rX ["deed","shape","parts","kind","part"] acC [("part_fits",.fq 2 iz),("SHAPES",.dic (zj yu))] ["all","zip","len"] [] []=some X4:=by kernel_rfl
theorem Yk:rY ["self","deed","word","parts"] Jw [("BadDeed",.exc),("fits",.fq 1 FJ)] [] [("new_heir",qX),("pass_on",tG),("part",wU),("unite",vq),("die",xZ),("move",wW),("sell",xH),("tear",xM),("cut",yM),("bear",wB),("bring",vD),("leave",vM),("enrol",vB),("new_ground",oU),("new_owner",gM)] []=some cX:=by kernel_rfl
theorem aeo:rY ["_law_house","_law_deed_here","_law_told","e"] Xn [("Clash",.exi ["ones","others","ear"]),("CommonError",.exc)] [] [("do",qJ)] []=some BW:=by kernel_rfl
theorem aiv:rX ["_law_script","_law_k"] acV [] ["len"] [] []=some Y5:=by kernel_rfl
theorem acT:rX ["_law_stand","_law_deed_here"] VG [] [] [] []=some sU:=by kernel_rfl
theorem ags:rX ["_law_found"] aaT [] ["isinstance","bool","int"] [] []=some Ui:=by kernel_rfl
theorem ajK(r:Mo->List Dat->Out Dat):rd ⟨["_law_found","_law_due","_law_one","_law_other"],defScope Rm,[("_law_like",.fq 2 r),("_law_whole",.fq 1 Gv)],["zip","len","isinstance","list","tuple","str","int"],⟨[],jQ,xmH,dfH,Vs⟩,[],true⟩ (defBody Rm)=some (Fy r):=by kernel_rfl
theorem adL:rX ["_law_stand","_law_ground","_law_one"] Us [] ["max"] [] []=some JZ:=by kernel_rfl
theorem ajB:rX ["_law_rows","_law_found","_law_row_here"] adQ [] ["sorted"] [] ["_law_found"]=some XJ:=by kernel_rfl
theorem adU:rX ["_law_stand","_law_grounds_here","_law_but","_law_rows","_law_at","_law_beast","_law_owner","_law_ground","_law_mark"] Vb [("_law_once",.fq 1 JD)] ["enumerate"] [] ["_law_rows"]=some Kf:=by kernel_rfl
theorem akN:rX ["_law_one","_law_other","_law_a","_law_b"] afJ [] ["tuple","zip","max"] [] []=some abe:=by kernel_rfl
theorem agQ:rX ["_law_one","_law_other","_law_a","_law_b"] aaQ [] ["sum","zip","max"] [] []=some Uh:=by kernel_rfl
theorem ahE:rX ["_law_stand","_law_deed_here","_law_told","_law_ones","_law_others","_law_ear_here","_law_grounds_here","_law_space","_law_rows","_law_ground"] aaU [("_law_tears",.fq 2 Bw),("_law_like",.fq 2 (qF 10)),("_law_top",.fq 2 Qy),("_law_rows_of",.fq 3 zV),("_law_room_of",.fq 2 vW),("_law_grounds",.fq 2 nM)] ["max"] [] []=some Le:=by kernel_rfl
theorem akW:rY ["_law_script","_law_house","_law_deed_here","_law_stand","_law_told"] Lr [("_law_plan",.fq 2 JX),("_law_cell",.fq 2 Ew),("_law_shown",.fq 3 Bs),("_law_wanted",.fg 2 vC),("Commons",.cls 0 pJ)] ["abs"] [("look",rK)] []=some abx:=by kernel_rfl
structure Top(w:World)(K:aqe)(mg:Str->Option Value):Prop where
 ex:∃h:Heap,K.In h/\h.Ns mainGlobals mg
 c:Mf fa fn tbs exB w K
abbrev aj(w:World)(K:aqe):aQ:=nu w K xsH jQ
section
variable{P:Program}{w:World}{K:aqe}{mg:Str->Option Value}{base:Heap}{k:Nat}(T:Top w K mg)
include T
theorem Top.glo(i:Nat){x:Str}(h:fa[i]?=some (.glo x):=by rfl):mg x=some (.ref (He.ga K x)):=by obtain⟨_,X,G⟩:=T.ex;exact He.glo_ok X G (T.c.oG i h)
theorem Top.free(i:Nat){x:Str}(h:fa[i]?=some (.free x):=by rfl):mg x=none:=by obtain⟨_,X,G⟩:=T.ex;exact He.free_ok X G (T.c.oG i h)
theorem Top.int(i:Nat){x:Str}{j:Int}(h:fa[i]?=some (.int x j):=by rfl):∃t,mg x=some (.int j t):=by obtain⟨_,X,G⟩:=T.ex;exact He.int_ok X G (T.c.oG i h)
theorem Top.str(i:Nat){x j:Str}(h:fa[i]?=some (.str x j):=by rfl):∃t,mg x=some (.str j t):=by obtain⟨_,X,G⟩:=T.ex;exact He.str_ok X G (T.c.oG i h)
theorem vO:bx P w K mg base (aj w K) k "GREATEST_DEPTH" (.con cR):=by obtain⟨t,h⟩:=T.int 151;exact KQ h
theorem RQ:bx P w K mg base (aj w K) k "FEWEST_EXTRA" (.con iU):=by obtain⟨t,h⟩:=T.int 152;exact KQ h
theorem W4:bx P w K mg base (aj w K) k "MOST_EXTRA" (.con j7):=by obtain⟨t,h⟩:=T.int 153;exact KQ h
theorem Hv:bx P w K mg base (aj w K) k "GREATEST_ALLOWANCE" (.con gK):=by obtain⟨t,h⟩:=T.int 154;exact KQ h
theorem Nq:bx P w K mg base (aj w K) k "PLACES" (.con iQ):=adh (T.glo 155) (λH=>He.tupB_ok ((He.ba (He.ba (He.ba (He.ba T.c.more).1).1).1).2) H) rfl rfl ((He.ba (He.ba (He.ba T.c.more).1).1).2)
theorem Ph:bx P w K mg base (aj w K) k "BARE_EAR" (.con ju):=adh (T.glo 156) (λH=>He.tupB_ok ((He.ba (He.ba T.c.more).1).2) H) rfl rfl ((He.ba T.c.more).2)
theorem Py:bx P w K mg base (aj w K) k "GREATEST_PART" (.con nZ):=by obtain⟨t,h⟩:=T.int 157;exact KQ h
theorem aek:bx P w K mg base (aj w K) k "SHAPES" (.dic (zj yu)):=aif (T.glo 150) (He.ba (He.ba (He.ba (He.ba (He.ba T.c.more).1).1).1).1).2 (T.c.t.tab 0)
theorem abu:bx P w K mg base (aj w K) k "NoGround" .exc:=iH (by rfl) (T.glo 107) (T.c.oG 108)
theorem ab3:bx P w K mg base (aj w K) k "NoOwner" .exc:=iH (by rfl) (T.glo 109) (T.c.oG 110)
theorem VJ:bx P w K mg base (aj w K) k "NoRight" .exc:=iH (by rfl) (T.glo 111) (T.c.oG 112)
theorem Qs:bx P w K mg base (aj w K) k "HasRight" .exc:=iH (by rfl) (T.glo 113) (T.c.oG 114)
theorem abI:bx P w K mg base (aj w K) k "NoneFree" .exc:=iH (by rfl) (T.glo 115) (T.c.oG 116)
theorem abD:bx P w K mg base (aj w K) k "BadExtra" .exc:=iH (by rfl) (T.glo 117) (T.c.oG 118)
theorem Tp:bx P w K mg base (aj w K) k "BadAllowance" .exc:=iH (by rfl) (T.glo 119) (T.c.oG 120)
theorem afl:bx P w K mg base (aj w K) k "BadEar" .exc:=iH (by rfl) (T.glo 122) (T.c.oG 123)
theorem aj6:bx P w K mg base (aj w K) k "Bare" .exc:=iH (by rfl) (T.glo 124) (T.c.oG 125)
theorem X8:bx P w K mg base (aj w K) k "StillThere" .exc:=iH (by rfl) (T.glo 126) (T.c.oG 127)
theorem ab9:bx P w K mg base (aj w K) k "NoBeast" .exc:=iH (by rfl) (T.glo 128) (T.c.oG 129)
theorem aj0:bx P w K mg base (aj w K) k "Dead" .exc:=iH (by rfl) (T.glo 130) (T.c.oG 131)
theorem abb:bx P w K mg base (aj w K) k "Unmarked" .exc:=iH (by rfl) (T.glo 132) (T.c.oG 133)
theorem adg:bx P w K mg base (aj w K) k "Deepest" .exc:=iH (by rfl) (T.glo 134) (T.c.oG 135)
theorem abS:bx P w K mg base (aj w K) k "NoPlace" .exc:=iH (by rfl) (T.glo 136) (T.c.oG 137)
theorem Mu:bx P w K mg base (aj w K) k "SameOwner" .exc:=iH (by rfl) (T.glo 138) (T.c.oG 139)
theorem YC:bx P w K mg base (aj w K) k "SameGround" .exc:=iH (by rfl) (T.glo 140) (T.c.oG 141)
theorem Qq:bx P w K mg base (aj w K) k "Together" .exc:=iH (by rfl) (T.glo 142) (T.c.oG 143)
theorem agk:bx P w K mg base (aj w K) k "Alone" .exc:=iH (by rfl) (T.glo 144) (T.c.oG 145)
theorem acA:bx P w K mg base (aj w K) k "BadDeed" .exc:=iH (by rfl) (T.glo 146) (T.c.oG 147)
theorem VN:bx P w K mg base (aj w K) k "CommonError" .exc:=iH (by rfl) (T.glo 148) (T.c.oG 149)
theorem Top.afQ:Ju K jQ=true:=(He.ba (He.ba (He.ba (He.ba (He.ba (He.ba (He.ba (He.ba T.c.more).1).1).1).1).1).1).1).2
theorem Top.xf:(Vs.all λp=>xsH.contains p.1&&TX K p.1 p.2)=true:=(He.ba (He.ba (He.ba (He.ba (He.ba (He.ba T.c.more).1).1).1).1).1).2
theorem Top.hs{Ms:List (Str×List (Str×MV))}(h:DQ P w K mg base (aj w K) k Ms):Uc P w K mg base (aj w K) k ⟨Ms,jQ,xmH,dfH,Vs⟩:=akO h T.afQ (He.ba (He.ba (He.ba (He.ba (He.ba (He.ba (He.ba T.c.more).1).1).1).1).1).1).2 (by rfl) T.xf
theorem Top.cls{c:Str}{fs:List Str}(h:jQ.lookup c=some fs:=by rfl):Cls K (He.ga K c):=(Ye T.afQ h).1
local macro_rules | `(tactic| nofun)=>`(tactic| first | (exact λ_ _ _ _ _ _ us hl=>match us,hl with | [_],_=>rfl) | (exact λ_ _ _ _ _ _ us hl=>match us,hl with | [_,_],_=>rfl) | (exact λ_ _ _ _ _ _ us hl=>match us,hl with | [_,_,_],_=>rfl) | (exact λ_ _ _ _ _ _ us hl=>match us,hl with | [_,_,_,_],_=>rfl) | (exact λ_ _ _ _ _ _ us hl=>match us,hl with | [_,_,_,_,_],_=>rfl) | (exact λ_ _ _ _ _ _ us hl=>match us,hl with | [_,_,_,_,_,_],_=>rfl) | (exact λ_ _ _ _ _ _ us hl=>match us,hl with | [_,_,_,_,_,_,_],_=>rfl) | (exact λ_ _ _ _ _ _ us hl=>match us,hl with | [_,_,_,_,_,_,_,_],_=>rfl))
theorem vQ(i j:Nat){x:Str}{k0:Nat}(hk:k0+1<=k){st:Stmt}{N ps ml B:List Str}{G:List (Str×GV)}{Ms:List (Str×List (Str×MV))}{body:SF}(h:rX N st G B Ms ml=some body)(g:Cp P w K mg base (aj w K) k0 G)(b:Cz mg B)(ms:DQ P w K mg base (aj w K) k0 Ms)(hi:fn[i]?=some (dF x st):=by rfl)(hj:fa[j]?=some (.glo x):=by rfl)(S:FnScope N ps (defScope st):=by exact⟨rfl,rfl,rfl,by decide +kernel,rfl,by decide +kernel,by decide +kernel⟩)(hb:∀(kV doc pm:Value) (an:Option Addr) (cdv ct:Value) (us:List Value),us.length=ps.length->bindArgs (PySem.W.fnOf x x (defArgs st) (defBody st) (defScope st) .none kV doc pm an cdv ct) ⟨us,[]⟩=pure (ps.zip us):=by nofun):bx P w K mg base (aj w K) k x (.fq ps.length (mQ N.length body)):=by obtain⟨fd,F⟩:=T.c.Vj i hi;exact aeb hk (T.glo j hj) F.kp (FunD.bindsN (ps:=ps) F hb) (Yv (DN F) S g b (T.hs ms) h)
theorem wQ(i j:Nat){c m q:Str}{k0:Nat}(hk:k0+1<=k){st:Stmt}{N ps ml B:List Str}{G:List (Str×GV)}{Ms:List (Str×List (Str×MV))}{body:SF}(h:rX N st G B Ms ml=some body)(g:Cp P w K mg base (aj w K) k0 G)(b:Cz mg B)(ms:DQ P w K mg base (aj w K) k0 Ms)(hi:fn[i]?=some (dM c m q st):=by rfl)(hj:fa[j]?=some (.meth c m):=by rfl)(hx:xsH.contains c=true:=by rfl){fs:List Str}(hc:jQ.lookup c=some fs:=by rfl)(hf:((jQ.lookup c).getD []).contains m=false:=by rfl)(S:FnScope N ps (defScope st):=by exact⟨rfl,rfl,rfl,by decide +kernel,rfl,by decide +kernel,by decide +kernel⟩)(hb:∀(kV doc pm:Value) (an:Option Addr) (cdv ct:Value) (us:List Value),us.length=ps.length->bindArgs (PySem.W.fnOf m q (defArgs st) (defBody st) (defScope st) .none kV doc pm an cdv ct) ⟨us,[]⟩=pure (ps.zip us):=by nofun):bY P w K mg base (aj w K) k c m (.q ps.length (mQ N.length body)):=by obtain⟨fd,F⟩:=T.c.Vj i hi;exact amg hk hx (T.cls hc) (T.c.oG j hj) hf (FunD.bindsN (ps:=ps) F hb) (Yv (DN F) S g b (T.hs ms) h)
theorem vG(i j:Nat){x:Str}{k0:Nat}(hk:k0+1<=k){st:Stmt}{N ps ml B:List Str}{G:List (Str×GV)}{Ms:List (Str×List (Str×MV))}{body:SF}(h:rY N st G B Ms ml=some body)(g:Cp P w K mg base (aj w K) k0 G)(b:Cz mg B)(ms:DQ P w K mg base (aj w K) k0 Ms)(hi:fn[i]?=some (dF x st):=by rfl)(hj:fa[j]?=some (.glo x):=by rfl)(S:FnScope N ps (defScope st):=by exact⟨rfl,rfl,rfl,by decide +kernel,rfl,by decide +kernel,by decide +kernel⟩)(hb:∀(kV doc pm:Value) (an:Option Addr) (cdv ct:Value) (us:List Value),us.length=ps.length->bindArgs (PySem.W.fnOf x x (defArgs st) (defBody st) (defScope st) .none kV doc pm an cdv ct) ⟨us,[]⟩=pure (ps.zip us):=by nofun):bx P w K mg base (aj w K) k x (.fg ps.length (mG N.length body)):=by obtain⟨fd,F⟩:=T.c.Vj i hi;exact amD hk (T.glo j hj) F.kp (FunD.bindsN (ps:=ps) F hb) (Rr (DN F) S g b (T.hs ms) h)
theorem wG(i j:Nat){c m q:Str}{k0:Nat}(hk:k0+1<=k){st:Stmt}{N ps ml B:List Str}{G:List (Str×GV)}{Ms:List (Str×List (Str×MV))}{body:SF}(h:rY N st G B Ms ml=some body)(g:Cp P w K mg base (aj w K) k0 G)(b:Cz mg B)(ms:DQ P w K mg base (aj w K) k0 Ms)(hi:fn[i]?=some (dM c m q st):=by rfl)(hj:fa[j]?=some (.meth c m):=by rfl)(hx:xsH.contains c=true:=by rfl){fs:List Str}(hc:jQ.lookup c=some fs:=by rfl)(hf:((jQ.lookup c).getD []).contains m=false:=by rfl)(S:FnScope N ps (defScope st):=by exact⟨rfl,rfl,rfl,by decide +kernel,rfl,by decide +kernel,by decide +kernel⟩)(hb:∀(kV doc pm:Value) (an:Option Addr) (cdv ct:Value) (us:List Value),us.length=ps.length->bindArgs (PySem.W.fnOf m q (defArgs st) (defBody st) (defScope st) .none kV doc pm an cdv ct) ⟨us,[]⟩=pure (ps.zip us):=by nofun):bY P w K mg base (aj w K) k c m (.g ps.length (mG N.length body)):=by obtain⟨fd,F⟩:=T.c.Vj i hi;exact ame hk hx (T.cls hc) (T.c.oG j hj) hf (FunD.bindsN (ps:=ps) F hb) (Rr (DN F) S g b (T.hs ms) h)
theorem vI(i j l:Nat){c q:Str}{n:Nat}{k0:Nat}{st:Stmt}{N ps ml B:List Str}{G:List (Str×GV)}{Ms:List (Str×List (Str×MV))}{body:SF}(h:rY N st G B Ms ml=some body)(g:Cp P w K mg base (aj w K) k0 G)(b:Cz mg B)(ms:DQ P w K mg base (aj w K) k0 Ms)(hk:k0+1+1<=k)(hi:fn[i]?=some (dM c "__init__" q st):=by rfl)(hj:fa[j]?=some (.mkr c):=by rfl)(hg:fa[l]?=some (.glo c):=by rfl)(hx:xsH.contains c=true:=by rfl){fs:List Str}(hc:jQ.lookup c=some fs:=by rfl)(hp:ps.length=n+1:=by rfl)(S:FnScope N ps (defScope st):=by exact⟨rfl,rfl,rfl,by decide +kernel,rfl,by decide +kernel,by decide +kernel⟩)(hb:∀(kV doc pm:Value) (an:Option Addr) (cdv ct:Value) (us:List Value),us.length=ps.length->bindArgs (PySem.W.fnOf "__init__" q (defArgs st) (defBody st) (defScope st) .none kV doc pm an cdv ct) ⟨us,[]⟩=pure (ps.zip us):=by nofun):bx P w K mg base (aj w K) k c (.cls n (mG N.length body)):=by obtain⟨fd,F⟩:=T.c.Vj i hi;exact akn hk hx (T.glo l hg) (T.cls hc) (T.c.oG j hj) hp (FunD.bindsN (ps:=ps) F hb) (Rr (DN F) S g b (T.hs ms) h)
theorem RW(hk:2<=k):bx P w K mg base (aj w K) k "Clash" (.exi ["ones","others","ear"]):=by
 have ho:TX K "Clash" ["ones","others","ear"]=true:=(He.ba (aqB.mp T.xf _ (show(("Clash" : Str),(["ones","others","ear"]:List Str))∈Vs by simp[Vs]))).2
 obtain⟨o1,o2,o3,o4,o5⟩:=S7 ho;obtain⟨fd,F⟩:=T.c.Vj 102;have b:=FunD.bindsN (ps:=["self","ones","others","ear"]) F λ_ _ _ _ _ _ us hl=>match us,hl with|[_,_,_,_],_=>rfl
 exact aku hk (by rfl) (T.glo 121) ho rfl b (acM (DN F) VR o1 (by rfl) (by decide) (o5 _ (by decide)) (o5 _ (by decide)) (o5 _ (by decide)))
theorem ac8(hk:2<=k:=by omega):bx P w K mg base (aj w K) k "Grounds" (.cls 0 tM):=vI T 0 0 102 (ps:=["self"]) RM trivial trivial trivial hk
theorem aen(hk:2<=k:=by omega):bx P w K mg base (aj w K) k "Rights" (.cls 0 uZ):=vI T 1 1 103 (ps:=["self"]) Wr trivial trivial trivial hk
theorem ail(hk:2<=k:=by omega):bx P w K mg base (aj w K) k "Herd" (.cls 0 zf):=vI T 2 2 104 (ps:=["self"]) ZF trivial trivial trivial hk
theorem acS(hk:4<=k:=by omega):bx P w K mg base (aj w K) k "Commons" (.cls 0 pJ):=vI T 3 3 105 (ps:=["self"]) R5 ⟨ail T,aen T,ac8 T,arp⟩ trivial trivial hk
theorem afH(hk:1<=k:=by omega):bx P w K mg base (aj w K) k "_law_row" (.fq 3 yX):=vQ T 4 4 hk (ps:=["_law_cell_here","_law_many","_law_base"]) ali trivial ⟨T.free 158,T.free 159,arp⟩ trivial
theorem Yi(hk:1<=k:=by omega):bx P w K mg base (aj w K) k "_law_ear_by" (.fq 2 rP):=vQ T 5 5 hk (ps:=["_law_figures","_law_mode"]) aeS trivial ⟨T.free 160,T.free 161,arp⟩ trivial
theorem akY(hk:2<=k:=by omega):bx P w K mg base (aj w K) k "_law_ear" (.fq 1 Qa):=vQ T 6 6 hk (ps:=["_law_cell_here"]) akT ⟨Yi T,afH T,arp⟩ trivial trivial
theorem Zx(hk:1<=k:=by omega):bx P w K mg base (aj w K) k "_law_begun" (.fq 1 uR):=vQ T 7 7 hk (ps:=["_law_head"]) Zu trivial trivial trivial
theorem ac3(hk:1<=k:=by omega):bx P w K mg base (aj w K) k "_law_word_by" (.fq 1 vU):=vQ T 8 8 hk (ps:=["_law_figure"]) adp trivial trivial trivial
theorem aiP(hk:1<=k:=by omega):bx P w K mg base (aj w K) k "_law_near" (.fq 2 Jp):=vQ T 9 9 hk (ps:=["_law_ear_here","_law_figures"]) ajd trivial ⟨T.free 160,T.free 162,T.free 161,T.free 163,arp⟩ trivial
theorem adA(hk:2<=k:=by omega):bx P w K mg base (aj w K) k "_law_mark_by" (.fq 3 v7):=vQ T 10 10 hk (ps:=["_law_figures","_law_mode","_law_base"]) ab7 ⟨Yi T,aiP T,arp⟩ trivial trivial
theorem alq(hk:1<=k:=by omega):bx P w K mg base (aj w K) k "_law_ref" (.fq 3 jG):=vQ T 11 11 hk (ps:=["_law_figure","_law_many","_law_sure"]) alp trivial ⟨T.free 161,arp⟩ trivial
theorem ajN(hk:3<=k:=by omega):bx P w K mg base (aj w K) k "_law_deed" (.fq 6 fV):=vQ T 12 12 hk (ps:=["_law_word","_law_one","_law_two","_law_parts","_law_counts","_law_base"]) ahV ⟨alq T,adA T,arp⟩ ⟨T.free 164,arp⟩ trivial
theorem ahY(hk:4<=k:=by omega):bx P w K mg base (aj w K) k "_law_plan" (.fq 2 JX):=vQ T 13 13 hk (ps:=["_law_cells","_law_head"]) aiB ⟨ajN T,ac3 T,afH T,Zx T,akY T,arp⟩ ⟨T.free 165,T.free 166,arp⟩ trivial
theorem Ez(hk:1<=k:=by omega):bY P w K mg base (aj w K) k "Beast" "stand" (.q 1 vm):=wQ T 14 14 hk (ps:=["self"]) Wf trivial trivial trivial
theorem Wn(hk:2<=k:=by omega):bY P w K mg base (aj w K) k "Beast" "told" (.q 1 wX):=wQ T 15 15 hk (ps:=["self"]) Xo trivial ⟨T.free 160,arp⟩ ⟨⟨Ez T,arp⟩,arp⟩
theorem Mh(hk:1<=k:=by omega):bY P w K mg base (aj w K) k "Commons" "owners" (.q 1 qp):=wQ T 16 16 hk (ps:=["self"]) Nm trivial ⟨T.free 167,arp⟩ trivial
theorem JM(hk:1<=k:=by omega):bY P w K mg base (aj w K) k "Rights" "all_rows" (.q 1 oK):=wQ T 17 17 hk (ps:=["self"]) Mr trivial ⟨T.free 167,arp⟩ trivial
theorem wI(hk:1<=k:=by omega):bY P w K mg base (aj w K) k "Grounds" "many" (.q 1 oY):=wQ T 18 18 hk (ps:=["self"]) Td trivial ⟨T.free 166,arp⟩ trivial
theorem Sq(hk:2<=k:=by omega):bY P w K mg base (aj w K) k "Grounds" "has" (.q 2 vf):=wQ T 19 19 hk (ps:=["self","ground"]) Wi trivial trivial ⟨⟨wI T,arp⟩,arp⟩
theorem gU(hk:3<=k:=by omega):bY P w K mg base (aj w K) k "Grounds" "need" (.q 2 uz):=wQ T 20 20 hk (ps:=["self","ground"]) T6 ⟨abu T,arp⟩ trivial ⟨⟨Sq T,arp⟩,arp⟩
theorem wJ(hk:4<=k:=by omega):bY P w K mg base (aj w K) k "Grounds" "allowance" (.q 2 jH):=wQ T 21 21 hk (ps:=["self","ground"]) Jl trivial trivial ⟨⟨gU T,arp⟩,arp⟩
theorem mK(hk:4<=k:=by omega):bY P w K mg base (aj w K) k "Grounds" "together" (.q 2 j5):=wQ T 22 22 hk (ps:=["self","ground"]) Ky trivial ⟨T.free 167,arp⟩ ⟨⟨gU T,arp⟩,arp⟩
theorem rC(hk:5<=k:=by omega):bY P w K mg base (aj w K) k "Commons" "together" (.q 2 kh):=wQ T 23 23 hk (ps:=["self","ground"]) Jy trivial trivial ⟨⟨mK T,arp⟩,arp⟩
theorem Qh(hk:6<=k:=by omega):bY P w K mg base (aj w K) k "Commons" "look" (.q 1 pB):=wQ T 24 24 hk (ps:=["self"]) Sv trivial ⟨T.free 158,T.free 160,arp⟩ ⟨⟨JM T,arp⟩,⟨Mh T,arp⟩,⟨Wn T,arp⟩,⟨wI T,arp⟩,⟨rC T,arp⟩,⟨wJ T,arp⟩,arp⟩
theorem fZ(hk:1<=k:=by omega):bY P w K mg base (aj w K) k "Commons" "need_owner" (.q 2 jm):=wQ T 25 25 hk (ps:=["self","owner"]) G4 ⟨ab3 T,arp⟩ trivial trivial
theorem rO(hk:1<=k:=by omega):bY P w K mg base (aj w K) k "Rights" "marks" (.q 3 uh):=wQ T 26 26 hk (ps:=["self","owner","ground"]) Tz trivial trivial trivial
theorem Jg(hk:2<=k:=by omega):bY P w K mg base (aj w K) k "Rights" "has_right" (.q 3 ni):=wQ T 27 27 hk (ps:=["self","owner","ground"]) KD trivial ⟨T.free 166,arp⟩ ⟨⟨rO T,arp⟩,arp⟩
theorem jg(hk:3<=k:=by omega):bY P w K mg base (aj w K) k "Commons" "need_right" (.q 3 lG):=wQ T 28 28 hk (ps:=["self","owner","ground"]) Ih ⟨VJ T,arp⟩ trivial ⟨⟨Jg T,arp⟩,arp⟩
theorem wZ(hk:1<=k:=by omega):bY P w K mg base (aj w K) k "Commons" "new_owner" (.g 1 ig):=wG T 29 29 hk (ps:=["self"]) Jm trivial trivial trivial
theorem xR(hk:1<=k:=by omega):bY P w K mg base (aj w K) k "Rights" "add_right" (.g 4 iY):=wG T 30 30 hk (ps:=["self","owner","ground","mark"]) Jt ⟨Qs T,arp⟩ trivial trivial
theorem ajx(hk:1<=k:=by omega):bx P w K mg base (aj w K) k "torn" (.fq 2 Jv):=vQ T 31 31 hk (ps:=["ear","many"]) aiE ⟨vO T,arp⟩ ⟨T.free 158,T.free 163,arp⟩ trivial
theorem aaX(hk:1<=k:=by omega):bx P w K mg base (aj w K) k "lacks" (.fq 2 tZ):=vQ T 32 32 hk (ps:=["one","other"]) aha trivial ⟨T.free 168,T.free 162,arp⟩ trivial
theorem ZR(hk:2<=k:=by omega):bx P w K mg base (aj w K) k "offspring" (.fq 2 uP):=vQ T 33 33 hk (ps:=["mark","extra"]) ZK ⟨aaX T,ajx T,arp⟩ trivial trivial
theorem agg(hk:2<=k:=by omega):bx P w K mg base (aj w K) k "apart" (.fq 2 Fd):=vQ T 34 34 hk (ps:=["one","other"]) agN ⟨aaX T,arp⟩ ⟨T.free 161,arp⟩ trivial
theorem Yc(hk:3<=k:=by omega):bx P w K mg base (aj w K) k "meet" (.fq 3 qL):=vQ T 35 35 hk (ps:=["one","other","room"]) ahT ⟨agg T,arp⟩ trivial trivial
theorem Y0(hk:4<=k:=by omega):bx P w K mg base (aj w K) k "first_free" (.fq 4 pG):=vQ T 36 36 hk (ps:=["mark","extra","rows","room"]) Yr ⟨abI T,ZR T,Yc T,trivial⟩ ⟨T.free 169,trivial⟩ trivial
theorem oV(hk:2<=k:=by omega):bY P w K mg base (aj w K) k "Commons" "first_mark" (.q 3 lH):=wQ T 37 37 hk (ps:=["self","owner","ground"]) Gx trivial trivial ⟨⟨rO T,trivial⟩,trivial⟩
theorem Oi(hk:1<=k:=by omega):bx P w K mg base (aj w K) k "tidied" (.fq 1 pQ):=vQ T 38 38 hk (ps:=["rows"]) aeK trivial ⟨T.free 170,T.free 171,arp⟩ trivial
theorem sG(hk:1<=k:=by omega):bY P w K mg base (aj w K) k "Herd" "all_living" (.q 1 oM):=wQ T 39 39 hk (ps:=["self"]) Ml trivial ⟨T.free 165,arp⟩ trivial
theorem Dz(hk:2<=k:=by omega):bY P w K mg base (aj w K) k "Herd" "grazing" (.q 2 oX):=wQ T 40 40 hk (ps:=["self","grounds"]) TF trivial trivial ⟨⟨sG T,arp⟩,arp⟩
theorem HW(hk:1<=k:=by omega):bY P w K mg base (aj w K) k "Rights" "in_grounds" (.q 2 mH):=wQ T 41 41 hk (ps:=["self","grounds"]) Ji trivial trivial trivial
theorem uF(hk:6<=k:=by omega):bY P w K mg base (aj w K) k "Commons" "standing_but" (.q 3 iD):=wQ T 42 42 hk (ps:=["self","left_out","ground"]) Ea ⟨Oi T,arp⟩ trivial ⟨⟨HW T,arp⟩,⟨Dz T,arp⟩,⟨rC T,arp⟩,arp⟩
theorem rA(hk:7<=k:=by omega):bY P w K mg base (aj w K) k "Commons" "standing" (.q 2 j9):=wQ T 43 43 hk (ps:=["self","ground"]) Kv trivial trivial ⟨⟨uF T,arp⟩,arp⟩
theorem PB(hk:5<=k:=by omega):bY P w K mg base (aj w K) k "Grounds" "room" (.q 2 oZ):=wQ T 44 44 hk (ps:=["self","ground"]) Tf trivial ⟨T.free 161,arp⟩ ⟨⟨mK T,arp⟩,⟨wJ T,arp⟩,arp⟩
theorem rN(hk:6<=k:=by omega):bY P w K mg base (aj w K) k "Commons" "room" (.q 2 pF):=wQ T 45 45 hk (ps:=["self","ground"]) Tv trivial trivial ⟨⟨PB T,arp⟩,arp⟩
theorem Jh(hk:8<=k:=by omega):bY P w K mg base (aj w K) k "Commons" "new_heir" (.g 4 cW):=wG T 46 46 hk (ps:=["self","elder","ground","extra"]) Kg ⟨Y0 T,abD T,RQ T,W4 T,arp⟩ trivial ⟨⟨xR T,arp⟩,⟨wZ T,arp⟩,⟨rN T,arp⟩,⟨rA T,arp⟩,⟨oV T,arp⟩,⟨jg T,arp⟩,⟨gU T,arp⟩,⟨fZ T,arp⟩,arp⟩
theorem Fo(hk:2<=k:=by omega):bY P w K mg base (aj w K) k "Grounds" "add_ground" (.g 2 eZ):=wG T 47 47 hk (ps:=["self","allowance"]) Hu ⟨Tp T,Hv T,arp⟩ trivial ⟨⟨wI T,arp⟩,arp⟩
theorem El(hk:3<=k:=by omega):bY P w K mg base (aj w K) k "Commons" "new_ground" (.g 2 gG):=wG T 48 48 hk (ps:=["self","allowance"]) Hw trivial trivial ⟨⟨Fo T,arp⟩,arp⟩
theorem adD(hk:4<=k:=by omega):bx P w K mg base (aj w K) k "barring" (.fq 4 zK):=vQ T 49 49 hk (ps:=["owner","ear","rows","room"]) acG ⟨Yc T,Oi T,arp⟩ trivial trivial
theorem Ly(hk:1<=k:=by omega):bx P w K mg base (aj w K) k "joint" (.fq 2 pA):=vQ T 50 50 hk (ps:=["one","other"]) agW trivial ⟨T.free 160,T.free 162,T.free 161,arp⟩ trivial
theorem O8(hk:5<=k:=by omega):bx P w K mg base (aj w K) k "ask_room" (.fq 4 ou):=vQ T 51 51 hk (ps:=["owner","ear","rows","room"]) aa0 ⟨RW T (by decide),Ly T,adD T,arp⟩ trivial trivial
theorem o7(hk:8<=k:=by omega):bY P w K mg base (aj w K) k "Commons" "ask_ground" (.q 4 gJ):=wQ T 52 52 hk (ps:=["self","owner","ear","ground"]) HY ⟨O8 T,arp⟩ trivial ⟨⟨rN T,arp⟩,⟨rA T,arp⟩,arp⟩
theorem Ys(hk:1<=k:=by omega):bx P w K mg base (aj w K) k "is_ear" (.fq 1 tL):=vQ T 53 53 hk (ps:=["parts"]) adZ ⟨vO T,Nq T,arp⟩ ⟨T.free 172,T.free 166,arp⟩ trivial
theorem Pk(hk:2<=k:=by omega):bx P w K mg base (aj w K) k "need_ear" (.fq 1 qd):=vQ T 54 54 hk (ps:=["parts"]) aa7 ⟨afl T,Ys T,arp⟩ trivial trivial
theorem Nv(hk:9<=k:=by omega):bY P w K mg base (aj w K) k "Commons" "enrol" (.g 4 dU):=wG T 55 55 hk (ps:=["self","owner","ground","mark"]) Pa ⟨Qs T,aj6 T,Ph T,Pk T,arp⟩ trivial ⟨⟨xR T,arp⟩,⟨o7 T,arp⟩,⟨rO T,arp⟩,⟨gU T,arp⟩,⟨fZ T,arp⟩,arp⟩
theorem Tn(hk:2<=k:=by omega):bY P w K mg base (aj w K) k "Rights" "drop" (.g 3 mV):=wG T 56 56 hk (ps:=["self","owner","ground"]) Ws ⟨VJ T,arp⟩ trivial ⟨⟨rO T,arp⟩,arp⟩
theorem M8(hk:4<=k:=by omega):bY P w K mg base (aj w K) k "Commons" "leave" (.g 3 fW):=wG T 57 57 hk (ps:=["self","owner","ground"]) O7 ⟨X8 T,arp⟩ ⟨T.free 169,arp⟩ ⟨⟨Tn T,arp⟩,⟨Dz T,arp⟩,⟨jg T,arp⟩,⟨gU T,arp⟩,⟨fZ T,arp⟩,arp⟩
theorem Bb(hk:1<=k:=by omega):bY P w K mg base (aj w K) k "Beast" "stand_so" (.g 2 mD):=wG T 58 58 hk (ps:=["self","stand"]) Ny trivial trivial trivial
theorem agp(hk:1<=k:=by omega):bx P w K mg base (aj w K) k "begun" (.fq 1 Bu):=vQ T 59 59 hk (ps:=["first"]) ahg ⟨Ph T,trivial⟩ trivial trivial
theorem ahx(hk:3<=k:=by omega):bx P w K mg base (aj w K) k "Beast" (.cls 1 sV):=vI T 60 60 106 (ps:=["self","first"]) WW ⟨agp T,trivial⟩ trivial ⟨⟨Bb T,trivial⟩,trivial⟩ hk
theorem Az(hk:4<=k:=by omega):bY P w K mg base (aj w K) k "Herd" "add_beast" (.g 2 qw):=wG T 61 61 hk (ps:=["self","first"]) NQ ⟨ahx T,trivial⟩ ⟨T.free 166,trivial⟩ trivial
theorem Ot(hk:5<=k:=by omega):bY P w K mg base (aj w K) k "Commons" "bring" (.g 4 fY):=wG T 62 62 hk (ps:=["self","owner","ground","ear"]) Qz ⟨Pk T,arp⟩ trivial ⟨⟨Az T,arp⟩,⟨jg T,arp⟩,⟨gU T,arp⟩,⟨fZ T,arp⟩,arp⟩
theorem Av(hk:1<=k:=by omega):bY P w K mg base (aj w K) k "Herd" "known" (.q 2 jV):=wQ T 63 63 hk (ps:=["self","number"]) Yt ⟨ab9 T,arp⟩ ⟨T.free 166,arp⟩ trivial
theorem tY(hk:2<=k:=by omega):bY P w K mg base (aj w K) k "Herd" "living" (.q 2 qM):=wQ T 64 64 hk (ps:=["self","number"]) VP ⟨aj0 T,arp⟩ trivial ⟨⟨Av T,arp⟩,arp⟩
theorem yR(hk:3<=k:=by omega):bY P w K mg base (aj w K) k "Herd" "marked" (.q 2 mW):=wQ T 65 65 hk (ps:=["self","number"]) V7 ⟨abb T,arp⟩ trivial ⟨⟨tY T,arp⟩,arp⟩
theorem Rk(hk:5<=k:=by omega):bY P w K mg base (aj w K) k "Commons" "bear" (.g 2 iW):=wG T 66 66 hk (ps:=["self","mother"]) TQ trivial trivial ⟨⟨Az T,arp⟩,⟨yR T,arp⟩,arp⟩
theorem abF(hk:1<=k:=by omega):bx P w K mg base (aj w K) k "deepened" (.fq 2 wj):=vQ T 67 67 hk (ps:=["ear","place"]) abg trivial ⟨T.free 160,T.free 165,arp⟩ trivial
theorem adV(hk:2<=k:=by omega):bx P w K mg base (aj w K) k "gone_on" (.fq 2 z9):=vQ T 68 68 hk (ps:=["stand","event"]) acZ ⟨abF T,arp⟩ trivial trivial
theorem jA(hk:3<=k:=by omega):bY P w K mg base (aj w K) k "Beast" "befall" (.g 2 lM):=wG T 69 69 hk (ps:=["self","event"]) T9 ⟨adV T,arp⟩ trivial ⟨⟨Bb T,arp⟩,⟨Ez T,arp⟩,arp⟩
theorem S8(hk:9<=k:=by omega):bY P w K mg base (aj w K) k "Commons" "cut" (.g 2 jE):=wG T 70 70 hk (ps:=["self","beast"]) Wj ⟨Ly T,arp⟩ trivial ⟨⟨jA T,arp⟩,⟨o7 T,arp⟩,⟨oV T,arp⟩,⟨tY T,arp⟩,arp⟩
theorem Qi(hk:4<=k:=by omega):bY P w K mg base (aj w K) k "Commons" "tear" (.g 3 fK):=wG T 71 71 hk (ps:=["self","beast","place"]) SJ ⟨adg T,vO T,abS T,Nq T,arp⟩ ⟨T.free 166,arp⟩ ⟨⟨jA T,arp⟩,⟨tY T,arp⟩,arp⟩
theorem Ug(hk:2<=k:=by omega):bY P w K mg base (aj w K) k "Herd" "calves" (.q 2 qK):=wQ T 72 72 hk (ps:=["self","mother"]) Wq trivial trivial ⟨⟨sG T,arp⟩,⟨Av T,arp⟩,arp⟩
theorem xY(hk:4<=k:=by omega):bY P w K mg base (aj w K) k "Herd" "lead_calves" (.g 2 m9):=wG T 73 73 hk (ps:=["self","mother"]) KZ trivial trivial ⟨⟨Ug T,arp⟩,⟨jA T,arp⟩,⟨Av T,arp⟩,arp⟩
theorem P0(hk:7<=k:=by omega):bY P w K mg base (aj w K) k "Commons" "sell" (.g 3 dJ):=wG T 74 74 hk (ps:=["self","beast","buyer"]) Ud ⟨O8 T,Ly T,Mu T,arp⟩ trivial ⟨⟨xY T,arp⟩,⟨jA T,arp⟩,⟨rN T,arp⟩,⟨uF T,arp⟩,⟨oV T,arp⟩,⟨jg T,arp⟩,⟨fZ T,arp⟩,⟨yR T,arp⟩,arp⟩
theorem Rq(hk:9<=k:=by omega):bY P w K mg base (aj w K) k "Commons" "move" (.g 3 dN):=wG T 75 75 hk (ps:=["self","beast","ground"]) Uj ⟨YC T,arp⟩ trivial ⟨⟨xY T,arp⟩,⟨jA T,arp⟩,⟨o7 T,arp⟩,⟨jg T,arp⟩,⟨gU T,arp⟩,⟨yR T,arp⟩,arp⟩
theorem Tj(hk:4<=k:=by omega):bY P w K mg base (aj w K) k "Commons" "die" (.g 2 kY):=wG T 76 76 hk (ps:=["self","beast"]) Wk trivial trivial ⟨⟨jA T,arp⟩,⟨tY T,arp⟩,arp⟩
theorem abM(hk:4<=k:=by omega):bx P w K mg base (aj w K) k "clashing" (.fq 2 uw):=vQ T 77 77 hk (ps:=["rows","room"]) aa4 ⟨Yc T,Oi T,arp⟩ ⟨T.free 165,arp⟩ trivial
theorem Jj(hk:8<=k:=by omega):bY P w K mg base (aj w K) k "Commons" "quarrels" (.q 3 jZ):=wQ T 78 78 hk (ps:=["self","ground","other"]) J8 ⟨abM T,arp⟩ ⟨T.free 161,arp⟩ ⟨⟨rA T,arp⟩,⟨rN T,arp⟩,arp⟩
theorem zH(hk:1<=k:=by omega):bY P w K mg base (aj w K) k "Grounds" "enclose" (.g 2 lu):=wG T 79 79 hk (ps:=["self","grounds"]) Mq trivial ⟨T.free 160,arp⟩ trivial
theorem Oz(hk:5<=k:=by omega):bY P w K mg base (aj w K) k "Grounds" "unite" (.g 3 kW):=wG T 80 80 hk (ps:=["self","ground","other"]) Pj ⟨Qq T,arp⟩ ⟨T.free 170,arp⟩ ⟨⟨zH T,arp⟩,⟨mK T,arp⟩,arp⟩
theorem O5(hk:9<=k:=by omega):bY P w K mg base (aj w K) k "Commons" "unite" (.g 3 fQ):=wG T 81 81 hk (ps:=["self","ground","other"]) QD ⟨RW T (by decide),Ly T,Qq T,arp⟩ trivial ⟨⟨Oz T,arp⟩,⟨Jj T,arp⟩,⟨rC T,arp⟩,⟨gU T,arp⟩,arp⟩
theorem QS(hk:5<=k:=by omega):bY P w K mg base (aj w K) k "Grounds" "part" (.g 2 iZ):=wG T 82 82 hk (ps:=["self","ground"]) Sy ⟨agk T,arp⟩ trivial ⟨⟨zH T,arp⟩,⟨mK T,arp⟩,arp⟩
theorem QL(hk:6<=k:=by omega):bY P w K mg base (aj w K) k "Commons" "part" (.g 2 jP):=wG T 83 83 hk (ps:=["self","ground"]) RP trivial trivial ⟨⟨QS T,arp⟩,arp⟩
theorem Jk(hk:1<=k:=by omega):bY P w K mg base (aj w K) k "Rights" "hand_over" (.g 3 nQ):=wG T 84 84 hk (ps:=["self","elder","heir"]) Kw trivial trivial trivial
theorem V6(hk:2<=k:=by omega):bY P w K mg base (aj w K) k "Herd" "owned" (.q 2 xO):=wQ T 85 85 hk (ps:=["self","owner"]) YS trivial trivial ⟨⟨sG T,arp⟩,arp⟩
theorem Jz(hk:4<=k:=by omega):bY P w K mg base (aj w K) k "Commons" "pass_on" (.g 3 fO):=wG T 86 86 hk (ps:=["self","elder","heir"]) Mj ⟨Mu T,arp⟩ trivial ⟨⟨jA T,arp⟩,⟨V6 T,arp⟩,⟨Jk T,arp⟩,⟨fZ T,arp⟩,arp⟩
theorem ZS(hk:2<=k:=by omega):bx P w K mg base (aj w K) k "part_fits" (.fq 2 iz):=vQ T 87 87 hk (ps:=["kind","part"]) Zw ⟨Nq T,Py T,Ys T,arp⟩ ⟨T.free 173,T.free 164,T.free 166,T.free 160,arp⟩ trivial
theorem ajT(hk:3<=k:=by omega):bx P w K mg base (aj w K) k "fits" (.fq 1 FJ):=vQ T 88 88 hk (ps:=["deed"]) aj8 ⟨ZS T,aek T,arp⟩ ⟨T.free 172,T.free 162,T.free 166,arp⟩ trivial
theorem Wh(hk:10<=k:=by omega):bY P w K mg base (aj w K) k "Commons" "do" (.g 2 cQ):=wG T 89 89 hk (ps:=["self","deed"]) Yk ⟨acA T,ajT T,arp⟩ trivial ⟨⟨Jh T,arp⟩,⟨Jz T,arp⟩,⟨QL T,arp⟩,⟨O5 T,arp⟩,⟨Tj T,arp⟩,⟨Rq T,arp⟩,⟨P0 T,arp⟩,⟨Qi T,arp⟩,⟨S8 T,arp⟩,⟨Rk T,arp⟩,⟨Ot T,arp⟩,⟨M8 T,arp⟩,⟨Nv T,arp⟩,⟨El T,arp⟩,⟨wZ T,arp⟩,arp⟩
theorem afj(hk:11<=k:=by omega):bx P w K mg base (aj w K) k "_law_wanted" (.fg 2 vC):=vG T 90 90 hk (ps:=["_law_house","_law_deed_here"]) aeo ⟨RW T (by decide),VN T,arp⟩ trivial ⟨⟨Wh T,arp⟩,arp⟩
theorem akm(hk:1<=k:=by omega):bx P w K mg base (aj w K) k "_law_cell" (.fq 2 Ew):=vQ T 91 91 hk (ps:=["_law_script","_law_k"]) aiv trivial ⟨T.free 166,arp⟩ trivial
theorem adH(hk:1<=k:=by omega):bx P w K mg base (aj w K) k "_law_grounds" (.fq 2 nM):=vQ T 92 92 hk (ps:=["_law_stand","_law_deed_here"]) acT trivial trivial trivial
theorem agt(hk:1<=k:=by omega):bx P w K mg base (aj w K) k "_law_whole" (.fq 1 Gv):=vQ T 93 93 hk (ps:=["_law_found"]) ags trivial ⟨T.free 173,T.free 174,T.free 164,arp⟩ trivial
theorem ahQ(hk:12<=k:=by omega):bx P w K mg base (aj w K) k "_law_like" (.fq 2 (qF 10)):=by
 obtain⟨fd,F⟩:=T.c.Vj 94;have b:=FunD.bindsN (ps:=["_law_found","_law_due"]) F λ_ _ _ _ _ _ us hl=>match us,hl with|[_,_],_=>rfl
 have key:∀j:Nat,FnOk P w K mg base (L2.CX P w) (2+j) (He.ga K "_law_like") fd ["_law_found","_law_due"] (Vt K (aj w K) 2 (qF j)):=by
  intro j
  induction j with
  |zero=>exact ahJ
  |succ j ih'=>
   have ih:∀{k:Nat},2+j<=k->bx P w K mg base (aj w K) k "_law_like" (.fq 2 (qF j)):=λhk=>aeb hk (T.glo 94) F.kp (b) ih'
   refine Yv (k:=2+j) (DN F) ahi ?_ ?_ ?_ (ajK (qF j))
   ·exact⟨ih (aqF _),agt T,arp⟩
   ·exact⟨T.free 162,T.free 166,T.free 173,T.free 167,T.free 160,T.free 175,T.free 164,arp⟩
   ·exact T.hs trivial
 exact aeb hk (T.glo 94) F.kp (b) (key 10)
theorem ac0(hk:1<=k:=by omega):bx P w K mg base (aj w K) k "_law_room_of" (.fq 2 vW):=vQ T 95 95 hk (ps:=["_law_stand","_law_ground"]) adL trivial ⟨T.free 161,arp⟩ trivial
theorem aiy(hk:1<=k:=by omega):bx P w K mg base (aj w K) k "_law_once" (.fq 1 JD):=vQ T 96 96 hk (ps:=["_law_rows"]) ajB trivial ⟨T.free 170,arp⟩ trivial
theorem adE(hk:2<=k:=by omega):bx P w K mg base (aj w K) k "_law_rows_of" (.fq 3 zV):=vQ T 97 97 hk (ps:=["_law_stand","_law_grounds_here","_law_but"]) adU ⟨aiy T,arp⟩ ⟨T.free 165,arp⟩ trivial
theorem ale(hk:1<=k:=by omega):bx P w K mg base (aj w K) k "_law_top" (.fq 2 Qy):=vQ T 98 98 hk (ps:=["_law_one","_law_other"]) akN trivial ⟨T.free 160,T.free 162,T.free 161,arp⟩ trivial
theorem ahC(hk:1<=k:=by omega):bx P w K mg base (aj w K) k "_law_tears" (.fq 2 Bw):=vQ T 99 99 hk (ps:=["_law_one","_law_other"]) agQ trivial ⟨T.free 168,T.free 162,T.free 161,arp⟩ trivial
theorem ahd(hk:13<=k:=by omega):bx P w K mg base (aj w K) k "_law_shown" (.fq 3 Bs):=vQ T 100 100 hk (ps:=["_law_stand","_law_deed_here","_law_told"]) ahE ⟨ahC T,ahQ T,ale T,adE T,ac0 T,adH T,arp⟩ ⟨T.free 161,arp⟩ trivial
theorem akF{fd:FuncData}(F:FunD K "law" "law" (defArgs Lr) (defBody Lr) (defScope Lr) [] [] (He.ga K "law") fd):FnOk P w K mg base (L2.CX P w) 14 (He.ga K "law") fd ["_law_script"] (Jc K (aj w K) 1 WT):=by
 refine Rr (k:=13) (DN F) akp ?_ ?_ ?_ akW
 ·exact⟨ahY T,akm T,ahd T,afj T,acS T,arp⟩
 ·exact⟨T.free 159,arp⟩
 ·exact T.hs ⟨⟨Qh T,arp⟩,arp⟩
end
def digs(b:Int):Nat->Int->List Int
 |0,_=>[]
 |n+1,c=>c % b::digs b n (c / b)
def Mx(b:Int):Nat->Int->Int->List Int
 |0,_,_=>[]
 |n+1,k,t=>((t * 48271+9973 * k+11) % 2147483647 / 1021 % b)::Mx b n (k+1) ((t * 48271+9973 * k+11) % 2147483647)
def Aj(c:Int):Int:=if c < 0 then -c else c
def rowOf(c:Int)(n:Nat)(b:Int):List Int:=if 10 ^ 18<=Aj c then digs b n (Aj c) else Mx b n 0 ((Aj c % 1000003+17) * 69621 % 2147483647)
theorem YD(b:Int):∀n c,(digs b n c).length=n
 |0,_=>rfl
 |n+1,c=>by simp[digs,YD b n]
theorem aal(b:Int):∀n k t,(Mx b n k t).length=n
 |0,_,_=>rfl
 |n+1,k,t=>by simp[Mx,aal b n]
theorem aaN{b:Int}(hb:0 < b):∀n c,∀x∈digs b n c,0<=x/\x < b
 |0,_,x,h=>by simp[digs]at h
 |n+1,c,x,h=>by
  rcases aqt.mp h with rfl|h
  ·exact⟨Int.emod_nonneg _ (by omega),Int.emod_lt_of_pos _ hb⟩
  ·exact aaN hb n _ x h
theorem acr{b:Int}(hb:0 < b):∀n k t,∀x∈Mx b n k t,0<=x/\x < b
 |0,_,_,x,h=>by simp[Mx]at h
 |n+1,k,t,x,h=>by
  rcases aqt.mp h with rfl|h
  ·exact⟨Int.emod_nonneg _ (by omega),Int.emod_lt_of_pos _ hb⟩
  ·exact acr hb n _ _ x h
@[simp]theorem aaJ (c:Int) (n:Nat) (b:Int):(rowOf c n b).length=n:=by
 unfold rowOf;split
 ·exact YD ..
 ·exact aal ..
theorem adx{b:Int}(hb:0 < b)(c:Int)(n:Nat):∀x∈rowOf c n b,0<=x/\x < b:=by
 unfold rowOf;split
 ·exact aaN hb _ _
 ·exact acr hb _ _ _
@[simp]theorem agS (M:Mo) (ns:List Int) (k:Nat):Ew M [lI ns,.int k]=.ok (.int (ns.getD k 0)):=by
 unfold Ew Y5;by_cases h:k < ns.length
 ·simp[h,atI,ixN]
 ·simp[h]
theorem X7(M:Mo)(b:Int)(hb:0 < b)(hb2:b < 1073741824):∀(n k:Nat) (c:Int) (x1:Option Cell) (acc:List Dat) (x4 x5:Option Cell),acc.length+n < 100000->∃c' x4',fB (aF 4) Tw ((List.range' k n).map λ(i:Nat)=>PyData.int (i:Int)) M [some (.dat (.int c)),x1,some (.dat (.int b)),some (.mut acc),x4,x5]=.next [c',x1,some (.dat (.int b)),some (.mut (acc++(digs b n c).map .int)),x4',x5] M
 |0,k,c,x1,acc,x4,x5,_=>⟨some (.dat (.int c)),x4,by simp[fB,digs]⟩
 |n+1,k,c,x1,acc,x4,x5,hl=>by
  obtain⟨c',x4',ih⟩:=X7 M b hb hb2 n (k+1) (c / b) x1 (acc++[.int (c % b)]) (some (.dat (.int k))) x5 (by simp;omega);refine⟨c',x4',?_⟩;have h1:decide (CDiv c b)=true:=decide_eq_true ⟨hb,hb2⟩;have hl:acc.length < 100000:=by omega
  rw[List.range'_succ,aqh,gR (Z1:=[some (.dat (.int c)),x1,some (.dat (.int b)),some (.mut acc),some (.dat (.int k)),x5]) (by simp) (Z2:=[some (.dat (.int (c / b))),x1,some (.dat (.int b)),some (.mut (acc++[.int (c % b)])),some (.dat (.int k)),x5]) (M2:=M) (by simp[Tw,h1,hb,hl])];rw[ih];simp[digs]
theorem aae(M:Mo)(b:Int)(hb:0 < b):∀(n k:Nat) (t:Int) (x0 x1:Option Cell) (acc:List Dat) (x4:Option Cell),acc.length+n < 100000->∃x4' x5',fB (aF 4) Rz ((List.range' k n).map λ(i:Nat)=>PyData.int (i:Int)) M [x0,x1,some (.dat (.int b)),some (.mut acc),x4,some (.dat (.int t))]=.next [x0,x1,some (.dat (.int b)),some (.mut (acc++(Mx b n k t).map .int)),x4',x5'] M
 |0,k,t,x0,x1,acc,x4,_=>⟨x4,some (.dat (.int t)),by simp[fB,Mx]⟩
 |n+1,k,t,x0,x1,acc,x4,hl=>by
  obtain⟨x4',x5',ih⟩:=aae M b hb n (k+1) ((t * 48271+9973 * k+11) % 2147483647) x0 x1 (acc++[.int ((t * 48271+9973 * k+11) % 2147483647 / 1021 % b)]) (some (.dat (.int k))) (by simp;omega);refine⟨x4',x5',?_⟩;have h1:decide (CMul t 48271)=true:=mul_r (by decide);have h2:decide (CMul 9973 (k:Int))=true:=aft (by decide);have h3:∀x,decide (CDiv x 1021)=true:=λx=>decide_eq_true ⟨by decide,by decide⟩;have hl:acc.length < 100000:=by omega
  rw[List.range'_succ,aqh,gR (Z1:=[x0,x1,some (.dat (.int b)),some (.mut acc),some (.dat (.int k)),some (.dat (.int t))]) (by simp) (Z2:=[x0,x1,some (.dat (.int b)),some (.mut (acc++[.int ((t * 48271+9973 * k+11) % 2147483647 / 1021 % b)])),some (.dat (.int k)),some (.dat (.int ((t * 48271+9973 * k+11) % 2147483647)))]) (M2:=M) (by simp[Rz,h1,h2,h3,hb,hl])];rw[ih];simp[Mx]
theorem QM(n:Nat):pH 0 n=(List.range' 0 n).map λ(i:Nat)=>PyData.int (i:Int):=by unfold pH;rw[List.range_eq_range'];simp
theorem abV(M:Mo)(c:Int)(n:Nat)(b:Int)(hb:0 < b)(hb2:b < 1073741824)(hn:n<=1000):yX M [.int c,.int n,.int b]=.ok (lI (rowOf c n b)):=by
 unfold yX aby;have hp:decide (CPow 10 18)=true:=decide_eq_true ⟨by decide,by decide,by decide⟩;have hn1:(n:Int)<=100000:=by omega
 have hn2 : -100000<=(n:Int):=by omega
 have hm:∀x,decide (CMul x 69621)=true:=λx=>mul_r (by decide);have ea:(if c < 0 then -c else c)=Aj c:=rfl;by_cases h:10 ^ 18<=Aj c
 ·obtain⟨c',x4',e⟩:=X7 M b hb hb2 n 0 (Aj c) (some (.dat (.int n))) [] none none (by simp;omega);have e2:rowOf c n b=digs b n (Aj c):=if_pos h;have h':(1000000000000000000:Int)<=Aj c:=by simpa using h
  simp[hp,ea,h',hn1,hn2,QM,e,e2]
 ·obtain⟨x4',x5',e⟩:=aae M b hb n 0 ((Aj c % 1000003+17) * 69621 % 2147483647) (some (.dat (.int (Aj c)))) (some (.dat (.int n))) [] none (by simp;omega);have e2:rowOf c n b=Mx b n 0 ((Aj c % 1000003+17) * 69621 % 2147483647):=if_neg h;have h':¬(1000000000000000000:Int)<=Aj c:=by simpa using h
  have e':=e;simp[hp,ea,h',hn1,hn2,hm,QM]at e ⊢;rw[e];simp[e2]
def Np(i j:Int):Int:=if j > i then j else i
def yU(l:List Int)(m:Int):List Int:=if m % 4=1 then l.map λf=>Np 0 (f - 7) else if m % 4=2 then l.map λf=>f % 3 else l
theorem U7(M:Mo)(l:List Int)(m:Int)(hl:l.length<=1000):rP M [lI l,.int m]=.ok (aH (yU l m)):=by
 unfold rP N5;have hl':l.length<=50000:=by omega
 have c1:=eU (tg:=aF 2) (te:=aA oJ (qC (.int 0)) (aA lE (ao 2) (qC (.int 7)))) (M:=M) (Z:=[some (.dat (lI l)),some (.dat (.int m)),none]) PyData.int (λf=>.int (Np 0 (f - 7))) l λx _=>⟨_,rfl,by simp[Np]⟩;have c2:=eU (tg:=aF 2) (te:=aA qu (ao 2) (qC (.int 3))) (M:=M) (Z:=[some (.dat (lI l)),some (.dat (.int m)),none]) PyData.int (λf=>.int (f % 3)) l λx _=>⟨_,rfl,by simp⟩;by_cases h1:m % 4=1
 ·simp[h1,hl',c1,yU,aqz]
 ·by_cases h2:m % 4=2
  ·simp[h2,hl',c2,yU,aqz]
  ·simp[h1,h2,yU]
def QC(c:Int):List Int:=yU ((rowOf c 7 10).take 6) ((rowOf c 7 10).getD 6 0)
theorem afn{α:Type}(l:List α)(n:Nat):Rf.cutD l none (some (n:Int))=l.take n:=by unfold Rf.cutD;rw[HT.sIx_nat];simp[HT.sIx]
theorem Zb{α:Type}(l:List α)(n:Nat):Rf.cutD l (some (n:Int)) none=l.drop n:=by
 unfold Rf.cutD;rw[HT.sIx_nat];simp[HT.sIx];by_cases h:n<=l.length
 ·rw[Nat.min_eq_left h];exact List.take_of_length_le (by simp)
 ·rw[Nat.min_eq_right (by omega),List.drop_eq_nil_of_le (by omega),List.drop_eq_nil_of_le (by omega)];simp
theorem Zi(l:List Int)(n:Nat)(h:n < l.length):atI (l.map PyData.int) (n:Int)=some (.int (l.getD n 0)):=atI_nat (by simp[h])
theorem ajS(M:Mo)(c:Int):Qa M [.int c]=.ok (aH (QC c)):=by
 unfold Qa abK;have h1:yX M [.int c,.int 7,.int 10]=.ok (.list ((rowOf c 7 10).map .int)):=abV M c 7 10 (by decide) (by decide) (by decide);have h2:Rf.cutD ((rowOf c 7 10).map PyData.int) none (some 6)=((rowOf c 7 10).take 6).map PyData.int:=by rw[show(6:Int)=((6:Nat):Int) from rfl,afn,List.map_take]
 have h3:atI ((rowOf c 7 10).map PyData.int) 6=some (.int ((rowOf c 7 10).getD 6 0)):=Zi _ 6 (by simp);have h4:rP M [.list (((rowOf c 7 10).take 6).map .int),.int ((rowOf c 7 10).getD 6 0)]=.ok (.tuple ((QC c).map .int)):=U7 M _ _ (by simp);generalize (rowOf c 7 10).getD 6 0=z at h3 h4;generalize ((rowOf c 7 10).take 6).map PyData.int=y at h2 h4;simp[h1,h2,h3,h4]
theorem ab8(c:Int):(QC c).length=6:=by
 unfold QC yU;split
 ·simp
 ·split<;>simp
theorem aeN{l:List Int}{m:Int}(h:∀x∈l,0<=x/\x < 10):∀x∈yU l m,0<=x/\x < 10:=by
 unfold yU Np;split
 ·intro x hx;obtain⟨y,hy,rfl⟩:=aqp.mp hx;have:=h y hy
  split<;>omega
 ·split
  ·intro x hx;obtain⟨y,hy,rfl⟩:=aqp.mp hx;have:=h y hy;omega
  ·exact h
mutual
def lk:Nat->Dat->Bool
 |_,.none=>true
 |_,.bool _=>true
 |_,.int _=>true
 |_,.str _=>true
 |n+1,.list ds=>Yq n ds
 |n+1,.tuple ds=>Yq n ds
 |0,.list _=>false
 |0,.tuple _=>false
 |_,.dict _=>false
def Yq:Nat->List Dat->Bool
 |_,[]=>true
 |n,d::ds=>lk n d&&Yq n ds
end
theorem Ld{n:Nat}:∀{ds:List Dat},Yq n ds=true↔∀d∈ds,lk n d=true
 |[]=>by simp[Yq]
 |d::ds=>by simp[Yq,Ld (ds:=ds)]
@[simp]theorem aeu (n:Nat) (l:List Int):Yq n (l.map PyData.int)=true:=Ld.mpr λd h=>by
 obtain⟨i,_,rfl⟩:=aqp.mp h;simp[lk]
theorem VB(M:Mo)(i:Int):Gv M [.int i]=.ok (.bool true):=by unfold Gv Ui;simp[yh,Ai]
theorem zip_self(ds:List Dat):wL ds ds=ds.map λd=>.tuple [d,d]:=by unfold wL;rw[List.zipWith_self]
theorem Jo(M:Mo)(r:Mo->List Dat->Out Dat)(x0 x1:Option Cell):∀(ds:List Dat) (x2 x3:Option Cell),(∀d∈ds,r M [d,d]=.ok (.bool true))->∃x2' x3',fB (bA [2,3]) (NP r) (ds.map λd=>PyData.tuple [d,d]) M [x0,x1,x2,x3]=.next [x0,x1,x2',x3'] M
 |[],x2,x3,_=>⟨x2,x3,rfl⟩
 |d::ds,x2,x3,h=>by
  obtain⟨x2',x3',ih⟩:=Jo M r x0 x1 ds (some (.dat d)) (some (.dat d)) λd hd=>h d (aqk _ hd);refine⟨x2',x3',?_⟩;have hd:=h d aqj;rw[aqh,gR (Z1:=[x0,x1,some (.dat d),some (.dat d)]) (by simp) (Z2:=[x0,x1,some (.dat d),some (.dat d)]) (M2:=M) (by simp[NP,hd])];exact ih
theorem ahh(M:Mo):∀(n:Nat) (d:Dat),lk n d=true->qF (n+1) M [d,d]=.ok (.bool true):=by
 intro n
 induction n with
 |zero=>
  intro d h;show mQ 4 (Fy (qF 0)) M [d,d]=_;unfold Fy;cases d with
  |none=>simp[mU]
  |bool b=>cases b<;>simp[mU]
  |int i=>simp[mU,yh,Ai,VB]
  |str x=>simp[mU,yh,Ai]
  |list ds=>simp[lk]at h
  |tuple ds=>simp[lk]at h
  |dict kv=>simp[lk]at h
 |succ n ih=>
  intro d h;show mQ 4 (Fy (qF (n+1))) M [d,d]=_;unfold Fy;cases d with
  |none=>simp[mU]
  |bool b=>cases b<;>simp[mU]
  |int i=>simp[mU,yh,Ai,VB]
  |str x=>simp[mU,yh,Ai]
  |list ds=>
   rw[lk,Ld]at h;obtain⟨x2',x3',e⟩:=Jo M (qF (n+1)) (some (.dat (.list ds))) (some (.dat (.list ds))) ds none none λd hd=>ih d (h d hd);simp[mU,yh,Ai,zip_self,e]
  |tuple ds=>
   rw[lk,Ld]at h;obtain⟨x2',x3',e⟩:=Jo M (qF (n+1)) (some (.dat (.tuple ds))) (some (.dat (.tuple ds))) ds none none λd hd=>ih d (h d hd);simp[mU,yh,Ai,zip_self,e]
  |dict kv=>simp[lk]at h
inductive En where
 |torn (p:Nat)|cut (e:List Int)|sold (o:Int) (e:List Int)|moved (g:Int)|followed (o g:Int)|passed (o:Int)|died
def En.dat:En->Dat
 |.torn p=>.tuple [.str "torn",.int p]
 |.cut e=>.tuple [.str "cut",aH e]
 |.sold o e=>.tuple [.str "sold",.int o,aH e]
 |.moved g=>.tuple [.str "moved",.int g]
 |.followed o g=>.tuple [.str "followed",.int o,.int g]
 |.passed o=>.tuple [.str "passed",.int o]
 |.died=>.tuple [.str "died"]
inductive Fi where
 |brought (o g:Int) (e:List Int)|born (m o g:Int)
def Fi.dat:Fi->Dat
 |.brought o g e=>.tuple [.str "brought",.int o,.int g,aH e]
 |.born m o g=>.tuple [.str "born",.int m,.int o,.int g]
structure Sd where
 o:Int
 g:Int
 due:Option (List Int)
 ear:List Int
 al:Bool
def pY:Option (List Int)->Dat
 |none=>.none
 |some e=>aH e
def Sd.dat(s:Sd):Dat:=.tuple [.int s.o,.int s.g,pY s.due,aH s.ear,.bool s.al]
def xK(l:List Int)(p:Nat):List Int:=l.mapIdx λi x=>if i=p then x+1 else x
def go(s:Sd):En->Sd
 |.torn p=>{ s with ear:=xK s.ear p }
 |.cut e=>{ s with due:=some e,ear:=e }
 |.sold o e=>{ s with o:=o,due:=some e,ear:=e }
 |.moved g=>{ s with g:=g }
 |.followed o g=>{ s with o:=o,g:=g }
 |.passed o=>{ s with o:=o }
 |.died=>{ s with al:=false }
def beg:Fi->Sd
 |.brought o g e=>⟨o,g,none,e,true⟩
 |.born _ o g=>⟨o,g,none,[0,0,0,0,0,0],true⟩
theorem ae9(M:Mo)(f:Fi):Bu M [f.dat]=.ok (beg f).dat:=by cases f<;>simp[Bu,Lq,Fi.dat,beg,Sd.dat,pY,ju]
theorem Z0(M:Mo)(l:List Int)(p:Nat)(hl:l.length<=1000):wj M [aH l,.int p]=.ok (aH (xK l p)):=by
 unfold wj Il;have c:oR 0 (l.map PyData.int)=(l.mapIdx λi x=>(i,x)).map λ(q:Nat×Int)=>PyData.tuple [.int q.1,.int q.2]:=by unfold oR;rw[List.mapIdx_eq_mapIdx_iff.mpr (λi h=>rfl)];apply aqH;intro i;simp;cases l[i]?<;>simp
 have c2:=eU (tg:=bA [2,3]) (te:=Q6 (aY (aA bR (ao 2) (ao 1))) (aA fG (ao 3) (qC (.int 1))) (aq 3)) (M:=M) (Z:=[some (.dat (aH l)),some (.dat (.int p)),none,none]) (λ(q:Nat×Int)=>PyData.tuple [.int q.1,.int q.2]) (λq=>.int (if q.1=p then q.2+1 else q.2)) (l.mapIdx λi x=>(i,x)) λx _=>⟨[some (.dat (aH l)),some (.dat (.int p)),some (.dat (.int x.1)),some (.dat (.int x.2))],by simp,by
  by_cases h:x.1=p
  ·simp[h]
  ·have h':¬((x.1:Int)=p):=by omega
   simp[h,h']⟩
 have hl':l.length<=50000:=by omega
 simp[c,c2,hl',xK];apply aqH;intro i;simp;cases l[i]?<;>simp
theorem abm(l:List Int)(p:Nat):(xK l p).length=l.length:=by simp[xK]
theorem gone_ok(M:Mo)(s:Sd)(e:En)(hl:s.ear.length<=1000):z9 M [s.dat,e.dat]=.ok (go s e).dat:=by have h:=λp=>Z0 M s.ear p hl;cases e<;>simp[z9,Ka,En.dat,go,Sd.dat,pY,h]
abbrev Row3:=Int×Int×List Int
def gY(r:Row3):Dat:=.tuple [.int r.1,.int r.2.1,aH r.2.2]
structure dH where
 fi:Fi
 en:List En
 mo:Int
 sd:Sd
structure aM where
 count:Int
 own:List Int
 al:List Int
 ci:List (List Int)
 held:List Row3
 bs:List dH
structure Lay where
 c:Nat
 g:Nat
 r:Nat
 h:Nat
 bs:List Nat
 fr:List (Nat×Inst)
def aP(L:Lay)(c:aM):Inst:=⟨"Commons",[("owner_count",.dat (.int c.count)),("holders",.dic false (c.own.map λo=>(.int o,.bool true))),("grounds",.dat (ob L.g)),("rights",.dat (ob L.r)),("herd",.dat (ob L.h))]⟩
def dB(n m:Nat)(c:aM):Inst:=⟨"Grounds",[("allowances",.lst n (c.al.map PyData.int)),("circles",.lst m (c.ci.map aH))]⟩
def mO(c:aM):Inst:=⟨"Rights",[("held",.dic true (c.held.map λr=>(gY r,.bool true)))]⟩
def dI(n:Nat)(L:Lay):Inst:=⟨"Herd",[("beasts",.lst n (L.bs.map ob))]⟩
def iB(n:Nat)(b:dH):Inst:=⟨"Beast",[("story",.lst n (b.fi.dat::b.en.map En.dat)),("mother",.dat (.int b.mo)),("owner",.dat (.int b.sd.o)),("ground",.dat (.int b.sd.g)),("due",.dat (pY b.sd.due)),("ear",.dat (aH b.sd.ear)),("alive",.dat (.bool b.sd.al))]⟩
structure At(M:Mo)(L:Lay)(c:aM):Prop where
 hc:M[L.c]?=some (aP L c)
 hg:∃n m,M[L.g]?=some (dB n m c)
 hr:M[L.r]?=some (mO c)
 hh:∃n,M[L.h]?=some (dI n L)
 len:L.bs.length=c.bs.length
 hb:∀(i h:Nat) (b:dH),L.bs[i]?=some h->c.bs[i]?=some b->∃n,M[h]?=some (iB n b)
 nd:(L.c::L.g::L.r::L.h::L.bs).Nodup
 fr:∀p∈L.fr,M[p.1]?=some p.2/\p.1∉L.c::L.g::L.r::L.h::L.bs
section
variable{M:Mo}{L:Lay}{c:aM}(a:At M L c)
include a
theorem aas:oY M [ob L.g]=.ok (.int c.al.length):=by obtain⟨n,m,hg⟩:=a.hg;simp[oY,tR,hg,dB]
theorem aja(g:Int):vf M [ob L.g,.int g]=.ok (.bool (decide (1<=g/\g<=c.al.length))):=by obtain⟨n,m,hg⟩:=a.hg;have:=aas a;by_cases h:1<=g<;>simp[vf,Af,hg,dB,this,eX,h]
end
@[simp]theorem afp {α:Type} (l:List α) (n:Nat):atI l (n:Int)=l[n]?:=by
 cases h:l[n]? with
 |some a=>exact atI_nat h
 |none=>
  have hl:=List.getElem?_eq_none_iff.mp h;unfold atI ixN;rw[if_pos (by omega),if_neg (by omega)];rfl
abbrev Vg(c:aM)(x:Int):Prop:=1<=x/\x<=c.al.length
theorem zX{c:aM}{x:Int}(h:Vg c x):∃k:Nat,k < c.al.length/\x=(k:Int)+1:=⟨(x - 1).toNat,by omega,by omega⟩
structure dh(c:aM):Prop where
 len:c.ci.length=c.al.length
 few:c.al.length<=200
 al:∀x∈c.al,0<=x/\x<=9
 mem:∀(k:Nat) (l:List Int),c.ci[k]?=some l->∀y∈l,Vg c y
 own:∀(k:Nat) (l:List Int),c.ci[k]?=some l->(k:Int)+1∈l
 up:∀(k:Nat) (l:List Int),c.ci[k]?=some l->l.Pairwise (· < ·)
 one:∀(k j:Nat) (l:List Int),c.ci[k]?=some l->(j:Int)+1∈l->c.ci[j]?=some l
def bf(c:aM)(x:Int):List Int:=(c.ci[(x - 1).toNat]?).getD []
def Ie(c:aM)(x:Int):Int:=(c.al[(x - 1).toNat]?).getD 0
def R4:List Int->Int
 |[]=>0
 |n::ns=>Cy n ns
def roomOf(c:aM)(x:Int):Int:=R4 ((bf c x).map (Ie c))
theorem ada:∀{l:List Int} {lo hi:Int},l.Pairwise (· < ·)->(∀y∈l,lo<=y/\y<=hi)->(l.length:Int)<=max 0 (hi - lo+1)
 |[],_,_,_,_=>by simp;omega
 |x::l,lo,hi,h,hb=>by
  rw[List.pairwise_cons]at h;have:=ada (lo:=x+1) (hi:=hi) h.2 λy hy=>⟨by have:=h.1 y hy;omega,(hb y (aqk _ hy)).2⟩;have:=hb x aqj;simp;omega
theorem maxD_ints{l:List Int}(h:l≠[]):maxD (.list (l.map PyData.int))=.ok (.int (R4 l)):=by
 cases l with
 |nil=>exact absurd rfl h
 |cons n ns=>
  show(match intsOf ((n::ns).map PyData.int) with
   |some (n::ns)=>Out.ok (PyData.int (Cy n ns))
   |_=>Out.bad)=_
  rw[Bg];rfl
theorem dh.clen{c:aM}(i:dh c){k:Nat}{l:List Int}(h:c.ci[k]?=some l):l.length<=200:=by have:=ada (lo:=1) (hi:=c.al.length) (i.up k l h) λy hy=>i.mem k l h y hy;have:=i.few;omega
section
variable{M:Mo}{L:Lay}{c:aM}(a:At M L c)
include a
theorem vR(x:Int):uz M [ob L.g,.int x]=if Vg c x then .ok .none else .exc ⟨"NoGround",[]⟩:=by obtain⟨n,m,hg⟩:=a.hg;have:=aja a x;by_cases h:Vg c x<;>simp[uz,yI,hg,dB,this,yK,h]
theorem JQ(x:Int):jH M [ob L.g,.int x]=if Vg c x then .ok (.int (Ie c x)) else .exc ⟨"NoGround",[]⟩:=by
 obtain⟨n,m,hg⟩:=a.hg;have hn:=vR a x;by_cases h:Vg c x
 ·obtain⟨k,hk,rfl⟩:=zX h;rw[if_pos h]at hn ⊢;simp[jH,mJ,hg,dB,hn,aG,Ie,hk]
 ·rw[if_neg h]at hn ⊢;simp[jH,mJ,hg,dB,hn,aG]
theorem uV(i:dh c)(x:Int):j5 M [ob L.g,.int x]=if Vg c x then .ok (lI (bf c x)) else .exc ⟨"NoGround",[]⟩:=by
 obtain⟨n,m,hg⟩:=a.hg;have hn:=vR a x;by_cases h:Vg c x
 ·obtain⟨k,hk,rfl⟩:=zX h;have hk':k < c.ci.length:=by rw[i.len];exact hk
  rw[if_pos h]at hn ⊢;simp[j5,oA,hg,dB,hn,aG,bf,hk']
 ·rw[if_neg h]at hn ⊢;simp[j5,oA,hg,dB,hn,aG]
theorem ag7(i:dh c)(x:Int):oZ M [ob L.g,.int x]=if Vg c x then .ok (.int (roomOf c x)) else .exc ⟨"NoGround",[]⟩:=by
 obtain⟨n,m,hg⟩:=a.hg;have hn:=uV a i x;by_cases h:Vg c x
 ·rw[if_pos h]at hn ⊢;obtain⟨k,hk,rfl⟩:=zX h;have hk':k < c.ci.length:=by rw[i.len];exact hk
  have hc:c.ci[k]?=some (bf c ((k:Int)+1)):=by simp[bf,hk']
  unfold roomOf;generalize bf c ((k:Int)+1)=l at hc hn ⊢;have hl:l.length<=50000:=by have:=i.clen hc;omega
  have hne:l.map (Ie c)≠[]:=λz=>by
   have:=i.own k l hc;rw[List.map_eq_nil_iff.mp z]at this;cases this
  have key:=eU (tg:=aF 2) (te:=aR dX (ao 0) (ak (aq 2) au)) (M:=M) (Z:=[some (.dat (ob L.g)),some (.dat (.int ((k:Int)+1))),none]) PyData.int (λy=>.int (Ie c y)) l λy hy=>⟨[some (.dat (ob L.g)),some (.dat (.int ((k:Int)+1))),some (.dat (.int y))],by simp,by
   have:=JQ a y;rw[if_pos (i.mem k l hc y hy)]at this;simp[hg,dB,dX,this]⟩
  simp[oZ,uf,hg,dB,hn,bF,key,hl];have:=maxD_ints hne;rw[aqJ]at this;simp[aqz]at this ⊢;simp[this]
 ·rw[if_neg h]at hn ⊢;simp[oZ,uf,hg,dB,hn,bF]
end
theorem bH{M:Mo}{h k:Nat}{i j:Inst}(hm:M[h]?=some j):(M.set h i)[k]?=if h=k then some i else M[k]?:=by
 have hl:h < M.length:=(aqg.mp hm).1;rw[aq5];by_cases e:h=k
 ·subst e;rw[if_pos rfl,if_pos hl,if_pos rfl]
 ·rw[if_neg e,if_neg e]
theorem At.neq{M:Mo}{L:Lay}{c:aM}(a:At M L c):L.c≠L.g/\L.c≠L.r/\L.c≠L.h/\L.g≠L.r/\L.g≠L.h/\L.r≠L.h/\(∀x∈L.bs,L.c≠x/\L.g≠x/\L.r≠x/\L.h≠x)/\L.bs.Nodup:=by have nd:=a.nd;simp only[ark,aqt,not_or]at nd;obtain⟨⟨n1,n2,n3,n4⟩,⟨n5,n6,n7⟩,⟨n8,n9⟩,n10,n11⟩:=nd;exact⟨n1,n2,n3,n5,n6,n8,λx hx=>⟨λz=>n4 (z ▸ hx),λz=>n7 (z ▸ hx),λz=>n9 (z ▸ hx),λz=>n10 (z ▸ hx)⟩,n11⟩
theorem At.frS{M:Mo}{L:Lay}{c:aM}(a:At M L c){h:Nat}{i j:Inst}(hm:M[h]?=some j)(hh:h∈L.c::L.g::L.r::L.h::L.bs):∀p∈L.fr,(M.set h i)[p.1]?=some p.2/\p.1∉L.c::L.g::L.r::L.h::L.bs:=λp hp=>by
 obtain⟨h1,h2⟩:=a.fr p hp;refine⟨?_,h2⟩;rw[bH hm,if_neg (λ(z:h=p.1)=>h2 (z ▸ hh))];exact h1
theorem At.setG{M:Mo}{L:Lay}{c:aM}(a:At M L c){al:List Int}{ci:List (List Int)}{n m:Nat}:At (M.set L.g (dB n m { c with al:=al,ci:=ci })) L { c with al:=al,ci:=ci }:=by
 obtain⟨n',m',hg⟩:=a.hg;obtain⟨e1,e2,e3,e4,e5,e6,e7,e8⟩:=a.neq;have e1':=Ne.symm e1;refine⟨?_,⟨n,m,?_⟩,?_,?_,a.len,λi h b h1 h2=>?_,a.nd,a.frS hg (by simp)⟩
 ·rw[bH hg,if_neg e1'];exact a.hc
 ·rw[bH hg,if_pos rfl]
 ·rw[bH hg,if_neg e4];exact a.hr
 ·rw[bH hg,if_neg e5];exact a.hh
 ·rw[bH hg,if_neg (e7 h (aqm h1)).2.1];exact a.hb i h b h1 h2
theorem At.aeV{M:Mo}{L:Lay}{c:aM}(a:At M L c){held:List Row3}:At (M.set L.r (mO { c with held:=held })) L { c with held:=held }:=by
 obtain⟨e1,e2,e3,e4,e5,e6,e7,e8⟩:=a.neq;have e2':=Ne.symm e2;have e4':=Ne.symm e4;have hr:=a.hr;refine⟨?_,?_,?_,?_,a.len,λi h b h1 h2=>?_,a.nd,a.frS hr (by simp)⟩
 ·rw[bH hr,if_neg e2'];exact a.hc
 ·rw[bH hr,if_neg e4'];exact a.hg
 ·rw[bH hr,if_pos rfl]
 ·rw[bH hr,if_neg e6];exact a.hh
 ·rw[bH hr,if_neg (e7 h (aqm h1)).2.2.1];exact a.hb i h b h1 h2
theorem At.setC{M:Mo}{L:Lay}{c:aM}(a:At M L c){n:Int}{own:List Int}:At (M.set L.c (aP L { c with count:=n,own:=own })) L { c with count:=n,own:=own }:=by
 obtain⟨e1,e2,e3,e4,e5,e6,e7,e8⟩:=a.neq;have hc:=a.hc;refine⟨?_,?_,?_,?_,a.len,λi h b h1 h2=>?_,a.nd,a.frS hc (by simp)⟩
 ·rw[bH hc,if_pos rfl]
 ·rw[bH hc,if_neg e1];exact a.hg
 ·rw[bH hc,if_neg e2];exact a.hr
 ·rw[bH hc,if_neg e3];exact a.hh
 ·rw[bH hc,if_neg (e7 h (aqm h1)).1];exact a.hb i h b h1 h2
theorem At.setB{M:Mo}{L:Lay}{c:aM}(a:At M L c){k h n:Nat}{b':dH}(hk:L.bs[k]?=some h):At (M.set h (iB n b')) L { c with bs:=c.bs.set k b' }:=by
 obtain⟨e1,e2,e3,e4,e5,e6,e7,e8⟩:=a.neq;have hl:k < c.bs.length:=by rw[←a.len];exact(aqg.mp hk).1
 obtain⟨n0,hb⟩:=a.hb k h _ hk (aqi hl);obtain⟨q1,q2,q3,q4⟩:=e7 h (aqm hk);refine⟨?_,?_,?_,?_,by simp[a.len],λi h2 b h3 h4=>?_,a.nd,a.frS hb (by simp[aqm hk])⟩
 ·rw[bH hb,if_neg (Ne.symm q1)];exact a.hc
 ·rw[bH hb,if_neg (Ne.symm q2)];exact a.hg
 ·rw[bH hb,if_neg (Ne.symm q3)];exact a.hr
 ·rw[bH hb,if_neg (Ne.symm q4)];exact a.hh
 ·by_cases e:i=k
  ·subst e;rw[hk]at h3;cases h3;have h4:(c.bs.set i b')[i]?=some b:=h4;rw[aqw hl]at h4;cases h4;exact⟨n,by rw[bH hb,if_pos rfl]⟩
  ·have h4:(c.bs.set k b')[i]?=some b:=h4;rw[aqn (Ne.symm e)]at h4;have ne:h≠h2:=λz=>by
    subst z;exact e ((List.getElem?_inj (aqg.mp h3).1 e8).mp (h3.trans hk.symm))
   rw[bH hb,if_neg ne];exact a.hb i h2 b h3 h4
theorem At.amA{M:Mo}{L:Lay}{c:aM}(a:At M L c){M2:Mo}{h n n2:Nat}{b:dH}(hh:M.length<=h)(hM:∀k,k < M.length->M2[k]?=M[k]?)(hb:M2[h]?=some (iB n b)):At (M2.set L.h (dI n2 { L with bs:=L.bs++[h] })) { L with bs:=L.bs++[h] } { c with bs:=c.bs++[b] }:=by
 obtain⟨e1,e2,e3,e4,e5,e6,e7,e8⟩:=a.neq;have lt:∀{k:Nat} {i:Inst},M[k]?=some i->k < M.length:=λz=>(aqg.mp z).1;obtain⟨n0,m0,hg⟩:=a.hg;obtain⟨n1,hh1⟩:=a.hh;have l1:=lt a.hc;have l2:=lt hg;have l3:=lt a.hr;have l4:=lt hh1;have lb:∀x∈L.bs,x < M.length:=λx hx=>by
  obtain⟨i,hi,e⟩:=List.mem_iff_getElem.mp hx;obtain⟨n',z⟩:=a.hb i x _ (by rw[aqi hi,e]) (aqi (by rw[←a.len];exact hi));exact lt z
 have g4:M2[L.h]?=some (dI n1 L):=by rw[hM _ l4];exact hh1
 refine⟨?_,⟨n0,m0,?_⟩,?_,⟨n2,?_⟩,by simp[a.len],λi h2 b2 h3 h4=>?_,?_,λp hp=>?_⟩
 ·show(M2.set L.h _)[L.c]?=_
  rw[bH g4,if_neg (Ne.symm e3),hM _ l1];exact a.hc
 ·show(M2.set L.h _)[L.g]?=_
  rw[bH g4,if_neg (Ne.symm e5),hM _ l2];exact hg
 ·show(M2.set L.h _)[L.r]?=_
  rw[bH g4,if_neg (Ne.symm e6),hM _ l3];exact a.hr
 ·show(M2.set L.h _)[L.h]?=_
  rw[bH g4,if_pos rfl]
 ·have h3:(L.bs++[h])[i]?=some h2:=h3;have h4:(c.bs++[b])[i]?=some b2:=h4;by_cases hi:i < L.bs.length
  ·rw[aqr hi]at h3;rw[aqr (by rw[←a.len];exact hi)]at h4;have m:=aqm h3;rw[bH g4,if_neg (e7 h2 m).2.2.2,hM _ (lb h2 m)];exact a.hb i h2 b2 h3 h4
  ·rw[aqy (by omega)]at h3;rw[aqy (by rw[←a.len];omega),←a.len]at h4;have e0:i - L.bs.length=0:=by
    have:=(aqg.mp h3).1;simp at this;omega
   rw[e0]at h3 h4;cases h3;cases h4;exact⟨n,by rw[bH g4,if_neg (by omega)];exact hb⟩
 ·have nd:=a.nd
  show(L.c::L.g::L.r::L.h::(L.bs++[h])).Nodup
  have:(L.c::L.g::L.r::L.h::(L.bs++[h]))=(L.c::L.g::L.r::L.h::L.bs)++[h]:=by simp
  rw[this,aqW];refine⟨nd,by simp,λx hx y hy=>?_⟩;rw[aql.mp hy];rcases aqt.mp hx with rfl|hx
  ·omega
  rcases aqt.mp hx with rfl|hx
  ·omega
  rcases aqt.mp hx with rfl|hx
  ·omega
  rcases aqt.mp hx with rfl|hx
  ·omega
  have:=lb x hx;omega
 ·obtain⟨h1,h2⟩:=a.fr p hp;have hl:=lt h1;refine⟨?_,?_⟩
  ·show(M2.set L.h _)[p.1]?=_
   rw[bH g4,if_neg (λ(z:L.h=p.1)=>h2 (by simp[←z])),hM _ hl];exact h1
  ·show p.1∉L.c::L.g::L.r::L.h::(L.bs++[h]);intro z;have:p.1∈(L.c::L.g::L.r::L.h::L.bs)++[h]:=by simpa using z
   rcases aqq.mp this with z|z
   ·exact h2 z
   ·rw[aql]at z;omega
section
variable{M:Mo}{L:Lay}{c:aM}(a:At M L c)
include a
theorem V5(i:dh c)(hf:c.al.length < 200)(x:Int):if 0<=x/\x<=9 then ∃M',eZ M [ob L.g,.int x]=.ok (.int (c.al.length+1)) M'/\At M' L { c with al:=c.al++[x],ci:=c.ci++[[(c.al.length:Int)+1]] } else eZ M [ob L.g,.int x]=.exc ⟨"BadAllowance",[]⟩ M:=by
 obtain⟨n,m,hg⟩:=a.hg;have hl:∀i,(M.set L.g i)[L.g]?=some i:=λi=>by rw[bH hg,if_pos rfl]
 by_cases h:0<=x/\x<=9
 ·rw[if_pos h];refine⟨_,?_,a.setG (n:=n) (m:=m)⟩;have h2:c.ci.length < 100000:=by rw[i.len];omega
  have h3:c.al.length < 100000:=by omega
  simp[eZ,jy,oY,tR,eX,hg,dB,hl,h,gK,h2,h3];rfl
 ·rw[if_neg h];have:decide (0<=x)=true->decide (x<=9)=false:=by simp;omega
  by_cases h0:0<=x
  ·have h9:¬x<=9:=by omega
   simp[eZ,jy,gK,h0,h9]
  ·simp[eZ,jy,gK,h0]
end
def encl(ci:List (List Int))(l:List Int):List (List Int):=l.foldl (λs y=>s.set (y - 1).toNat l) ci
theorem yw(l:List Int):∀(k:List Int) (ci:List (List Int)),(k.foldl (λs y=>s.set (y - 1).toNat l) ci).length=ci.length
 |[],_=>rfl
 |y::k,ci=>by rw[aq7,yw l k];simp
@[simp]theorem ami (n k:Nat):ixN n (k:Int)=if k < n then some k else none:=by
 unfold ixN;rw[if_pos (by omega)];by_cases h:k < n
 ·rw[if_pos (by omega),if_pos h];simp
 ·rw[if_neg (by omega),if_neg h]
section
variable{M:Mo}{L:Lay}{c:aM}{n m:Nat}(hg:M[L.g]?=some (dB n m c))
include hg
theorem Vc(l:List Int):∀(k:List Int) (s:List (List Int)) (o:Option Cell),(∀y∈k,1<=y/\y<=s.length)->
  ∃o',fB (aF 3) qU (k.map PyData.int) (M.set L.g (dB n m { c with ci:=s })) [some (.dat (ob L.g)),some (.dat (lI l)),some (.dat (aH l)),o]=.next [some (.dat (ob L.g)),some (.dat (lI l)),some (.dat (aH l)),o'] (M.set L.g (dB n m { c with ci:=k.foldl (λs y=>s.set (y - 1).toNat l) s }))
 |[],s,o,_=>⟨o,rfl⟩
 |y::k,s,o,h=>by
  have hl:∀i,(M.set L.g i)[L.g]?=some i:=λi=>by rw[bH hg,if_pos rfl]
  obtain⟨j,hj,rfl⟩:∃j:Nat,j < s.length/\y=(j:Int)+1:=⟨(y - 1).toNat,by have:=h y aqj;omega,by have:=h y aqj;omega⟩;obtain⟨o',ih⟩:=Vc l k (s.set j l) (some (.dat (.int ((j:Int)+1)))) λz hz=>by
   have:=h z (aqk _ hz);simpa using this
  refine⟨o',?_⟩;rw[aqh,gR (Z1:=[some (.dat (ob L.g)),some (.dat (lI l)),some (.dat (aH l)),some (.dat (.int ((j:Int)+1)))]) (M2:=M.set L.g (dB n m { c with ci:=s.set j l })) (Z2:=[some (.dat (ob L.g)),some (.dat (lI l)),some (.dat (aH l)),some (.dat (.int ((j:Int)+1)))]) (by simp) (by simp[qU,hl,dB,hj,List.map_set]),ih];simp
end
theorem YW{M:Mo}{h:Nat}{i:Inst}(e:M[h]?=some i):M.set h i=M:=by
 apply aqH;intro k;rw[bH e];split
 ·next z=>rw[←z,e]
 ·rfl
section
variable{M:Mo}{L:Lay}{c:aM}(a:At M L c)
include a
theorem Gy(l:List Int)(h:∀y∈l,1<=y/\y<=c.ci.length):∃M',lu M [ob L.g,lI l]=.ok (lI l) M'/\At M' L { c with ci:=encl c.ci l }:=by obtain⟨n,m,hg⟩:=a.hg;obtain⟨o',key⟩:=Vc hg l l c.ci none h;have e:(dB n m { c with ci:=c.ci })=dB n m c:=rfl;rw[e,YW hg]at key;refine⟨_,?_,a.setG (n:=n) (m:=m) (al:=c.al)⟩;simp[lu,uL,key,encl]
end
theorem any_ints(y:Int)(l:List Int):((l.map PyData.int).any λd=>PyData.eqv d (.int y))=decide (y∈l):=by
 induction l with
 |nil=>simp
 |cons x l ih=>
  rw[aqh,aq8,ih,Xa];by_cases h:x=y
  ·simp[h]
  ·have:¬y=x:=λz=>h z.symm;simp[h,this]
theorem Fv(neg:Bool)(y:Int)(l:List Int):inD neg (.int y) (lI l)=.ok (.bool (neg ^^ decide (y∈l))):=by
 show(Out.when (okd 12 (.int y)&&jY 12 (l.map PyData.int)) (.ok ((l.map PyData.int).any λz=>PyData.eqv z (.int y)))).bind _=_
 rw[any_ints,agq,Uu];rfl
section
variable{M:Mo}{L:Lay}{c:aM}(a:At M L c)
include a
theorem abj(i:dh c)(x y:Int)(hx:Vg c x)(hy:Vg c y):if y∈bf c x then kW M [ob L.g,.int x,.int y]=.exc ⟨"Together",[]⟩ M else
  ∃M',kW M [ob L.g,.int x,.int y]=.ok (lI (sortI (bf c x++bf c y))) M'/\At M' L { c with ci:=encl c.ci (sortI (bf c x++bf c y)) }:=by
 have t1:=uV a i x;have t2:=uV a i y;rw[if_pos hx]at t1;rw[if_pos hy]at t2;obtain⟨n,m,hg⟩:=a.hg;have hcx:c.ci[(x - 1).toNat]?=some (bf c x):=by
  obtain⟨k,hk,rfl⟩:=zX hx;have hk':k < c.ci.length:=by rw[i.len];exact hk
  simp[bf,hk']
 have hcy:c.ci[(y - 1).toNat]?=some (bf c y):=by
  obtain⟨k,hk,rfl⟩:=zX hy;have hk':k < c.ci.length:=by rw[i.len];exact hk
  simp[bf,hk']
 by_cases h:y∈bf c x
 ·rw[if_pos h];simp[kW,rM,hg,dB,bF,t1,t2,Fv,h]
 ·rw[if_neg h];have hm:∀z∈sortI (bf c x++bf c y),1<=z/\z<=c.ci.length:=λz hz=>by
   unfold sortI at hz;rw[List.mem_mergeSort,aqq]at hz;rw[i.len];rcases hz with hz|hz
   ·exact i.mem _ _ hcx z hz
   ·exact i.mem _ _ hcy z hz
  obtain⟨M',h1,h2⟩:=Gy a _ hm;refine⟨M',?_,h2⟩;have l1:=i.clen hcx;have l2:=i.clen hcy;have hs:yZ (lI (bf c x++bf c y))=.ok (lI (sortI (bf c x++bf c y))):=by
   show(match intsOf ((bf c x++bf c y).map PyData.int) with
    |some l=>Out.ok (PyData.list ((sortI l).map PyData.int))
    |none=>_)=_
   rw[Bg]
  have hz:(bf c x).length+(bf c y).length<=100000:=by omega
  have hs:yZ (.list ((bf c x).map PyData.int++(bf c y).map PyData.int))=.ok (lI (sortI (bf c x++bf c y))):=by rw[←List.map_append];exact hs
  simp[kW,rM,hg,dB,bF,gj,t1,t2,Fv,h,hz,hs,h1]
theorem adC(i:dh c)(x:Int):if Vg c x then(if (bf c x).filter (λy=>!(y==x))=[] then iZ M [ob L.g,.int x]=.exc ⟨"Alone",[]⟩ M else
  ∃M',iZ M [ob L.g,.int x]=.ok (lI ((bf c x).filter (λy=>!(y==x)))) M'/\At M' L { c with ci:=encl (encl c.ci [x]) ((bf c x).filter (λy=>!(y==x))) }) else iZ M [ob L.g,.int x]=.exc ⟨"NoGround",[]⟩ M:=by
 have t1:=uV a i x;obtain⟨n,m,hg⟩:=a.hg;by_cases hx:Vg c x
 ·rw[if_pos hx]at t1 ⊢;have hcx:c.ci[(x - 1).toNat]?=some (bf c x):=by
   obtain⟨k,hk,rfl⟩:=zX hx;have hk':k < c.ci.length:=by rw[i.len];exact hk
   simp[bf,hk']
  have hl:(bf c x).length<=50000:=by have:=i.clen hcx;omega
  have key:=gq (tg:=aF 3) (tt:=aY (aA vZ (ao 3) (ao 1))) (te:=aq 3) (M:=M) (Z:=[some (.dat (ob L.g)),some (.dat (.int x)),none,none]) PyData.int (λy=>!(y==x)) PyData.int (bf c x) λy _=>⟨[some (.dat (ob L.g)),some (.dat (.int x)),none,some (.dat (.int y))],by simp,by simp,λ_=>by simp⟩;by_cases he:(bf c x).filter (λy=>!(y==x))=[]
  ·rw[if_pos he];rw[he]at key;simp only[aq4]at key;simp[iZ,o9,hg,dB,bF,t1,key,hl]
  ·rw[if_neg he];generalize hL:(bf c x).filter (λy=>!(y==x))=left at he key;have hm:∀z∈left,1<=z/\z<=(encl c.ci [x]).length:=λz hz=>by
    rw[←hL,aqA]at hz;unfold encl;rw[yw,i.len];exact i.mem _ _ hcx z hz.1
   obtain⟨M1,h1,a1⟩:=Gy a [x] (λz hz=>by rw[aql.mp hz,i.len];exact hx);obtain⟨M2,h2,a2⟩:=Gy a1 left hm;refine⟨M2,?_,a2⟩;obtain⟨n1,m1,hg1⟩:=a1.hg;have h1:lu M [ob L.g,.list [.int x]]=.ok (.list [.int x]) M1:=h1;have he':left.isEmpty=false:=by cases left with
    |nil=>exact absurd rfl he
    |cons _ _=>rfl
   simp[iZ,o9,hg,hg1,dB,bF,gj,t1,key,hl,h1,h2,he']
 ·rw[if_neg hx]at t1 ⊢;simp[iZ,o9,hg,dB,bF,t1]
end
theorem agb(o g:Int)(m:List Int)(o' g':Int)(m':List Int):PyData.eqv (gY (o,g,m)) (gY (o',g',m'))=decide ((o,g,m)=(o',g',m')):=by simp only[gY,X6,Z5,Xa,zm,agy,Bool.and_true];by_cases h1:o=o'<;>by_cases h2:g=g'<;>by_cases h3:m=m'<;>simp[h1,h2,h3]
theorem acU(r s:Row3):PyData.eqv (gY r) (gY s)=decide (r=s):=agb _ _ _ _ _ _
theorem Va:∀l:List Int,wz (l.map PyData.int)=some (l.map NestedKey.num)
 |[]=>rfl
 |i::l=>by rw[aqh,wz,Va l];rfl
theorem aij(r:Row3):rR (gY r)=some (.tup [.num r.1,.num r.2.1,.tup (r.2.2.map .num)]):=by simp[gY,rR,wz,Va]
theorem depth_ints:∀l:List Int,NestedKey.depthAll (l.map NestedKey.num)<=1
 |[]=>by simp[NestedKey.depthAll]
 |i::l=>by
  have:=depth_ints l;simp[NestedKey.depthAll,NestedKey.depth];omega
theorem TV(kvs:List (Dat×Dat))(r:Row3):dhas true kvs (gY r)=.ok (kvs.any λp=>PyData.eqv p.1 (gY r)):=by
 have hk:=aij r;have hd:NestedKey.depth (.tup [.num r.1,.num r.2.1,.tup (r.2.2.map .num)])<=8:=by have:=depth_ints r.2.2;simp[NestedKey.depth,NestedKey.depthAll];omega
 show(match rR (gY r) with
  |some k=>match decide (k.depth<=8) with
   |true=>Out.ok (kvs.any λp=>PyData.eqv p.1 (gY r))
   |false=>.bad
  |none=>.bad)=_
 rw[hk]
 show(match decide (NestedKey.depth (.tup [.num r.1,.num r.2.1,.tup (r.2.2.map .num)])<=8) with
   |true=>Out.ok (kvs.any λp=>PyData.eqv p.1 (gY r))
   |false=>.bad)=_
 rw[decide_eq_true hd]
theorem XH(held:List Row3)(r:Row3):((held.map λr=>(gY r,PyData.bool true)).any λp=>PyData.eqv p.1 (gY r))=decide (r∈held):=by
 induction held with
 |nil=>simp
 |cons s held ih=>
  rw[aqh,aq8,ih,acU];by_cases h:s=r
  ·simp[h]
  ·have:¬r=s:=λz=>h z.symm;simp[h,this]
def bO(c:aM)(o g:Int):List (List Int):=(c.held.filter λr=>(r.1==o)&&(r.2.1==g)).map λr=>r.2.2
section
variable{M:Mo}{L:Lay}{c:aM}(a:At M L c)(few:c.held.length<=50000)
include a few
theorem Hl(o g:Int):uh M [ob L.r,.int o,.int g]=.ok (.list ((bO c o g).map aH)):=by
 have hr:=a.hr;have key:=gq (tg:=bA [3,4,5]) (tt:=jF (aY (aA bR (ao 3) (ao 1))) (aY (aA bR (ao 4) (ao 2)))) (te:=aq 5) (M:=M) (Z:=[some (.dat (ob L.r)),some (.dat (.int o)),some (.dat (.int g)),none,none,none]) gY (λr=>(r.1==o)&&(r.2.1==g)) (λr=>aH r.2.2) c.held λr _=>⟨[some (.dat (ob L.r)),some (.dat (.int o)),some (.dat (.int g)),some (.dat (.int r.1)),some (.dat (.int r.2.1)),some (.dat (aH r.2.2))],by simp[gY],by
  by_cases h:r.1=o<;>simp[h],λ_=>by simp⟩
 have e:(c.held.map λr=>(gY r,PyData.bool true)).map (·.1)=c.held.map gY:=by simp
 simp[uh,yc,hr,mO,bO];simp[aqz,key,few]
theorem X3(o g:Int):ni M [ob L.r,.int o,.int g]=.ok (.bool (decide (bO c o g≠[]))):=by have hr:=a.hr;have h:=Hl a few o g;simp[ni,rQ,hr,mO,cJ,h,List.length_pos_iff]
theorem V4(near:List Int):mH M [ob L.r,lI near]=.ok (.list ((c.held.filter λr=>decide (r.2.1∈near)).map λr=>Ear.rD (r.1,r.2.2))):=by have hr:=a.hr;have key:=gq (tg:=bA [2,3,4]) (tt:=aY (aA (inD false) (ao 3) (ao 1))) (te:=bK (ak (aq 2) (ak (aq 4) au))) (M:=M) (Z:=[some (.dat (ob L.r)),some (.dat (lI near)),none,none,none]) gY (λr=>decide (r.2.1∈near)) (λr=>Ear.rD (r.1,r.2.2)) c.held λr _=>⟨[some (.dat (ob L.r)),some (.dat (lI near)),some (.dat (.int r.1)),some (.dat (.int r.2.1)),some (.dat (aH r.2.2))],by simp[gY],by simp[Fv],λ_=>by simp[Ear.rD,Ear.dT]⟩;simp[mH,qW,hr,mO];simp[aqz,key,few]
theorem ZD:oK M [ob L.r]=.ok (.list (c.held.map gY)):=by have hr:=a.hr;simp[oK,uJ,hr,mO,aqz]
theorem Ks(o g:Int)(m:List Int):if (o,g,m)∈c.held then iY M [ob L.r,.int o,.int g,aH m]=.exc ⟨"HasRight",[]⟩ M else
  ∃M',iY M [ob L.r,.int o,.int g,aH m]=.ok .none M'/\At M' L { c with held:=c.held++[(o,g,m)] }:=by
 have hr:=a.hr;have h1:=TV (c.held.map λr=>(gY r,PyData.bool true)) (o,g,m);rw[XH]at h1;simp only[gY]at h1;have f2:c.held.length < 100000:=by omega
 by_cases h:(o,g,m)∈c.held
 ·rw[if_pos h];simp[h]at h1;simp[iY,oE,hr,mO,gY,h1]
 ·rw[if_neg h];refine⟨_,?_,a.aeV⟩;simp[h]at h1;simp[iY,oE,hr,mO,gY,h1,f2]
end
theorem ab6(held:List Row3)(r:Row3):((held.map λr=>(gY r,PyData.bool true)).filter λp=>!PyData.eqv p.1 (gY r))=(held.filter λs=>decide (s≠r)).map λr=>(gY r,PyData.bool true):=by
 induction held with
 |nil=>rfl
 |cons s held ih=>
  simp only[aqh,aqQ,acU,ih];by_cases h:s=r<;>simp[h]
def Wx(o g:Int)(k:List (List Int))(s:List Row3):List Row3:=k.foldl (λs mk=>s.filter λr=>decide (r≠(o,g,mk))) s
section
variable{M:Mo}{L:Lay}{c:aM}(hr:M[L.r]?=some (mO c))
include hr
theorem UW(o g:Int)(all:List (List Int)):∀(k:List (List Int)) (s:List Row3) (x:Option Cell),k.Nodup->(∀mk∈k,(o,g,mk)∈s)->s.length<=50000->
  ∃x',fB (aF 4) wA (k.map aH) (M.set L.r (mO { c with held:=s })) [some (.dat (ob L.r)),some (.dat (.int o)),some (.dat (.int g)),some (.dat (.list (all.map aH))),x]=.next [some (.dat (ob L.r)),some (.dat (.int o)),some (.dat (.int g)),some (.dat (.list (all.map aH))),x'] (M.set L.r (mO { c with held:=Wx o g k s }))
 |[],s,x,_,_,_=>⟨x,rfl⟩
 |mk::k,s,x,nd,h,hf=>by
  have hl:∀i,(M.set L.r i)[L.r]?=some i:=λi=>by rw[bH hr,if_pos rfl]
  rw[ark]at nd;have h1:=TV (s.map λr=>(gY r,PyData.bool true)) (o,g,mk);rw[XH,decide_eq_true (h mk aqj)]at h1;have h2:=ab6 s (o,g,mk);have f2:s.length<=100000:=by omega
  obtain⟨x',ih⟩:=UW o g all k (s.filter λr=>decide (r≠(o,g,mk))) (some (.dat (aH mk))) nd.2 (λz hz=>by
   rw[aqA];refine⟨h z (aqk _ hz),decide_eq_true λe=>?_⟩;have:z=mk:=by simpa using e
   exact nd.1 (this ▸ hz)) (aqE (aqv _ _) hf)
  refine⟨x',?_⟩;rw[aqh,gR (Z1:=[some (.dat (ob L.r)),some (.dat (.int o)),some (.dat (.int g)),some (.dat (.list (all.map aH))),some (.dat (aH mk))]) (M2:=M.set L.r (mO { c with held:=s.filter λr=>decide (r≠(o,g,mk)) })) (Z2:=[some (.dat (ob L.r)),some (.dat (.int o)),some (.dat (.int g)),some (.dat (.list (all.map aH))),some (.dat (aH mk))]) (by simp) ?_,ih]
  ·rfl
  ·have h1':dhas true (s.map λr=>(gY r,PyData.bool true)) (.tuple [.int o,.int g,aH mk])=.ok true:=h1;have h2':((s.map λr=>(gY r,PyData.bool true)).filter λp=>!PyData.eqv p.1 (.tuple [.int o,.int g,aH mk]))=(s.filter λs=>decide (s≠(o,g,mk))).map λr=>(gY r,PyData.bool true):=h2;simp[wA,hl,mO,h1',f2];rw[h2'];simp
end
theorem Zf(o g:Int):∀(k:List (List Int)) (s:List Row3),Wx o g k s=s.filter λr=>decide (∀mk∈k,r≠(o,g,mk))
 |[],s=>(List.filter_eq_self.mpr (by simp)).symm
 |mk::k,s=>by
  show Wx o g k (s.filter _)=_;rw[Zf o g k,ard];congr 1;funext r;by_cases h1:r=(o,g,mk)<;>simp[h1]
def dropped(c:aM)(o g:Int):List Row3:=c.held.filter λr=>!((r.1==o)&&(r.2.1==g))
theorem aa2(c:aM)(o g:Int):Wx o g (bO c o g) c.held=dropped c o g:=by
 rw[Zf];unfold dropped;refine List.filter_congr λr hr=>?_;obtain⟨x,y,z⟩:=r;by_cases h:x=o/\y=g
 ·obtain⟨rfl,rfl⟩:=h;have:z∈bO c x y:=by
   unfold bO;rw[aqp];exact⟨(x,y,z),by rw[aqA];exact⟨hr,by simp⟩,rfl⟩
  simp;exact this
 ·have e:(!((x==o)&&(y==g)))=true:=by
   by_cases h1:x=o<;>by_cases h2:y=g<;>simp_all
  have e2:∀mk∈bO c o g,(x,y,z)≠(o,g,mk):=λmk _ z=>by
   simp at z;exact h ⟨z.1,z.2.1⟩
  rw[e,decide_eq_true e2]
theorem ZV{c:aM}(h:c.held.Nodup)(o g:Int):(bO c o g).Nodup:=by unfold bO;have h1:(c.held.filter λr=>(r.1==o)&&(r.2.1==g)).Nodup:=h.filter _;unfold List.Nodup at h1 ⊢;rw[List.pairwise_map];refine List.Pairwise.imp_of_mem (λ{r s} hr hs ne e=>ne ?_) h1;rw[aqA]at hr hs;obtain⟨r1,r2,r3⟩:=r;obtain⟨s1,s2,s3⟩:=s;have:=hr.2;have:=hs.2;simp at *;obtain⟨rfl,rfl⟩:=hr.2;obtain⟨rfl,rfl⟩:=hs.2;exact⟨rfl,rfl,e⟩
section
variable{M:Mo}{L:Lay}{c:aM}(a:At M L c)(few:c.held.length<=50000)(nd:c.held.Nodup)
include a few nd
theorem ahA(o g:Int):if bO c o g=[] then mV M [ob L.r,.int o,.int g]=.exc ⟨"NoRight",[]⟩ M else
  ∃M',mV M [ob L.r,.int o,.int g]=.ok (.list ((bO c o g).map aH)) M'/\At M' L { c with held:=dropped c o g }:=by
 have hr:=a.hr;have h1:=Hl a few o g;by_cases h:bO c o g=[]
 ·rw[if_pos h];rw[h]at h1;simp[mV,u9,hr,mO,cJ,h1]
 ·rw[if_neg h];obtain⟨x',key⟩:=UW hr o g (bO c o g) (bO c o g) c.held none (ZV nd o g) (λmk hm=>by
   unfold bO at hm;rw[aqp]at hm;obtain⟨⟨r1,r2,r3⟩,h3,rfl⟩:=hm;rw[aqA]at h3;have:=h3.2;simp at this;obtain⟨rfl,rfl⟩:=this;exact h3.1) few
  have e:(mO { c with held:=c.held })=mO c:=rfl;rw[e,YW hr,aa2]at key;refine⟨_,?_,a.aeV⟩;have he:(bO c o g).isEmpty=false:=by
   cases hm:bO c o g with
   |nil=>exact absurd hm h
   |cons _ _=>rfl
  simp[mV,u9,hr,mO,cJ,h1,he];simp[key];rfl
end
def DY(acc:List Row3)(r:Row3):List Row3:=if r∈acc then acc else acc++[r]
def Bo(e h:Int)(r:Row3):Row3:=(if r.1=e then h else r.1,r.2.1,r.2.2)
def handed(c:aM)(e h:Int):List Row3:=(c.held.map (Bo e h)).foldl DY []
theorem Z8{tg:fM}{tk:QF}{M:Mo}{Z:Rf.Env}(f:Row3->Row3):∀(xs acc:List Row3),(∀x∈xs,∃Z1,tg (gY x) Z=some Z1/\tk M Z1=.ok (gY (f x)))->Df tg tk M Z (xs.map gY) (acc.map λr=>(gY r,PyData.bool true))=.ok (((xs.map f).foldl DY acc).map λr=>(gY r,PyData.bool true))
 |[],acc,_=>rfl
 |x::xs,acc,h=>by
  obtain⟨Z1,h1,h2⟩:=h x aqj;rw[aqh,Df,h1]
  show((xQ (tk M Z1)).bind λkd=>(dhas true _ kd).bind λr=>_)=_
  rw[h2,Yp,Out.yt,TV,XH,Out.yt,aqh,aq7];have ih:=Z8 f xs (DY acc (f x)) λy hy=>h y (aqk _ hy);unfold DY at ih ⊢;by_cases hm:f x∈acc
  ·rw[if_pos hm]at ih ⊢;rw[decide_eq_true hm];exact ih
  ·rw[if_neg hm]at ih ⊢;rw[decide_eq_false hm];rw[List.map_append]at ih;exact ih
section
variable{M:Mo}{L:Lay}{c:aM}(a:At M L c)(few:c.held.length<=50000)
include a few
theorem Xx(e h:Int):∃M',nQ M [ob L.r,.int e,.int h]=.ok .none M'/\At M' L { c with held:=handed c e h }:=by
 have hr:=a.hr;have hl:L.r < M.length:=(aqg.mp hr).1;have hr2:(M++[(⟨"",[]⟩:Inst)])[L.r]?=some (mO c):=by rw[aqr hl];exact hr
 have key:=Z8 (tg:=bA [3,4,5]) (tk:=bK (ak (Q6 (aY (aA bR (ao 3) (ao 1))) (aq 2) (aq 3)) (ak (aq 4) (ak (aq 5) au)))) (M:=M) (Z:=[some (.dat (ob L.r)),some (.dat (.int e)),some (.dat (.int h)),none,none,none]) (Bo e h) c.held [] λr _=>⟨[some (.dat (ob L.r)),some (.dat (.int e)),some (.dat (.int h)),some (.dat (.int r.1)),some (.dat (.int r.2.1)),some (.dat (aH r.2.2))],by simp[gY],by
  by_cases z:r.1=e<;>simp[z,Bo,gY]⟩
 have ex:At (M++[⟨"",[]⟩]) L c:=by
  have lt:∀{k:Nat} {i:Inst},M[k]?=some i->(M++[(⟨"",[]⟩:Inst)])[k]?=some i:=λz=>by rw[aqr (aqg.mp z).1];exact z
  obtain⟨n,m,hg⟩:=a.hg;obtain⟨n1,hh⟩:=a.hh;exact⟨lt a.hc,⟨n,m,lt hg⟩,lt a.hr,⟨n1,lt hh⟩,a.len,λi h b h1 h2=>by
   obtain⟨n2,z⟩:=a.hb i h b h1 h2;exact⟨n2,lt z⟩,a.nd,λp hp=>⟨lt (a.fr p hp).1,(a.fr p hp).2⟩⟩
 refine⟨_,?_,ex.aeV⟩;simp only[aq4]at key;simp[nQ,rZ,hr,hr2,mO,jQ];simp[aqz,key,few,handed]
end
@[simp]theorem aoj (n:Nat) (b:dH):(iB n b).cls="Beast":=rfl
theorem Z4{M:Mo}{h n:Nat}{b:dH}(hb:M[h]?=some (iB n b))(s:Sd):mD M [ob h,s.dat]=.ok .none (M.set h (iB n { b with sd:=s })):=by
 have hl:∀i,(M.set h i)[h]?=some i:=λi=>by rw[bH hb,if_pos rfl]
 simp[mD,pZ,Sd.dat,hb,iB,hl,jQ]
theorem Y7{M:Mo}{h n:Nat}{b:dH}(hb:M[h]?=some (iB n b)):vm M [ob h]=.ok b.sd.dat:=by simp[vm,Aa,Sd.dat,hb,iB]
theorem sO{M:Mo}{h n:Nat}{b:dH}(hb:M[h]?=some (iB n b))(e:En)(he:b.sd.ear.length<=1000)(hf:b.en.length<=50000):lM M [ob h,e.dat]=.ok .none (M.set h (iB n { b with en:=b.en++[e],sd:=go b.sd e })):=by
 have hl:∀i,(M.set h i)[h]?=some i:=λi=>by rw[bH hb,if_pos rfl]
 have h1:(M.set h (iB n { b with en:=b.en++[e] }))[h]?=some (iB n { b with en:=b.en++[e] }):=hl _;have h2:=Y7 h1;have h3:=gone_ok (M.set h (iB n { b with en:=b.en++[e] })) b.sd e he;have h4:=Z4 h1 (go b.sd e);have h5:b.en.length+1 < 100000:=by omega
 have e1:M.set h ⟨"Beast",[("story",.lst n (b.fi.dat::(b.en.map En.dat++[e.dat]))),("mother",.dat (.int b.mo)),("owner",.dat (.int b.sd.o)),("ground",.dat (.int b.sd.g)),("due",.dat (pY b.sd.due)),("ear",.dat (aH b.sd.ear)),("alive",.dat (.bool b.sd.al))]⟩=M.set h (iB n { b with en:=b.en++[e] }):=by simp[iB]
 simp[lM,yF,hb,iB,h5];rw[e1];simp[h1,lN,jC,h2,h3,h4];simp[iB]
def ahU:Fi->Int
 |.born m _ _=>m
 |_=>0
def Eh(f:Fi):dH:=⟨f,[],ahU f,beg f⟩
theorem agY(M:Mo)(f:Fi):sV (M++[⟨"Beast",[]⟩]) [ob M.length,f.dat]=.ok .none (M++[iB (M.length+1) (Eh f),⟨"",[]⟩]):=by
 have hbeg:=λM=>ae9 M f;have hg:∀i (r:List Inst),(M++i::r)[M.length]?=some i:=λi r=>by simp
 have hs:∀i j (r:List Inst),(M++i::r).set M.length j=M++j::r:=λi j r=>by simp
 cases f<;>simp[sV,Cj,Fi.dat,hg,hs,jQ,mD,pZ,jC,Bu,Lq,ju,iB,Eh,ahU,beg,pY,Fi.dat]
def bZ(L:Lay)(c:aM):List (Nat×Nat×dH):=(L.bs.zip c.bs).mapIdx λi p=>(i,p.1,p.2)
def nb(x:Nat×Nat×dH):Dat:=.tuple [.int ((x.1:Int)+1),ob x.2.1]
theorem Dj{L:Lay}{c:aM}{x:Nat×Nat×dH}(h:x∈bZ L c):L.bs[x.1]?=some x.2.1/\c.bs[x.1]?=some x.2.2:=by unfold bZ at h;obtain⟨i,hi,e⟩:=List.mem_mapIdx.mp h;have hz:=aqi hi;rw[aq3]at hz;subst e;exact hz
theorem At.hb'{M:Mo}{L:Lay}{c:aM}(a:At M L c){x:Nat×Nat×dH}(h:x∈bZ L c):∃n,M[x.2.1]?=some (iB n x.2.2):=by obtain⟨h1,h2⟩:=Dj h;exact a.hb _ _ _ h1 h2
theorem At.len'{M:Mo}{L:Lay}{c:aM}(a:At M L c):(bZ L c).length=c.bs.length:=by unfold bZ;simp[a.len]
theorem At.enum{M:Mo}{L:Lay}{c:aM}(a:At M L c):oR 1 (L.bs.map ob)=(bZ L c).map nb:=by
 unfold oR bZ;apply aqH;intro i;simp only[aqV,aqs];by_cases hi:i < L.bs.length
 ·have hi2:i < c.bs.length:=by rw[←a.len];exact hi
  have hz:(L.bs.zip c.bs)[i]?=some (L.bs[i],c.bs[i]):=by rw[aq3];exact⟨aqi hi,aqi hi2⟩
  rw[hz];simp[hi,nb,Int.add_comm]
 ·have hi2:¬i < c.bs.length:=by rw[←a.len];exact hi
  have:(L.bs.zip c.bs)[i]?=none:=by rw[List.getElem?_eq_none_iff,List.length_zip];omega
  simp[aqK (by omega:L.bs.length<=i),this]
section
variable{M:Mo}{L:Lay}{c:aM}(a:At M L c)(few:c.bs.length<=50000)
include a few
theorem Ab:oM M [ob L.h]=.ok (.list (((bZ L c).filter λx=>x.2.2.sd.al).map nb)):=by
 obtain⟨n,hh⟩:=a.hh;have hl:=a.len';have he:=a.enum;have key:=gq (tg:=bA [1,2]) (tt:=iJ (bL "alive" (ao 2))) (te:=bK (ak (aq 1) (ak (aq 2) au))) (M:=M) (Z:=[some (.dat (ob L.h)),none,none]) nb (λx=>x.2.2.sd.al) nb (bZ L c) λx hx=>⟨[some (.dat (ob L.h)),some (.dat (.int ((x.1:Int)+1))),some (.dat (ob x.2.1))],by simp[nb],by
  obtain⟨n,hb⟩:=a.hb' hx;simp[hb,iB],λ_=>by simp[nb]⟩
 simp[oM,uN,hh,dI];rw[he];simp[key,hl,few]
theorem Q9(near:List Int):oX M [ob L.h,lI near]=.ok (.list (((bZ L c).filter λx=>decide (x.2.2.sd.g∈near)&&x.2.2.sd.al).map nb)):=by
 obtain⟨n,hh⟩:=a.hh;have h1:=Ab a few;have hl:((bZ L c).filter λx=>x.2.2.sd.al).length<=50000:=aqE (aqv _ _) (by rw[a.len'];exact few);have key:=gq (tg:=bA [2,3]) (tt:=aY (aA (inD false) (bL "ground" (ao 3)) (ao 1))) (te:=bK (ak (aq 2) (ak (aq 3) au))) (M:=M) (Z:=[some (.dat (ob L.h)),some (.dat (lI near)),none,none]) nb (λx=>decide (x.2.2.sd.g∈near)) nb ((bZ L c).filter λx=>x.2.2.sd.al) λx hx=>⟨[some (.dat (ob L.h)),some (.dat (lI near)),some (.dat (.int ((x.1:Int)+1))),some (.dat (ob x.2.1))],by simp[nb],by
  obtain⟨n,hb⟩:=a.hb' (aqA.mp hx).1;simp[hb,iB,Fv],λ_=>by simp[nb]⟩
 rw[ard]at key;simp[oX,yg,hh,dI,dY,h1,key,hl]
theorem ae0(o:Int):xO M [ob L.h,.int o]=.ok (.list (((bZ L c).filter λx=>(x.2.2.sd.o==o)&&x.2.2.sd.al).map nb)):=by
 obtain⟨n,hh⟩:=a.hh;have h1:=Ab a few;have hl:((bZ L c).filter λx=>x.2.2.sd.al).length<=50000:=aqE (aqv _ _) (by rw[a.len'];exact few);have key:=gq (tg:=bA [2,3]) (tt:=aY (aA bR (bL "owner" (ao 3)) (ao 1))) (te:=bK (ak (aq 2) (ak (aq 3) au))) (M:=M) (Z:=[some (.dat (ob L.h)),some (.dat (.int o)),none,none]) nb (λx=>x.2.2.sd.o==o) nb ((bZ L c).filter λx=>x.2.2.sd.al) λx hx=>⟨[some (.dat (ob L.h)),some (.dat (.int o)),some (.dat (.int ((x.1:Int)+1))),some (.dat (ob x.2.1))],by simp[nb],by
  obtain⟨n,hb⟩:=a.hb' (aqA.mp hx).1;simp[hb,iB],λ_=>by simp[nb]⟩
 rw[ard]at key;simp[xO,Ck,hh,dI,dY,h1,key,hl]
theorem Yh(k:Int):jV M [ob L.h,.int k]=if 1<=k/\k<=c.bs.length then .ok (ob ((L.bs[(k - 1).toNat]?).getD 0)) else .exc ⟨"NoBeast",[]⟩:=by
 obtain⟨n,hh⟩:=a.hh;have hlen:(L.bs.length:Int)=c.bs.length:=by rw[a.len]
 by_cases h:1<=k/\k<=c.bs.length
 ·rw[if_pos h];obtain⟨j,rfl⟩:∃j:Nat,k=(j:Int)+1:=⟨(k - 1).toNat,by omega⟩;have hj:j < L.bs.length:=by have:=a.len;omega
  have h1:(1:Int)<=j+1:=by omega
  have h2:(j:Int)+1<=L.bs.length:=by omega
  simp[jV,sY,hh,dI,h1,h2,hj]
 ·rw[if_neg h];by_cases h1:1<=k
  ·have h2:¬k<=L.bs.length:=by omega
   simp[jV,sY,hh,dI,h1,h2]
  ·simp[jV,sY,hh,dI,h1]
end
def bk(c:aM)(k:Int):Option dH:=if 1<=k/\k<=c.bs.length then c.bs[(k - 1).toNat]? else none
def hk(L:Lay)(k:Int):Nat:=(L.bs[(k - 1).toNat]?).getD 0
def qO(b:dH)(e:En):dH:={ b with en:=b.en++[e],sd:=go b.sd e }
def gH(c:aM)(i:Nat)(e:En):aM:={ c with bs:=c.bs.modify i λb=>qO b e }
theorem qQ{M:Mo}{L:Lay}{c:aM}(a:At M L c){k:Int}{b:dH}(h:bk c k=some b):1<=k/\k<=c.bs.length/\L.bs[(k - 1).toNat]?=some (hk L k)/\c.bs[(k - 1).toNat]?=some b/\∃n,M[hk L k]?=some (iB n b):=by
 unfold bk at h;split at h
 ·next hh=>
  have hl:(k - 1).toNat < L.bs.length:=by have:=a.len;omega
  have e:L.bs[(k - 1).toNat]?=some (hk L k):=by unfold hk;rw[aqi hl];rfl
  exact⟨hh.1,hh.2,e,h,a.hb _ _ _ e h⟩
 ·cases h
theorem agC{c:aM}{k:Int}(h:bk c k=none):¬(1<=k/\k<=c.bs.length):=λz=>by
 unfold bk at h;rw[if_pos z,List.getElem?_eq_none_iff]at h;omega
section
variable{M:Mo}{L:Lay}{c:aM}(a:At M L c)(few:c.bs.length<=50000)
include a few
theorem Hr{k:Int}{b:dH}(h:bk c k=some b):jV M [ob L.h,.int k]=.ok (ob (hk L k)):=by obtain⟨h1,h2,_⟩:=qQ a h;rw[Yh a few,if_pos ⟨h1,h2⟩];rfl
theorem Pg{k:Int}(h:bk c k=none):jV M [ob L.h,.int k]=.exc ⟨"NoBeast",[]⟩:=by rw[Yh a few,if_neg (agC h)]
theorem Dm(k:Int):qM M [ob L.h,.int k]=match bk c k with
  |none=>.exc ⟨"NoBeast",[]⟩
  |some b=>if b.sd.al then .ok (ob (hk L k)) else .exc ⟨"Dead",[]⟩:=by
 obtain⟨n,hh⟩:=a.hh;cases h:bk c k with
 |none=>
  have h1:=Pg a few h;simp[qM,uY,hh,dI,fD,h1]
 |some b=>
  have h1:=Hr a few h;obtain⟨_,_,_,_,n',hb⟩:=qQ a h;cases h2:b.sd.al<;>simp[qM,uY,hh,dI,fD,h1,hb,iB,h2]
theorem KC(k:Int):mW M [ob L.h,.int k]=match bk c k with
  |none=>.exc ⟨"NoBeast",[]⟩
  |some b=>if b.sd.al then(if b.sd.due=none then .exc ⟨"Unmarked",[]⟩ else .ok (ob (hk L k))) else .exc ⟨"Dead",[]⟩:=by
 obtain⟨n,hh⟩:=a.hh;have h0:=Dm a few k;cases h:bk c k with
 |none=>
  rw[h]at h0;simp[mW,qI,hh,dI,bJ,h0]
 |some b=>
  rw[h]at h0;obtain⟨_,_,_,_,n',hb⟩:=qQ a h;cases h2:b.sd.al with
  |false=>
   simp[h2]at h0;simp[mW,qI,hh,dI,bJ,h0,h2]
  |true=>
   simp[h2]at h0;cases h3:b.sd.due<;>simp[mW,qI,hh,dI,bJ,h0,hb,iB,h2,h3,pY,mU]
def yW(k:Int)(b:dH):Bool:=(b.mo==k)&&b.sd.due.isNone
theorem acX(k:Int):qK M [ob L.h,.int k]=match bk c k with
  |none=>.exc ⟨"NoBeast",[]⟩
  |some _=>.ok (.list (((bZ L c).filter λx=>yW k x.2.2&&x.2.2.sd.al).map nb)):=by
 obtain⟨n,hh⟩:=a.hh;have h1:=Ab a few;have hl:((bZ L c).filter λx=>x.2.2.sd.al).length<=50000:=aqE (aqv _ _) (by rw[a.len'];exact few);have key:=gq (tg:=bA [2,3]) (tt:=jF (aY (aA bR (bL "mother" (ao 3)) (ao 1))) (aY (xX false .none (bL "due" (ao 3))))) (te:=bK (ak (aq 2) (ak (aq 3) au))) (M:=M) (Z:=[some (.dat (ob L.h)),some (.dat (.int k)),none,none]) nb (λx=>yW k x.2.2) nb ((bZ L c).filter λx=>x.2.2.sd.al) λx hx=>⟨[some (.dat (ob L.h)),some (.dat (.int k)),some (.dat (.int ((x.1:Int)+1))),some (.dat (ob x.2.1))],by simp[nb],by
  obtain⟨n,hb⟩:=a.hb' (aqA.mp hx).1;by_cases h2:x.2.2.mo=k<;>cases h3:x.2.2.sd.due<;>simp[hb,iB,yW,h2,h3,pY,mU],λ_=>by simp[nb]⟩
 rw[ard]at key;cases h:bk c k with
 |none=>
  have h2:=Pg a few h;simp[qK,vo,hh,dI,fD,h2]
 |some b=>
  have h2:=Hr a few h;simp[qK,vo,hh,dI,fD,dY,h1,h2,key,hl]
theorem Kr(f:Fi)(hf:c.bs.length < 50000):∃M' h,qw M [ob L.h,f.dat]=.ok (.int (c.bs.length+1)) M'/\At M' { L with bs:=L.bs++[h] } { c with bs:=c.bs++[Eh f] }:=by
 obtain⟨n,hh⟩:=a.hh;have hl:L.h < M.length:=(aqg.mp hh).1;have hi:=agY M f;have hh2:(M++[iB (M.length+1) (Eh f),⟨"",[]⟩])[L.h]?=some (dI n L):=by rw[aqr hl];exact hh
 have hs:∀i,((M++[iB (M.length+1) (Eh f),(⟨"",[]⟩:Inst)]).set L.h i)[L.h]?=some i:=λi=>by rw[bH hh2,if_pos rfl]
 have hz:c.bs.length < 100000:=by omega
 refine⟨_,M.length,?_,a.amA (M2:=M++[iB (M.length+1) (Eh f),⟨"",[]⟩]) (n:=M.length+1) (n2:=n) (aqF _) (λk hk=>by rw[aqr hk]) (by simp)⟩
 simp[qw,vH,hh,dI,hi,hh2,hs,hz,a.len]
end
theorem yJ{M:Mo}{L:Lay}{c:aM}(a:At M L c){i h n:Nat}{b:dH}{e:En}(h1:L.bs[i]?=some h)(h2:c.bs[i]?=some b):At (M.set h (iB n (qO b e))) L (gH c i e):=by
 have:=a.setB (n:=n) (b':=qO b e) h1;have hm:c.bs.modify i (λb=>qO b e)=c.bs.set i (qO b e):=by
  apply aqH;intro j;rw[List.getElem?_modify,aq5];by_cases hj:i=j
  ·subst hj;have hl:=(aqg.mp h2).1;simp[hl,h2];have:=(aqg.mp h2).2;rw[this]
  ·simp[hj]
 unfold gH;rw[hm];exact this
theorem yr(c:aM)(i j:Nat)(e:En):(gH c i e).bs[j]?=if i=j then(c.bs[j]?).map λb=>qO b e else c.bs[j]?:=by unfold gH;simp only[List.getElem?_modify];by_cases h:i=j<;>simp[h]
def uW(xs:List (Nat×Nat×dH))(e:En)(c:aM):aM:=xs.foldl (λc x=>gH c x.1 e) c
theorem Oo{tg:fM}{body:SF}(Q:Rf.Env->Prop)(P:Nat->aM->Prop)(e:En)(L:Lay)(T:Nat):∀(xs:List (Nat×Nat×dH)) (M:Mo) (c:aM) (Z:Rf.Env) (i:Nat),i+xs.length<=T->At M L c->P i c->Q Z->
  (∀M c Z x i,i < T->At M L c->P i c->Q Z->x∈xs->∃Z1 Z2 M2,tg (nb x) Z=some Z1/\body M Z1=.next Z2 M2/\Q Z2/\At M2 L (gH c x.1 e)/\P (i+1) (gH c x.1 e))->
  ∃Z' M',fB tg body (xs.map nb) M Z=.next Z' M'/\Q Z'/\At M' L (uW xs e c)
 |[],M,c,Z,i,_,a,p,q,_=>⟨Z,M,rfl,q,a⟩
 |x::xs,M,c,Z,i,hT,a,p,q,h=>by
  rw[aqu]at hT;obtain⟨Z1,Z2,M2,h1,h2,h3,h4,h5⟩:=h M c Z x i (by omega) a p q aqj;obtain⟨Z',M',g1,g2,g3⟩:=Oo Q P e L T xs M2 _ Z2 (i+1) (by omega) h4 h5 h3 λM c Z y i hi a p q hy=>h M c Z y i hi a p q (aqk _ hy);exact⟨Z',M',by rw[aqh,gR h1 h2];exact g1,g2,g3⟩
structure KH(n:Nat)(c:aM):Prop where
 ear:∀b∈c.bs,b.sd.ear.length=6
 en:∀b∈c.bs,b.en.length<=n
theorem akb(s:Sd)(e:En)(he:s.ear.length=6)(h2:match e with|.cut l=>l.length=6|.sold _ l=>l.length=6|_=>True):(go s e).ear.length=6:=by cases e<;>simp_all [go,xK]
theorem Qn(e:En):∀(xs:List (Nat×Nat×dH)) (c:aM) (j:Nat),(xs.map (·.1)).Nodup->(uW xs e c).bs[j]?=if j∈xs.map (·.1) then(c.bs[j]?).map λb=>qO b e else c.bs[j]?
 |[],c,j,_=>by simp[uW]
 |x::xs,c,j,nd=>by
  rw[aqh,ark]at nd
  show(uW xs e (gH c x.1 e)).bs[j]?=_
  rw[Qn e xs _ j nd.2,yr];by_cases h1:x.1=j
  ·subst h1;rw[if_neg nd.1,if_pos rfl,if_pos (by simp)]
  ·rw[if_neg h1];by_cases h2:j∈xs.map (·.1)
   ·rw[if_pos h2,if_pos (by rw[aqh];exact aqk _ h2)]
   ·rw[if_neg h2,if_neg (by
     rw[aqh,aqt]
     rintro(z|z)
     ·exact h1 z.symm
     ·exact h2 z)]
theorem MP(e:En):∀(xs:List (Nat×Nat×dH)) (c:aM),(uW xs e c)={ c with bs:=(uW xs e c).bs }
 |[],_=>rfl
 |x::xs,c=>by
  show uW xs e (gH c x.1 e)={ c with bs:=(uW xs e (gH c x.1 e)).bs };rw[MP e xs];rfl
theorem abZ{L:Lay}{c:aM}(p:Nat×Nat×dH->Bool):(((bZ L c).filter p).map (·.1)).Nodup:=by
 have h:((bZ L c).map (·.1)).Nodup:=by
  have e:(bZ L c).map (·.1)=List.range (L.bs.zip c.bs).length:=by
   unfold bZ;apply aqH;intro i;simp only[aqs,aqV];by_cases hi:i < (L.bs.zip c.bs).length
   ·rw[aqi hi,List.getElem?_range hi];rfl
   ·rw[aqK (by omega:(L.bs.zip c.bs).length<=i),aqK (by rw[List.length_range];omega:(List.range (L.bs.zip c.bs).length).length<=i)];rfl
  rw[e];exact List.nodup_range
 exact h.sublist (List.Sublist.map _ List.filter_sublist)
def oN(p:dH->Bool)(e:En)(c:aM):aM:={ c with bs:=c.bs.map λb=>if p b then qO b e else b }
theorem U8{M:Mo}{L:Lay}{c:aM}(a:At M L c)(p:dH->Bool)(e:En):uW ((bZ L c).filter λx=>p x.2.2) e c=oN p e c:=by
 rw[MP];unfold oN;congr 1;apply aqH;intro j;rw[Qn _ _ _ _ (abZ _),aqs];by_cases hj:j < c.bs.length
 ·have hb:=aqi hj;rw[hb];have hl:j < L.bs.length:=by rw[a.len];exact hj
  have mem:(j,L.bs[j],c.bs[j])∈bZ L c:=by unfold bZ;rw[List.mem_mapIdx];refine⟨j,by simp;omega,by simp⟩
  by_cases hp:p c.bs[j]=true
  ·have:j∈((bZ L c).filter λx=>p x.2.2).map (·.1):=aqp.mpr ⟨_,aqA.mpr ⟨mem,hp⟩,rfl⟩;rw[if_pos this];simp[hp]
  ·have:j∉((bZ L c).filter λx=>p x.2.2).map (·.1):=λz=>by
    obtain⟨x,h1,h2⟩:=aqp.mp z;obtain⟨h3,h4⟩:=aqA.mp h1;obtain⟨_,h5⟩:=Dj h3;rw[h2,hb]at h5;rw[←aqC h5]at h4;exact hp h4
   rw[if_neg this];simp[hp]
 ·rw[aqK (by omega:c.bs.length<=j)];simp
theorem KH.step{n:Nat}{c:aM}(bi:KH n c)(i:Nat)(e:En)(h2:match e with|.cut l=>l.length=6|.sold _ l=>l.length=6|_=>True):KH (n+1) (gH c i e):=by
 have key:∀b∈(gH c i e).bs,b∈c.bs∨∃b0∈c.bs,b=qO b0 e:=λb hb=>by
  obtain⟨j,hj⟩:=List.mem_iff_getElem?.mp hb;rw[yr]at hj;split at hj
  ·obtain⟨b0,h3,h4⟩:=aq1.mp hj;exact .inr ⟨b0,aqm h3,h4.symm⟩
  ·exact .inl (aqm hj)
 refine⟨λb hb=>?_,λb hb=>?_⟩
 ·rcases key b hb with h|⟨b0,h,rfl⟩
  ·exact bi.ear b h
  ·exact akb _ _ (bi.ear b0 h) h2
 ·rcases key b hb with h|⟨b0,h,rfl⟩
  ·have:=bi.en b h;omega
  ·have:=bi.en b0 h;simp[qO];omega
section
variable{M:Mo}{L:Lay}{c:aM}(a:At M L c)(few:c.bs.length<=1000){n:Nat}(bi:KH n c)(hn:n<=40000)
include a few bi hn
theorem Gp(k:Int){b:dH}(hk':bk c k=some b):∃M',m9 M [ob L.h,.int k]=.ok .none M'/\At M' L (oN (λx=>yW k x&&x.sd.al) (.followed b.sd.o b.sd.g) c):=by
 obtain⟨m,hh⟩:=a.hh;have few2:c.bs.length<=50000:=by omega
 have h1:=Hr a few2 hk';have h2:=acX a few2 k;rw[hk']at h2;obtain⟨k1,k2,k3,k4,k5⟩:=qQ a hk';have hlen:((bZ L c).filter λx=>yW k x.2.2&&x.2.2.sd.al).length<=1000:=aqE (aqv _ _) (by rw[a.len'];exact few);obtain⟨Z',M',g1,g2,g3⟩:=Oo (tg:=bA [3,4]) (body:=qb) (λZ=>∃x y,Z=[some (.dat (ob L.h)),some (.dat (.int k)),some (.dat (ob (hk L k))),x,y])
  (λi c1=>(∃b1,c1.bs[(k - 1).toNat]?=some b1/\b1.sd.o=b.sd.o/\b1.sd.g=b.sd.g)/\KH (n+i) c1/\c1.bs.length=c.bs.length) (.followed b.sd.o b.sd.g) L 1000 ((bZ L c).filter λx=>yW k x.2.2&&x.2.2.sd.al) M c [some (.dat (ob L.h)),some (.dat (.int k)),some (.dat (ob (hk L k))),none,none] 0 (by omega) a ⟨⟨b,k4,rfl,rfl⟩,bi,rfl⟩ ⟨none,none,rfl⟩ (λM1 c1 Z x i hi a1 p1 q1 hx=>by
   obtain⟨⟨bm,m1,m2,m3⟩,bi1,l1⟩:=p1;obtain⟨x0,y0,rfl⟩:=q1;obtain⟨nm,hm⟩:=a1.hb _ _ _ k3 m1;obtain⟨e1,e2⟩:=Dj (aqA.mp hx).1;have hl:x.1 < c1.bs.length:=by rw[l1];exact(aqg.mp e2).1
   have e3:=aqi hl;obtain⟨nx,hx1⟩:=a1.hb _ _ _ e1 e3;have mem:=aqR hl;have hb:=sO hx1 (.followed b.sd.o b.sd.g) (by rw[bi1.ear _ mem];decide) (by have:=bi1.en _ mem;omega);refine⟨[some (.dat (ob L.h)),some (.dat (.int k)),some (.dat (ob (hk L k))),some (.dat (.int ((x.1:Int)+1))),some (.dat (ob x.2.1))],[some (.dat (ob L.h)),some (.dat (.int k)),some (.dat (ob (hk L k))),some (.dat (.int ((x.1:Int)+1))),some (.dat (ob x.2.1))],_,by simp[nb],?_,⟨_,_,rfl⟩,yJ (n:=nx) a1 e1 e3,?_,bi1.step _ _ trivial,by simp[gH,l1]⟩
   ·have hb:lM M1 [ob x.2.1,.tuple [.str "followed",.int b.sd.o,.int b.sd.g]]=_:=hb
    simp[qb,hx1,hm,bM];simp[iB]at hb ⊢;simp[m2,m3,hb,qO]
   ·rw[yr,m1];by_cases z:x.1=(k - 1).toNat
    ·exact⟨qO bm (.followed b.sd.o b.sd.g),by rw[if_pos z];rfl,rfl,rfl⟩
    ·exact⟨bm,by rw[if_neg z],m2,m3⟩)
 rw[U8 a (λx=>yW k x&&x.sd.al)]at g3;refine⟨M',?_,g3⟩;simp[m9,tD,hh,dI,fD,yL,h1,h2,g1]
end
def pD(p:Int×Int):Dat:=.tuple [.int p.1,.int p.2]
theorem yH:∀(x y:List Int),wL (x.map PyData.int) (y.map PyData.int)=(x.zip y).map pD
 |[],_=>by simp[wL]
 |_::_,[]=>by simp[wL]
 |a::x,b::y=>by
  have:=yH x y;unfold wL at this ⊢;rw[aqh,aqh,List.zipWith_cons_cons,this,aq0,aqh];rfl
def jX(x y:List Int):Int:=(((x.zip y).filter λp=>decide (p.1 < p.2)).map λp=>p.2 - p.1).sum
def j6(x y:List Int):Int:=if jX y x > jX x y then jX y x else jX x y
def bW(x y:List Int):List Int:=(x.zip y).map λp=>if p.2 > p.1 then p.2 else p.1
theorem agD(x y:List Int)(h:x.length<=1000):(x.zip y).length<=50000:=by rw[List.length_zip];omega
theorem Vw(l:List Int):Ue (.list (l.map PyData.int))=.ok (.int l.sum):=by
 show(match intsOf (l.map PyData.int) with
  |some ns=>Out.ok (PyData.int ns.sum)
  |none=>.bad)=_
 rw[Bg]
theorem Oq(M:Mo)(x y:List Int)(h:x.length<=1000):tZ M [aH x,aH y]=.ok (.int (jX x y)):=by
 have key:=gq (tg:=bA [2,3]) (tt:=aY (aA W8 (ao 3) (ao 2))) (te:=aA lE (ao 3) (ao 2)) (M:=M) (Z:=[some (.dat (aH x)),some (.dat (aH y)),none,none]) pD (λp=>decide (p.1 < p.2)) (λp=>.int (p.2 - p.1)) (x.zip y) λp _=>⟨[some (.dat (aH x)),some (.dat (aH y)),some (.dat (.int p.1)),some (.dat (.int p.2))],by simp[pD],by simp,λ_=>by simp⟩;have hz:=agD x y h;have hs:=Vw (((x.zip y).filter λp=>decide (p.1 < p.2)).map λp=>p.2 - p.1);rw[aqJ]at hs;have hz2:min x.length y.length<=50000:=by omega
 simp[tZ,Rv,yH,key,hz2];simp[aqz]at hs;simp[hs,jX]
theorem adY(M:Mo)(x y:List Int)(h:x.length<=1000)(h2:y.length<=1000):Fd M [aH x,aH y]=.ok (.int (j6 x y)):=by simp[Fd,R7,Oq M x y h,Oq M y x h2,j6]
theorem RB(M:Mo)(x y:List Int)(r:Int)(h:x.length<=1000)(h2:y.length<=1000):qL M [aH x,aH y,.int r]=.ok (.bool (decide (j6 x y<=r))):=by simp[qL,W7,adY M x y h h2]
theorem Gz(M:Mo)(x y:List Int)(h:x.length<=1000):pA M [aH x,aH y]=.ok (aH (bW x y)):=by
 have key:=eU (tg:=bA [2,3]) (te:=aA oJ (ao 2) (ao 3)) (M:=M) (Z:=[some (.dat (aH x)),some (.dat (aH y)),none,none]) pD (λp=>.int (if p.2 > p.1 then p.2 else p.1)) (x.zip y) λp _=>⟨[some (.dat (aH x)),some (.dat (aH y)),some (.dat (.int p.1)),some (.dat (.int p.2))],by simp[pD],by simp⟩;have hz2:min x.length y.length<=50000:=by omega
 simp[pA,R9,yH,key,hz2,bW]
abbrev Rw:=Ear.Rw
theorem Kz:∀R:List Rw,Bq (R.map Ear.rD)=some R
 |[]=>rfl
 |r::R=>by
  rw[aqh,Bq,Kz R];have:abk (Ear.rD r)=some r:=by
   unfold Ear.rD Ear.dT
   show(intsOf (r.2.map PyData.int)).map _=_
   rw[Bg];rfl
  rw[this];rfl
theorem K6(M:Mo)(R:List Rw)(h:R.eraseDups.length<=76):pQ M [.list (R.map Ear.rD)]=.ok (.list ((bG R).map Ear.rD)):=by
 have:Px (.list (R.map Ear.rD))=.ok (.list ((bG R).map Ear.rD)):=by
  show(match Bq (R.map Ear.rD) with
   |some R=>match decide (R.eraseDups.length<=76) with
    |true=>Out.ok (PyData.list ((bG R).map Ear.rD))
    |false=>.bad
   |none=>.bad)=_
  rw[Kz]
  show(match decide (R.eraseDups.length<=76) with
    |true=>Out.ok (PyData.list ((bG R).map Ear.rD))
    |false=>.bad)=_
  rw[decide_eq_true h]
 simp[pQ,Nz,this]
theorem pO(R:List Rw):(bG R).length=R.eraseDups.length:=by unfold bG oH;rw[List.length_mergeSort]
def vN(o:Int)(e:List Int)(R:List Rw)(room:Int):List Rw:=(bG R).filter λr=>!(r.1==o)&&decide (j6 e r.2<=room)
def tV(R:List Rw):Prop:=∀r∈R,r.2.length=6
theorem abn(M:Mo)(o:Int)(e:List Int)(R:List Rw)(room:Int)(he:e.length=6)(hR:tV R)(h:R.eraseDups.length<=76):zK M [.int o,aH e,.list (R.map Ear.rD),.int room]=.ok (.list ((vN o e R room).map Ear.rD)):=by
 have ht:=K6 M R h;have hl:(bG R).length<=50000:=by rw[pO];omega
 have key:=gq (tg:=bA [4,5]) (tt:=jF (aY (aA vZ (ao 4) (ao 0))) (iJ (aV qL (ak (aq 1) (ak (aq 5) (ak (aq 3) au)))))) (te:=bK (ak (aq 4) (ak (aq 5) au))) (M:=M) (Z:=[some (.dat (.int o)),some (.dat (aH e)),some (.dat (.list (R.map Ear.rD))),some (.dat (.int room)),none,none]) Ear.rD (λr=>!(r.1==o)&&decide (j6 e r.2<=room)) Ear.rD (bG R) λr hr=>⟨[some (.dat (.int o)),some (.dat (aH e)),some (.dat (.list (R.map Ear.rD))),some (.dat (.int room)),some (.dat (.int r.1)),some (.dat (aH r.2))],by simp[Ear.rD,Ear.dT],by
  have:=RB M e r.2 room (by omega) (by rw[hR r (dW.mp hr)];decide);by_cases hz:r.1=o<;>simp[this,hz],λ_=>by simp[Ear.rD,Ear.dT]⟩
 simp[zK,K7,ht,key,hl,vN]
theorem MN(M:Mo)(o:Int)(e:List Int)(R:List Rw)(room:Int)(he:e.length=6)(hR:tV R)(h:R.eraseDups.length<=76):ou M [.int o,aH e,.list (R.map Ear.rD),.int room]=match vN o e R room with
  |[]=>.ok .none
  |r::_=>.exc ⟨"Clash",[("ear",aH (bW e r.2)),("others",Ear.rD r),("ones",Ear.rD (o,e))]⟩:=by
 have hb:=abn M o e R room he hR h;cases hx:vN o e R room with
 |nil=>
  rw[hx]at hb;simp[ou,Bp,hb]
 |cons r rs=>
  rw[hx]at hb;have hj:=Gz M e r.2 (by omega);simp[ou,Bp,hb];simp[Ear.rD,Ear.dT,hj]
theorem Hz{α β:Type}{tg tg1:fM}{tt tt1:QT}{it1:IF}{vs1:List Nat}{te:QF}{M:Mo}{Z:Rf.Env}(ds:α->Dat)(ys:α->List β)(ds1:β->Dat)(p:α->β->Bool)(f:α->β->Dat):∀(xs:List α),(∀x∈xs,∃Z1,tg (ds x) Z=some Z1/\tt M Z1=.ok true/\yS Z1=true/\it1 M Z1=.ok ((ys x).map ds1)/\∀y∈ys x,∃Z2,tg1 (ds1 y) (cD Z1 vs1)=some Z2/\tt1 M Z2=.ok (p x y)/\(p x y=true->te M Z2=.ok (f x y)))->
  gQ tg tt it1 tg1 vs1 tt1 te M Z (xs.map ds)=.ok (xs.flatMap λx=>((ys x).filter (p x)).map (f x))
 |[],_=>rfl
 |x::xs,h=>by
  obtain⟨Z1,h1,h2,h3,h4,h5⟩:=h x aqj;have ih:=Hz ds ys ds1 p f xs λy hy=>h y (aqk _ hy);have hc:=gq (tg:=tg1) (tt:=tt1) (te:=te) (M:=M) (Z:=cD Z1 vs1) ds1 (p x) (f x) (ys x) h5;rw[aqh,gQ,h1]
  show((xQ (tt M Z1)).bind λb=>if b=true then Out.when (yS Z1) ((xQ (it1 M Z1)).bind λes=>(dG tg1 tt1 te M (cD Z1 vs1) es).bind λr1=>(gQ tg tt it1 tg1 vs1 tt1 te M Z (xs.map ds)).bind λr=>Out.ok (r1++r)) else gQ tg tt it1 tg1 vs1 tt1 te M Z (xs.map ds))=_
  rw[h2,Yp,Out.yt,if_pos rfl,h3,Out.U6,h4,Yp,Out.yt,hc,Out.yt,ih,Out.yt,List.flatMap_cons]
def cU(x:List Int):Bool:=decide (x.length=6)&&x.all λd=>decide (0<=d)&&decide (d<=9)
theorem Dq(l:List Bool):tO (l.map PyData.bool)=some l:=by
 induction l with
 |nil=>rfl
 |cons b l ih=>rw[aqh,tO,ih];rfl
theorem Vx(M:Mo)(x:List Int)(h:x.length<=1000):tL M [aH x]=.ok (.bool (cU x)):=by
 have key:=eU (tg:=aF 1) (te:=Vm (nR uG uG (qC (.int 0)) (ao 1) (qC cR))) (M:=M) (Z:=[some (.dat (aH x)),none]) PyData.int (λd=>.bool (decide (0<=d)&&decide (d<=9))) x λd _=>⟨[some (.dat (aH x)),some (.dat (.int d))],by simp,by
  by_cases h0:0<=d<;>simp[h0,cR]⟩
 have ha:Nk (.list (x.map λd=>PyData.bool (decide (0<=d)&&decide (d<=9))))=.ok (.bool (x.all λd=>decide (0<=d)&&decide (d<=9))):=by
  have e:(x.map λd=>PyData.bool (decide (0<=d)&&decide (d<=9)))=(x.map λd=>decide (0<=d)&&decide (d<=9)).map PyData.bool:=by rw[aqJ];rfl
  rw[e]
  show(match tO _ with
   |some bs=>Out.ok (PyData.bool (bs.all id))
   |none=>.bad)=_
  rw[Dq];simp[List.all_map,aqz]
 have hl:x.length<=50000:=by omega
 by_cases h6:x.length=6
 ·have h6':((x.length:Int)==6)=true:=by simp[h6]
  simp[tL,GP,iQ,key,hl,ha,cU,h6]
 ·have h6':¬(x.length:Int)=6:=by omega
  simp[tL,GP,iQ,cU,h6,h6']
theorem Mz(M:Mo)(x:List Int)(h:x.length<=1000):qd M [aH x]=if cU x then .ok .none else .exc ⟨"BadEar",[]⟩:=by have:=Vx M x h;cases hb:cU x<;>simp[qd,GJ,this,hb]
def pairD(p:Rw×Rw):Dat:=.tuple [Ear.rD p.1,Ear.rD p.2]
def jN(T:List Rw)(room:Int):List (Rw×Rw):=(T.mapIdx λi r=>(i,r)).flatMap λx=>((T.drop (x.1+1)).filter λs=>!(x.2.1==s.1)&&decide (j6 x.2.2 s.2<=room)).map λs=>(x.2,s)
theorem ZC(T:List Rw)(room:Int):(jN T room).length<=T.length * T.length:=by
 unfold jN;rw[List.length_flatMap];have key:∀(l:List (Nat×Rw)),(l.map λx=>(((T.drop (x.1+1)).filter λs=>!(x.2.1==s.1)&&decide (j6 x.2.2 s.2<=room)).map λs=>(x.2,s)).length).sum<=l.length * T.length:=by
  intro l
  induction l with
  |nil=>simp
  |cons x l ih=>
   rw[aqh,List.sum_cons,aqu,Nat.add_mul,Nat.one_mul];have:(((T.drop (x.1+1)).filter λs=>!(x.2.1==s.1)&&decide (j6 x.2.2 s.2<=room)).map λs=>(x.2,s)).length<=T.length:=by rw[aqo];refine aqE (aqv _ _) ?_;rw[arh];omega
   omega
 have:=key (T.mapIdx λi r=>(i,r));rw[List.length_mapIdx]at this;exact this
theorem Zv(M:Mo)(R:List Rw)(room:Int)(hR:tV R)(h:R.eraseDups.length<=76):uw M [.list (R.map Ear.rD),.int room]=.ok (.list ((jN (bG R) room).map pairD)):=by
 have ht:=K6 M R h;have hl:(bG R).length<=76:=by rw[pO];exact h
 have hE:∀r∈bG R,r.2.length=6:=λr hr=>hR r (dW.mp hr);generalize bG R=T at ht hl hE;have he:oR 0 (T.map Ear.rD)=(T.mapIdx λi r=>(i,r)).map λ(x:Nat×Rw)=>PyData.tuple [.int x.1,Ear.rD x.2]:=by unfold oR;apply aqH;intro i;simp;cases T[i]?<;>simp
 have key:=Hz (tg:=bA [3,4]) (tg1:=aF 5) (tt:=gA) (it1:=cV (QH (ao 2) (sS (aA fG (ao 3) (qC (.int 1)))) CJ)) (vs1:=[5]) (tt1:=jF (aY (aA vZ (aA aO (ao 4) (qC (.int 0))) (aA aO (ao 5) (qC (.int 0))))) (iJ (aV qL (ak (aA aO (ao 4) (qC (.int 1))) (ak (aA aO (ao 5) (qC (.int 1))) (ak (aq 1) au)))))) (te:=bK (ak (aq 4) (ak (aq 5) au))) (M:=M) (Z:=[some (.dat (.list (R.map Ear.rD))),some (.dat (.int room)),some (.dat (.list (T.map Ear.rD))),none,none,none])
  (λ(x:Nat×Rw)=>PyData.tuple [.int x.1,Ear.rD x.2]) (λx=>T.drop (x.1+1)) Ear.rD (λx s=>!(x.2.1==s.1)&&decide (j6 x.2.2 s.2<=room)) (λx s=>pairD (x.2,s)) (T.mapIdx λi r=>(i,r)) λx hx=>⟨[some (.dat (.list (R.map Ear.rD))),some (.dat (.int room)),some (.dat (.list (T.map Ear.rD))),some (.dat (.int x.1)),some (.dat (Ear.rD x.2)),none],by simp,rfl,rfl,by
   have:=Zb (T.map Ear.rD) (x.1+1);simp at this ⊢;rw[this],λs hs=>⟨[some (.dat (.list (R.map Ear.rD))),some (.dat (.int room)),some (.dat (.list (T.map Ear.rD))),some (.dat (.int x.1)),some (.dat (Ear.rD x.2)),some (.dat (Ear.rD s))],by simp,by
   obtain⟨i,hi,rfl⟩:=List.mem_mapIdx.mp hx;have h1:=hE _ (aqR hi);have h2:=hE s (List.mem_of_mem_drop hs);have:=RB M (T[i]).2 s.2 room (by omega) (by omega);by_cases hz:(T[i]).1=s.1<;>simp[Ear.rD,Ear.dT,this,hz],λ_=>by simp[pairD]⟩⟩
 have e2:((T.mapIdx λi r=>(i,r)).flatMap λx=>((T.drop (x.1+1)).filter λs=>!(x.2.1==s.1)&&decide (j6 x.2.2 s.2<=room)).map λs=>pairD (x.2,s))=(jN T room).map pairD:=by unfold jN;rw[List.map_flatMap];congr 1;funext x;rw[aqJ];rfl
 rw[e2]at key;have hc:(jN T room).length<=50000:=by have:=ZC T room;have:T.length * T.length<=76 * 76:=Nat.mul_le_mul hl hl;omega
 simp[uw,GD,ht];rw[he];simp[key,hc]
def hdD(x:List Int×Int):Dat:=.tuple [aH x.1,.int x.2]
def JL(d l:Int):Int:=(if 9 < d+l then 9 else d+l)+1
def Bl(d l:Int):List Int:=(List.range (JL d l - d).toNat).map λ(i:Nat)=>d+(i:Int)
def stepT(d:Int)(H:List (List Int×Int)):List (List Int×Int):=H.flatMap λx=>(Bl d x.2).map λcut=>(x.1++[cut],x.2 - (cut - d))
structure O4(k:Nat)(H:List (List Int×Int)):Prop where
 len:H.length<=4 ^ k
 left:∀x∈H,0<=x.2/\x.2<=3
 hd:∀x∈H,x.1.length=k/\∀y∈x.1,0<=y/\y<=9
theorem acs{d l:Int}(hl:0<=l/\l<=3):(Bl d l).length<=4:=by
 unfold Bl JL;simp
 split<;>omega
theorem VL{d l y:Int}(h:y∈Bl d l):d<=y/\y<=d+l/\y<=9:=by unfold Bl JL at h;obtain⟨i,hi,rfl⟩:=aqp.mp h;rw[List.mem_range]at hi;split at hi<;>omega
theorem VF{k:Nat}{H:List (List Int×Int)}{d:Int}(i:O4 k H)(hd:0<=d/\d<=9):O4 (k+1) (stepT d H):=by
 refine⟨?_,λx hx=>?_,λx hx=>?_⟩
 ·have key:∀l:List (List Int×Int),(∀x∈l,0<=x.2/\x.2<=3)->(stepT d l).length<=l.length * 4:=by
   intro l
   induction l with
   |nil=>intro _;simp[stepT]
   |cons x l ih=>
    intro h;have h1:=ih λy hy=>h y (aqk _ hy);have h2:=acs (d:=d) (h x aqj);unfold stepT at h1 ⊢;rw[List.flatMap_cons,aqO,aqo,aqu];omega
  have:=key H i.left;have:=i.len;rw[Nat.pow_succ];omega
 ·unfold stepT at hx;obtain⟨y,hy,hx⟩:=List.mem_flatMap.mp hx;obtain⟨c,hc,rfl⟩:=aqp.mp hx;have:=VL hc;have:=i.left y hy;show 0<=y.2 - (c - d)/\y.2 - (c - d)<=3;omega
 ·unfold stepT at hx;obtain⟨y,hy,hx⟩:=List.mem_flatMap.mp hx;obtain⟨c,hc,rfl⟩:=aqp.mp hx;have:=VL hc;obtain⟨h1,h2⟩:=i.hd y hy;refine⟨by simp[h1],λz hz=>?_⟩;rcases aqq.mp hz with hz|hz
  ·exact h2 z hz
  ·rw[aql.mp hz];omega
theorem adR(M:Mo)(e m:Option Cell)(he:yS [e,m]=true){k:Nat}{H:List (List Int×Int)}{d:Int}(i:O4 k H)(hk:k<=5)(hd:0<=d/\d<=9):BX M [e,m,some (.dat (.list (H.map hdD))),some (.dat (.int d)),none,none,none]=.next [e,m,some (.dat (.list ((stepT d H).map hdD))),some (.dat (.int d)),none,none,none] M:=by
 have key:=Hz (tg:=bA [4,5]) (tg1:=aF 6) (tt:=gA) (it1:=Bv (ao 3) (aA fG (aA HD (aA fG (ao 3) (ao 5)) (qC cR)) (qC (.int 1)))) (vs1:=[6]) (tt1:=gA) (te:=bK (ak (aA fG (ao 4) (bK (ak (aq 6) au))) (ak (aA lE (ao 5) (aA lE (ao 6) (ao 3))) au))) (M:=M) (Z:=[e,m,some (.dat (.list (H.map hdD))),some (.dat (.int d)),none,none,none])
  hdD (λx=>Bl d x.2) PyData.int (λ_ _=>true) (λx c=>hdD (x.1++[c],x.2 - (c - d))) H λx hx=>⟨[e,m,some (.dat (.list (H.map hdD))),some (.dat (.int d)),some (.dat (aH x.1)),some (.dat (.int x.2)),none],by simp[hdD],rfl,by
   simp[yS]at he ⊢;exact he,by
   have hl:=i.left x hx;have hz:JL d x.2<=100000/\-100000<=JL d x.2/\d<=100000/\-100000<=d:=by unfold JL;split<;>omega
   have e1:pH d (JL d x.2 - d).toNat=(Bl d x.2).map PyData.int:=by unfold pH Bl;rw[aqJ];rfl
   have e2:(if 9 < d+x.2 then(9:Int) else d+x.2)+1=JL d x.2:=rfl;simp[cR,e2,e1,hz],λc hc=>⟨[e,m,some (.dat (.list (H.map hdD))),some (.dat (.int d)),some (.dat (aH x.1)),some (.dat (.int x.2)),some (.dat (.int c))],by simp,rfl,λ_=>by
   have h1:=(i.hd x hx).1;have h2:x.1.length+1<=100000:=by omega
   simp[hdD,h2]⟩⟩
 have e2:(H.flatMap λx=>((Bl d x.2).filter λ_=>true).map λc=>hdD (x.1++[c],x.2 - (c - d)))=(stepT d H).map hdD:=by unfold stepT;rw[List.map_flatMap];congr 1;funext x;rw[List.filter_eq_self.mpr (λ_ _=>rfl),aqJ];rfl
 rw[e2]at key;have hl:(stepT d H).length<=50000:=by have:=(VF i hd).len;have:4 ^ (k+1)<=4 ^ 6:=Nat.pow_le_pow_right (by decide) (by omega);omega
 simp[BX,key,hl]
theorem Kl(M:Mo)(e m:Option Cell)(he:yS [e,m]=true):∀(ear:List Int) (k:Nat) (H:List (List Int×Int)) (o:Option Cell),O4 k H->k+ear.length<=6->(∀d∈ear,0<=d/\d<=9)->
  (∃o',fB (aF 3) BX (ear.map PyData.int) M [e,m,some (.dat (.list (H.map hdD))),o,none,none,none]=.next [e,m,some (.dat (.list ((ear.foldl (λH d=>stepT d H) H).map hdD))),o',none,none,none] M)/\O4 (k+ear.length) (ear.foldl (λH d=>stepT d H) H)
 |[],k,H,o,i,_,_=>⟨⟨o,rfl⟩,i⟩
 |d::ear,k,H,o,i,hk,hd=>by
  rw[aqu]at hk;have h1:=hd d aqj;obtain⟨⟨o',ih⟩,i2⟩:=Kl M e m he ear (k+1) (stepT d H) (some (.dat (.int d))) (VF i h1) (by omega) λy hy=>hd y (aqk _ hy);refine⟨⟨o',?_⟩,?_⟩
  ·rw[aqh,gR (Z1:=[e,m,some (.dat (.list (H.map hdD))),some (.dat (.int d)),none,none,none]) (by simp) (adR M e m he i (by omega) h1),ih];rfl
  ·rw[aqu,show k+(ear.length+1)=k+1+ear.length by omega];exact i2
def Du(ear:List Int)(many:Int):List (List Int):=(ear.foldl (λH d=>stepT d H) [([],many)]).map (·.1)
theorem acF{many:Int}(hm:0<=many/\many<=3):O4 0 [([],many)]:=⟨by simp,λx hx=>by rw[aql.mp hx];exact hm,λx hx=>by rw[aql.mp hx];simp⟩
theorem Oj{ear:List Int}{many:Int}(he:cU ear=true)(hm:0<=many/\many<=3):O4 6 (ear.foldl (λH d=>stepT d H) [([],many)]):=by unfold cU at he;rw[aqf,ars,aqB]at he;have:=(Kl [] none none rfl ear 0 [([],many)] none (acF hm) (by omega) λd hd=>by simpa using he.2 d hd).2;rw[he.1]at this;exact this
theorem agz(M:Mo)(ear:List Int)(many:Int)(he:cU ear=true)(hm:0<=many/\many<=3):Jv M [aH ear,.int many]=.ok (.list ((Du ear many).map aH)):=by
 have he':=he;unfold cU at he';rw[aqf,ars,aqB]at he';obtain⟨⟨o',h1⟩,_⟩:=Kl M (some (.dat (aH ear))) (some (.dat (.int many))) rfl ear 0 [([],many)] none (acF hm) (by omega) λd hd=>by simpa using he'.2 d hd
 have hi:=Oj he hm;generalize hH:ear.foldl (λH d=>stepT d H) [([],many)]=H at h1 hi;have key:=eU (tg:=bA [4,5]) (te:=aq 4) (M:=M) (Z:=[some (.dat (aH ear)),some (.dat (.int many)),some (.dat (.list (H.map hdD))),o',none,none,none]) hdD (λx=>aH x.1) H λx _=>⟨[some (.dat (aH ear)),some (.dat (.int many)),some (.dat (.list (H.map hdD))),o',some (.dat (aH x.1)),some (.dat (.int x.2)),none],by simp[hdD],by simp⟩;have hl:H.length<=50000:=by
  have:=hi.len;have:(4:Nat) ^ 6=4096:=by decide
  omega
 have h1':fB (aF 3) BX (ear.map PyData.int) M [some (.dat (aH ear)),some (.dat (.int many)),some (.dat (.list [.tuple [.tuple [],.int many]])),none,none,none,none]=_:=h1;have key2:∀o2:Option Cell,dG (bA [4,5]) gA (aq 4) M [some (.dat (aH ear)),some (.dat (.int many)),some (.dat (.list (H.map hdD))),o2,none,none,none] (H.map hdD)=.ok (H.map λx=>aH x.1):=λo2=>eU (tg:=bA [4,5]) (te:=aq 4) (M:=M) (Z:=[some (.dat (aH ear)),some (.dat (.int many)),some (.dat (.list (H.map hdD))),o2,none,none,none]) hdD (λx=>aH x.1) H λx _=>⟨[some (.dat (aH ear)),some (.dat (.int many)),some (.dat (.list (H.map hdD))),o2,some (.dat (aH x.1)),some (.dat (.int x.2)),none],by simp[hdD],by simp⟩;simp[Jv,Yw,h1',key2,hl,Du,hH]
def O6(mark:List Int)(extra:Int):List (List Int):=(Du mark extra).filter λe=>jX mark e==extra
theorem Uz{ear:List Int}{many:Int}(he:cU ear=true)(hm:0<=many/\many<=3){x:List Int}(h:x∈Du ear many):cU x=true:=by obtain⟨y,hy,rfl⟩:=aqp.mp h;obtain⟨h1,h2⟩:=(Oj he hm).hd y hy;unfold cU;rw[aqf,ars,aqB];exact⟨h1,λd hd=>by simpa using h2 d hd⟩
theorem acu{ear:List Int}{many:Int}(he:cU ear=true)(hm:0<=many/\many<=3):(Du ear many).length<=4096:=by unfold Du;rw[aqo];exact(Oj he hm).len
theorem XF(M:Mo)(mark:List Int)(extra:Int)(he:cU mark=true)(hm:0<=extra/\extra<=3):uP M [aH mark,.int extra]=.ok (.list ((O6 mark extra).map aH)):=by
 have h1:=agz M mark extra he hm;have hl:=acu he hm;have h6:mark.length<=1000:=by unfold cU at he;rw[aqf,ars]at he;omega
 have key:=gq (tg:=aF 2) (tt:=aY (aA bR (aV tZ (ak (aq 0) (ak (aq 2) au))) (ao 1))) (te:=aq 2) (M:=M) (Z:=[some (.dat (aH mark)),some (.dat (.int extra)),none]) aH (λe=>jX mark e==extra) aH (Du mark extra) λx _=>⟨[some (.dat (aH mark)),some (.dat (.int extra)),some (.dat (aH x))],by simp,by
  have:=Oq M mark x h6;simp[this],λ_=>by simp⟩
 have hl2:(Du mark extra).length<=50000:=by omega
 simp[uP,Ed,h1,key,hl2,O6]
def Bh(R:List Rw)(room:Int)(e:List Int):Bool:=!(R.any λr=>decide (j6 e r.2<=room))
theorem Yz(l:List Bool):Ox (.list (l.map PyData.bool))=.ok (.bool (l.any id)):=by
 show(match tO (l.map PyData.bool) with
  |some bs=>Out.ok (PyData.bool (bs.any id))
  |none=>.bad)=_
 rw[Dq]
theorem abw(M:Mo)(R:List Rw)(room:Int)(hR:tV R)(hl:R.length<=50000)(mk:List Int)(x:Int)(e:List Int)(he:e.length=6) :
  jO M [some (.dat (aH mk)),some (.dat (.int x)),some (.dat (.list (R.map Ear.rD))),some (.dat (.int room)),some (.dat (aH e)),none,none]=if Bh R room e then .ret (aH e) M else .next [some (.dat (aH mk)),some (.dat (.int x)),some (.dat (.list (R.map Ear.rD))),some (.dat (.int room)),some (.dat (aH e)),none,none] M:=by
 have key:=eU (tg:=bA [5,6]) (te:=aV qL (ak (aq 4) (ak (aq 6) (ak (aq 3) au)))) (M:=M) (Z:=[some (.dat (aH mk)),some (.dat (.int x)),some (.dat (.list (R.map Ear.rD))),some (.dat (.int room)),some (.dat (aH e)),none,none]) Ear.rD (λr=>.bool (decide (j6 e r.2<=room))) R λr hr=>⟨[some (.dat (aH mk)),some (.dat (.int x)),some (.dat (.list (R.map Ear.rD))),some (.dat (.int room)),some (.dat (aH e)),some (.dat (.int r.1)),some (.dat (aH r.2))],by simp[Ear.rD,Ear.dT],by
  have:=RB M e r.2 room (by omega) (by rw[hR r hr];decide);simp[this]⟩
 have ha:=Yz (R.map λr=>decide (j6 e r.2<=room));rw[aqJ]at ha;simp only[aqz,arf]at ha;cases hf:Bh R room e<;>simp[jO,key,hl,ha]<;>simp[Bh]at hf<;>simpa using hf
theorem Q8(M:Mo)(R:List Rw)(room:Int)(hR:tV R)(hl:R.length<=50000)(mk:List Int)(x:Int):∀(es:List (List Int)) (o:Option Cell),(∀e∈es,e.length=6)->
  match es.find? (Bh R room) with
   |some e=>fB (aF 4) jO (es.map aH) M [some (.dat (aH mk)),some (.dat (.int x)),some (.dat (.list (R.map Ear.rD))),some (.dat (.int room)),o,none,none]=.ret (aH e) M
   |none=>∃Z',fB (aF 4) jO (es.map aH) M [some (.dat (aH mk)),some (.dat (.int x)),some (.dat (.list (R.map Ear.rD))),some (.dat (.int room)),o,none,none]=.next Z' M
 |[],o,_=>⟨_,rfl⟩
 |e::es,o,he=>by
  have h1:=abw M R room hR hl mk x e (he e aqj);have ih:=Q8 M R room hR hl mk x es (some (.dat (aH e))) λy hy=>he y (aqk _ hy);rw[List.find?_cons];cases hf:Bh R room e with
  |true=>
   rw[hf,if_pos rfl]at h1;show fB _ _ _ _ _=_;rw[aqh,fB];simp[h1]
  |false=>
   rw[hf,if_neg (by decide)]at h1;have e1:fB (aF 4) jO ((e::es).map aH) M [some (.dat (aH mk)),some (.dat (.int x)),some (.dat (.list (R.map Ear.rD))),some (.dat (.int room)),o,none,none]=fB (aF 4) jO (es.map aH) M [some (.dat (aH mk)),some (.dat (.int x)),some (.dat (.list (R.map Ear.rD))),some (.dat (.int room)),some (.dat (aH e)),none,none]:=by rw[aqh,gR (by simp) h1]
   rw[e1];exact ih
theorem Wb(M:Mo)(mark:List Int)(extra:Int)(R:List Rw)(room:Int)(he:cU mark=true)(hm:0<=extra/\extra<=3)(hR:tV R)(hl:R.length<=50000):pG M [aH mark,.int extra,.list (R.map Ear.rD),.int room]=match (O6 mark extra).find? (Bh R room) with
  |some e=>.ok (aH e)
  |none=>.exc ⟨"NoneFree",[]⟩:=by
 have h1:=XF M mark extra he hm;have h2:=Q8 M R room hR hl mark extra (O6 mark extra) none λe h=>by
  have:=Uz he hm (aqA.mp h).1;unfold cU at this;rw[aqf,ars]at this;exact this.1
 cases hf:(O6 mark extra).find? (Bh R room) with
 |some e=>
  rw[hf]at h2;simp[pG,wN,h1,h2]
 |none=>
  rw[hf]at h2;obtain⟨Z',h2⟩:=h2;simp[pG,wN,h1,h2]
@[simp]theorem amc (L:Lay) (c:aM):(aP L c).cls="Commons":=rfl
theorem any_keys(y:Int)(l:List Int):((l.map λo=>(PyData.int o,PyData.bool true)).any λp=>PyData.eqv p.1 (.int y))=decide (y∈l):=by have:=any_ints y l;rw[arf]at this ⊢;exact this
section
variable{M:Mo}{L:Lay}{c:aM}(a:At M L c)
include a
theorem kZ(o:Int):jm M [ob L.c,.int o]=if o∈c.own then .ok .none else .exc ⟨"NoOwner",[]⟩:=by
 have hc:=a.hc;have hk:=any_keys o c.own;simp only[arf,aqz]at hk;by_cases h:o∈c.own
 ·rw[decide_eq_true h]at hk;rw[if_pos h];simp[jm,lF,hc,aP,aqz,hk];rw[if_neg (λz=>z o h rfl)]
 ·rw[decide_eq_false h]at hk;rw[if_neg h];simp[jm,lF,hc,aP,aqz,hk];have hz:∀x:Int,x∈c.own->¬x=o:=λx hx e=>h (e ▸ hx);rw[if_pos hz]
theorem zF(i:dh c)(x:Int):pF M [ob L.c,.int x]=if Vg c x then .ok (.int (roomOf c x)) else .exc ⟨"NoGround",[]⟩:=by
 have hc:=a.hc;obtain⟨n,m,hg⟩:=a.hg;have h1:=ag7 a i x;by_cases h:Vg c x
 ·rw[if_pos h]at h1 ⊢;simp[pF,uD,hc,aP,hg,dB,rG,h1]
 ·rw[if_neg h]at h1 ⊢;simp[pF,uD,hc,aP,hg,dB,rG,h1]
theorem Ah(i:dh c)(x:Int):kh M [ob L.c,.int x]=if Vg c x then .ok (lI (bf c x)) else .exc ⟨"NoGround",[]⟩:=by
 have hc:=a.hc;obtain⟨n,m,hg⟩:=a.hg;have h1:=uV a i x;by_cases h:Vg c x
 ·rw[if_pos h]at h1 ⊢;simp[kh,nO,hc,aP,hg,dB,bF,h1]
 ·rw[if_neg h]at h1 ⊢;simp[kh,nO,hc,aP,hg,dB,bF,h1]
theorem acn:qp M [ob L.c]=.ok (lI c.own):=by have hc:=a.hc;simp[qp,vA,hc,aP,aqz]
theorem qH(few:c.held.length<=50000)(o g:Int):lG M [ob L.c,.int o,.int g]=if bO c o g=[] then .exc ⟨"NoRight",[]⟩ else .ok .none:=by have hc:=a.hc;have hr:=a.hr;have h1:=X3 a few o g;by_cases h:bO c o g=[]<;>simp[lG,pX,hc,aP,hr,mO,qT,h1,h]
theorem Aq(few:c.held.length<=50000)(o g:Int){mk:List Int}{r:List (List Int)}(h:bO c o g=mk::r):lH M [ob L.c,.int o,.int g]=.ok (aH mk):=by have hc:=a.hc;have hr:=a.hr;have h1:=Hl a few o g;rw[h]at h1;simp[lH,pW,hc,aP,hr,mO,cJ,h1]
end
def inR(c:aM)(near:List Int):List Rw:=(c.held.filter λr=>decide (r.2.1∈near)).map λr=>(r.1,r.2.2)
def Xw(lo:Int)(x:Nat×Nat×dH):Bool:=x.2.2.sd.due.isSome&&!(((x.1:Int)+1)==lo)
def OJ(L:Lay)(c:aM)(lo:Int)(near:List Int):List Rw:=(((bZ L c).filter λx=>decide (x.2.2.sd.g∈near)&&x.2.2.sd.al).filter (Xw lo)).map λx=>(x.2.2.sd.o,x.2.2.sd.due.getD [])
def fH(L:Lay)(c:aM)(lo x:Int):List Rw:=inR c (bf c x)++OJ L c lo (bf c x)
section
variable{M:Mo}{L:Lay}{c:aM}(a:At M L c)
include a
theorem Dy(i:dh c)(few:c.held.length<=20000)(fewb:c.bs.length<=20000)(lo x:Int)(h76:(fH L c lo x).eraseDups.length<=76):iD M [ob L.c,.int lo,.int x]=if Vg c x then .ok (.list ((bG (fH L c lo x)).map Ear.rD)) else .exc ⟨"NoGround",[]⟩:=by
 have hc:=a.hc;have hr:=a.hr;obtain⟨n,hh⟩:=a.hh;have h1:=Ah a i x;by_cases h:Vg c x
 ·rw[if_pos h]at h1 ⊢;have h2:=Q9 a (by omega:c.bs.length<=50000) (bf c x);have h3:=V4 a (by omega:c.held.length<=50000) (bf c x);have h4:=K6 M (fH L c lo x) h76;have hl:((bZ L c).filter λy=>decide (y.2.2.sd.g∈bf c x)&&y.2.2.sd.al).length<=20000:=aqE (aqv _ _) (by rw[a.len'];exact fewb);have hl2:((bZ L c).filter λy=>decide (y.2.2.sd.g∈bf c x)&&y.2.2.sd.al).length<=50000:=by omega
  have key:=gq (tg:=bA [5,6]) (tt:=jF (aY (xX true .none (bL "due" (ao 6)))) (aY (aA vZ (ao 5) (ao 1)))) (te:=bK (ak (gD "owner" (ao 6)) (ak (gD "due" (ao 6)) au))) (M:=M) (Z:=[some (.dat (ob L.c)),some (.dat (.int lo)),some (.dat (.int x)),some (.dat (lI (bf c x))),none,none,none]) nb (Xw lo) (λy=>Ear.rD (y.2.2.sd.o,y.2.2.sd.due.getD [])) ((bZ L c).filter λy=>decide (y.2.2.sd.g∈bf c x)&&y.2.2.sd.al) λy hy=>⟨[some (.dat (ob L.c)),some (.dat (.int lo)),some (.dat (.int x)),some (.dat (lI (bf c x))),none,some (.dat (.int ((y.1:Int)+1))),some (.dat (ob y.2.1))],by simp[nb],by
   obtain⟨n',hb⟩:=a.hb' (aqA.mp hy).1;cases hd:y.2.2.sd.due<;>simp[hb,iB,hd,pY,Xw,mU],λhp=>by
   obtain⟨n',hb⟩:=a.hb' (aqA.mp hy).1;cases hd:y.2.2.sd.due with
   |none=>simp[Xw,hd]at hp
   |some e=>simp[hb,iB,hd,pY,Ear.rD,Ear.dT]⟩
  have e1:(c.held.filter λr=>decide (r.2.1∈bf c x)).map (λr=>Ear.rD (r.1,r.2.2))=(inR c (bf c x)).map Ear.rD:=by unfold inR;rw[aqJ];rfl
  have e2:(((bZ L c).filter λy=>decide (y.2.2.sd.g∈bf c x)&&y.2.2.sd.al).filter (Xw lo)).map (λy=>Ear.rD (y.2.2.sd.o,y.2.2.sd.due.getD []))=(OJ L c lo (bf c x)).map Ear.rD:=by unfold OJ;rw[aqJ];rfl
  rw[e1]at h3;rw[e2]at key;have z1:(inR c (bf c x)).length<=20000:=by unfold inR;rw[aqo];exact aqE (aqv _ _) few
  have z2:(OJ L c lo (bf c x)).length<=20000:=by unfold OJ;rw[aqo];exact aqE (aqv _ _) hl
  have z3:(inR c (bf c x)).length+(OJ L c lo (bf c x)).length<=100000:=by omega
  unfold fH at h4 ⊢;rw[List.map_append]at h4;simp[iD,jR,hc,aP,bT,h1,hh,dI,jr,h2,hr,mO,qj,h3];simp[key,hl2,z3,h4,hc,aP,hr,mO,h3]
 ·rw[if_neg h]at h1 ⊢;simp[iD,jR,hc,aP,bT,h1]
end
def jx(b:dH):Dat:=.tuple [.int b.sd.o,.int b.sd.g,pY b.sd.due,aH b.sd.ear,.bool b.sd.al,.int b.mo,.tuple (b.fi.dat::b.en.map En.dat)]
theorem agM{M:Mo}{h n:Nat}{b:dH}(hb:M[h]?=some (iB n b)):wX M [ob h]=.ok (jx b):=by have h1:=Y7 hb;simp[wX,CN,hb,lN,h1];simp[iB,Sd.dat,jx]
def grD(c:aM)(k:Nat):Dat:=.tuple [.int (Ie c ((k:Int)+1)),aH (bf c ((k:Int)+1))]
def iI(c:aM):Dat:=.tuple [lI c.own,.list ((List.range c.al.length).map (grD c)),.list (c.held.map gY),.list (c.bs.map jx)]
section
variable{M:Mo}{L:Lay}{c:aM}(a:At M L c)
include a
theorem agx(i:dh c)(few:c.held.length<=20000)(fewb:c.bs.length<=20000):pB M [ob L.c]=.ok (iI c):=by
 have hc:=a.hc;have hr:=a.hr;obtain⟨n,m,hg⟩:=a.hg;obtain⟨n1,hh⟩:=a.hh;have h1:=aas a;have h2:=acn a;have h3:=ZD a (by omega:c.held.length<=50000);have hf:=i.few;have k1:=eU (tg:=aF 3) (te:=bK (ak (aR dX (bL "grounds" (ao 0)) (ak (aq 3) au)) (ak (eO lA (aR bT (ao 0) (ak (aq 3) au))) au))) (M:=M) (Z:=[some (.dat (ob L.c)),none,none,none,none]) (λ(k:Nat)=>PyData.int (1+(k:Int))) (grD c) (List.range c.al.length) λk hk=>⟨[some (.dat (ob L.c)),none,none,some (.dat (.int ((k:Int)+1))),none],by simp[Int.add_comm],by
  rw[List.mem_range]at hk;have hv:Vg c ((k:Int)+1):=by constructor<;>omega
  have g1:=JQ a ((k:Int)+1);have g2:=Ah a i ((k:Int)+1);rw[if_pos hv]at g1 g2;simp[hc,aP,hg,dB,dX,bT,g1,g2,grD]⟩
 have hl:=a.len';have k2:=λ(o1:Option Cell)=>eU (tg:=aF 4) (te:=aR u5 (ao 4) au) (M:=M) (Z:=[some (.dat (ob L.c)),o1,none,none,none]) (λ(x:Nat×Nat×dH)=>ob x.2.1) (λx=>jx x.2.2) (bZ L c) λx hx=>⟨[some (.dat (ob L.c)),o1,none,none,some (.dat (ob x.2.1))],by simp,by
  obtain⟨n',hb⟩:=a.hb' hx;have:=agM hb;simp[hb,u5,this]⟩
 have e1:(bZ L c).map (λx=>ob x.2.1)=L.bs.map ob:=by
  unfold bZ;apply aqH;intro j;simp only[aqs,aqV];by_cases hj:j < L.bs.length
  ·have hz:(L.bs.zip c.bs)[j]?=some (L.bs[j],c.bs[j]'(by rw[←a.len];exact hj)):=by
    rw[aq3];exact⟨aqi hj,aqi _⟩
   rw[hz,aqi hj];rfl
  ·rw[aqK (by omega:L.bs.length<=j),aqK (by rw[List.length_zip];omega)];rfl
 have e2:(bZ L c).map (λx=>jx x.2.2)=c.bs.map jx:=by
  unfold bZ;apply aqH;intro j;simp only[aqs,aqV];by_cases hj:j < c.bs.length
  ·have hz:(L.bs.zip c.bs)[j]?=some (L.bs[j]'(by rw[a.len];exact hj),c.bs[j]):=by
    rw[aq3];exact⟨aqi _,aqi hj⟩
   rw[hz,aqi hj];rfl
  ·rw[aqK (by omega:c.bs.length<=j),aqK (by rw[List.length_zip];omega)];rfl
 simp only[e1,e2]at k2;have r1:pH 1 c.al.length=(List.range c.al.length).map λ(k:Nat)=>PyData.int (1+(k:Int)):=rfl;have z1:(c.al.length:Int)+1<=100000:=by omega
 have z2 : -100000<=(c.al.length:Int)+1:=by omega
 have z3:c.al.length<=50000:=by omega
 have z4:L.bs.length<=50000:=by rw[a.len];omega
 simp[pB,yx,hc,aP,hg,dB,eX,h1,z1,z2,r1,k1,z3];simp[hc,aP,hh,dI,hr,mO,k2,z4,uK,sH,h2,h3,iI]
end
section
variable{M:Mo}{L:Lay}{c:aM}(a:At M L c)
include a
theorem zp(i:dh c)(few:c.held.length<=20000)(fewb:c.bs.length<=20000)(x:Int)(h76:(fH L c 0 x).eraseDups.length<=76):j9 M [ob L.c,.int x]=if Vg c x then .ok (.list ((bG (fH L c 0 x)).map Ear.rD)) else .exc ⟨"NoGround",[]⟩:=by
 have hc:=a.hc;have h1:=Dy a i few fewb 0 x h76;by_cases h:Vg c x
 ·rw[if_pos h]at h1 ⊢;simp[j9,nJ,hc,cZ,h1]
 ·rw[if_neg h]at h1 ⊢;simp[j9,nJ,hc,cZ,h1]
def akq(o:Int)(e:List Int)(R:List Rw)(room:Int):Out Dat:=match vN o e R room with
 |[]=>.ok .none
 |r::_=>.exc ⟨"Clash",[("ear",aH (bW e r.2)),("others",Ear.rD r),("ones",Ear.rD (o,e))]⟩
omit a in
theorem aem{T:List Rw}(h:Ear.Gk T):T.Nodup:=by
 unfold Ear.Gk at h;unfold List.Nodup;exact h.imp λ{x y} z e=>by
  subst e;exact List.lt_irrefl _ z
theorem JW(ho:∀o∈c.own,o<=c.count)(few:c.own.length<=20000):∃M',ig M [ob L.c]=.ok (.int (c.count+1)) M'/\At M' L { c with count:=c.count+1,own:=c.own++[c.count+1] }:=by
 have hc:=a.hc;have hl:∀i,(M.set L.c i)[L.c]?=some i:=λi=>by rw[bH hc,if_pos rfl]
 have hk:=any_keys (c.count+1) c.own;have hn:¬(c.count+1)∈c.own:=λz=>by have:=ho _ z;omega
 rw[decide_eq_false hn]at hk;have hz:∀x∈c.own,¬x=c.count+1:=λx hx e=>hn (e ▸ hx);have f2:c.own.length < 100000:=by omega
 refine⟨_,?_,a.setC⟩;simp only[arf,aqz]at hk;have hd:(c.own.any λx=>x==c.count+1)=false:=by rw[List.any_eq_false];intro x hx;simpa using hz x hx
 simp[ig,rF,hc,aP,hl,jQ,f2,aqz,hd]
end
theorem YF{α:Type}[BEq α][LawfulBEq α](l:List α):l.eraseDups.length<=l.length:=by
 induction hn:l.length using Nat.strongRecOn generalizing l with
 |_ n ih=>
  cases l with
  |nil=>simp
  |cons a r=>
   rw[List.eraseDups_cons];simp only[aqu]at hn ⊢;have hl:(r.filter λb=>!b==a).length<=r.length:=aqv _ _;have:=ih _ (by omega) (r.filter λb=>!b==a) rfl;omega
theorem YZ{S:List Rw}(h:S.eraseDups.length<=76):(bG S).eraseDups.length<=76:=aqE (YF _) (by rw[pO];exact h)
theorem zR{S:List Rw}(h:tV S):tV (bG S):=λr hr=>h r (dW.mp hr)
section
variable{M:Mo}{L:Lay}{c:aM}(a:At M L c)
include a
theorem Wg(i:dh c)(few:c.held.length<=20000)(fewb:c.bs.length<=20000)(o x:Int)(e:List Int)(he:e.length=6)(hv:Vg c x)(h76:(fH L c 0 x).eraseDups.length<=76)(hE:tV (fH L c 0 x)):gJ M [ob L.c,.int o,aH e,.int x]=akq o e (bG (fH L c 0 x)) (roomOf c x):=by
 have hc:=a.hc;have h1:=zp a i few fewb x h76;have h2:=zF a i x;rw[if_pos hv]at h1 h2;have h3:=MN M o e (bG (fH L c 0 x)) (roomOf c x) he (zR hE) (YZ h76);unfold akq;cases hb:vN o e (bG (fH L c 0 x)) (roomOf c x) with
 |nil=>
  rw[hb]at h3;simp[gJ,lJ,hc,cH,cC,h1,h2,h3]
 |cons r rs=>
  rw[hb]at h3;simp[gJ,lJ,hc,cH,cC,h1,h2,h3]
end
section
variable{M:Mo}{L:Lay}{c:aM}(a:At M L c)
include a
def Ho(L:Lay)(c:aM)(x y:Int):List Rw:=bG (fH L c 0 x)++bG (fH L c 0 y)
def lW(c:aM)(x y:Int):Int:=if roomOf c y > roomOf c x then roomOf c y else roomOf c x
theorem ZJ(i:dh c)(few:c.held.length<=20000)(fewb:c.bs.length<=20000)(x y:Int)(hx:Vg c x)(hy:Vg c y)(h1:(fH L c 0 x).eraseDups.length<=76)(h2:(fH L c 0 y).eraseDups.length<=76)(h3:(Ho L c x y).eraseDups.length<=76)(e1:tV (fH L c 0 x))(e2:tV (fH L c 0 y)):jZ M [ob L.c,.int x,.int y]=.ok (.list ((jN (bG (Ho L c x y)) (lW c x y)).map pairD)):=by
 have hc:=a.hc;have s1:=zp a i few fewb x h1;have s2:=zp a i few fewb y h2;have r1:=zF a i x;have r2:=zF a i y;rw[if_pos hx]at s1 r1;rw[if_pos hy]at s2 r2;have hE:tV (Ho L c x y):=λr hr=>by
  rcases aqq.mp hr with hr|hr
  ·exact zR e1 r hr
  ·exact zR e2 r hr
 have k:=Zv M (Ho L c x y) (lW c x y) hE h3;have l1:(bG (fH L c 0 x)).length<=76:=by rw[pO];exact h1
 have l2:(bG (fH L c 0 y)).length<=76:=by rw[pO];exact h2
 have l3:(bG (fH L c 0 x)).length+(bG (fH L c 0 y)).length<=100000:=by omega
 have k':uw M [.list ((bG (fH L c 0 x)).map Ear.rD++(bG (fH L c 0 y)).map Ear.rD),.int (if roomOf c y > roomOf c x then roomOf c y else roomOf c x)]=.ok (.list ((jN (bG (Ho L c x y)) (lW c x y)).map pairD)):=by rw[←List.map_append];exact k
 simp[jZ,sJ,hc,cH,cC,s1,s2,r1,r2,l3];simp at k';exact k' ▸ (by simp[k'])
end
def Cu(c:aM)(lo:Int)(near:List Int):List Rw:=((c.bs.mapIdx λi b=>(i,b)).filter λx=>(x.2.sd.due.isSome&&!(((x.1:Int)+1)==lo))&&(decide (x.2.sd.g∈near)&&x.2.sd.al)).map λx=>(x.2.sd.o,x.2.sd.due.getD [])
def cA(c:aM)(lo x:Int):List Rw:=inR c (bf c x)++Cu c lo (bf c x)
theorem Jx{M:Mo}{L:Lay}{c:aM}(a:At M L c):(bZ L c).map (λx=>(x.1,x.2.2))=c.bs.mapIdx λi b=>(i,b):=by
 unfold bZ;apply aqH;intro j;simp only[aqs,aqV];by_cases hj:j < c.bs.length
 ·have hz:(L.bs.zip c.bs)[j]?=some (L.bs[j]'(by rw[a.len];exact hj),c.bs[j]):=by
   rw[aq3];exact⟨aqi _,aqi hj⟩
  rw[hz,aqi hj];rfl
 ·rw[aqK (by omega:c.bs.length<=j),aqK (by rw[List.length_zip];omega)];rfl
theorem jL{M:Mo}{L:Lay}{c:aM}(a:At M L c)(lo x:Int):fH L c lo x=cA c lo x:=by unfold fH cA OJ Cu;rw[←Jx a,List.filter_map,aqJ,ard];rfl
inductive aZ where
 |owner|ground (x:Int)|enrol (o g:Int) (m:List Int)|leave (o g:Int)|bring (o g:Int) (e:List Int)|bear (k:Int)|cut (k:Int)|tear (k p:Int)|sell (k o:Int)|move (k g:Int)|die (k:Int)|oO (x y:Int)|part (x:Int)|pass (e h:Int)|heir (e g x:Int)
def aZ.dat:aZ->Dat
 |.owner=>.tuple [.str "owner"]
 |.ground x=>.tuple [.str "ground",.int x]
 |.enrol o g m=>.tuple [.str "enrol",.int o,.int g,aH m]
 |.leave o g=>.tuple [.str "leave",.int o,.int g]
 |.bring o g m=>.tuple [.str "bring",.int o,.int g,aH m]
 |.bear k=>.tuple [.str "bear",.int k]
 |.cut k=>.tuple [.str "cut",.int k]
 |.tear k p=>.tuple [.str "tear",.int k,.int p]
 |.sell k o=>.tuple [.str "sell",.int k,.int o]
 |.move k g=>.tuple [.str "move",.int k,.int g]
 |.die k=>.tuple [.str "die",.int k]
 |.oO x y=>.tuple [.str "unite",.int x,.int y]
 |.part x=>.tuple [.str "part",.int x]
 |.pass e h=>.tuple [.str "pass",.int e,.int h]
 |.heir e g x=>.tuple [.str "heir",.int e,.int g,.int x]
inductive Res where
 |ok (d:Dat) (c:aM)|no (x:cY)
def lY(o:Int)(e:List Int)(r:Rw):cY:=⟨"Clash",[("ear",aH (bW e r.2)),("others",Ear.rD r),("ones",Ear.rD (o,e))]⟩
def firstM(c:aM)(o g:Int):List Int:=(bO c o g).headD []
def wC(o:Int)(e:List Int)(R:List Rw)(room:Int)(r:Res):Res:=match vN o e (bG R) room with
 |[]=>r
 |x::_=>.no (lY o e x)
def u6(c:aM)(x y:Int):List Rw:=bG (cA c 0 x)++bG (cA c 0 y)
def rJ(c:aM)(x:Int):List Int:=(bf c x).filter λy=>!(y==x)
def QX(c:aM)(e:Int):List Int:=((c.bs.mapIdx λi b=>(i,b)).filter λx=>(x.2.sd.o==e)&&x.2.sd.al).map λx=>(x.1:Int)+1
def Wz(o g:Int)(b:dH):Bool:=(decide (b.sd.g∈[g])&&b.sd.al)&&(b.sd.o==o)
def sE(c:aM)(k:Int)(f:dH->Res):Res:=match bk c k with
 |none=>.no ⟨"NoBeast",[]⟩
 |some b=>if b.sd.al=true then f b else .no ⟨"Dead",[]⟩
def markB(c:aM)(k:Int)(f:dH->List Int->Res):Res:=sE c k λb=>match b.sd.due with
 |none=>.no ⟨"Unmarked",[]⟩
 |some e=>f b e
def Bx(c:aM)(k o g:Int):aM:=oN (λx=>yW k x&&x.sd.al) (.followed o g) c
def qY(c:aM)(o:Int)(r:Res):Res:=if o∈c.own then r else .no ⟨"NoOwner",[]⟩
def vX(c:aM)(g:Int)(r:Res):Res:=if Vg c g then r else .no ⟨"NoGround",[]⟩
def HS(e:List Int)(r:Res):Res:=if cU e=true then r else .no ⟨"BadEar",[]⟩
def mj(c:aM)(o g:Int)(r:Res):Res:=if bO c o g=[] then .no ⟨"NoRight",[]⟩ else r
def dw(c:aM):aZ->Res
 |.owner=>.ok (.int (c.count+1)) { c with count:=c.count+1,own:=c.own++[c.count+1] }
 |.ground x=>if 0<=x/\x<=9 then .ok (.int (c.al.length+1)) { c with al:=c.al++[x],ci:=c.ci++[[(c.al.length:Int)+1]] } else .no ⟨"BadAllowance",[]⟩
 |.enrol o g m=>qY c o<|vX c g<|HS m<|if m=[0,0,0,0,0,0] then .no ⟨"Bare",[]⟩ else if m∈bO c o g then .no ⟨"HasRight",[]⟩ else wC o m (cA c 0 g) (roomOf c g) (.ok .none { c with held:=c.held++[(o,g,m)] })
 |.leave o g=>qY c o<|vX c g<|mj c o g<|if c.bs.any (Wz o g)=true then .no ⟨"StillThere",[]⟩ else .ok (.list ((bO c o g).map aH)) { c with held:=dropped c o g }
 |.bring o g e=>qY c o<|vX c g<|HS e<|mj c o g<|.ok (.int (c.bs.length+1)) { c with bs:=c.bs++[Eh (.brought o g e)] }
 |.bear k=>markB c k λb _=>.ok (.int (c.bs.length+1)) { c with bs:=c.bs++[Eh (.born k b.sd.o b.sd.g)] }
 | .cut k=>sE c k λb=>wC b.sd.o (bW b.sd.ear (firstM c b.sd.o b.sd.g)) (cA c 0 b.sd.g) (roomOf c b.sd.g) (.ok (aH (bW b.sd.ear (firstM c b.sd.o b.sd.g))) (gH c (k - 1).toNat (.cut (bW b.sd.ear (firstM c b.sd.o b.sd.g)))))
 |.tear k p=>sE c k λb=>if 0<=p/\p < 6 then(if 9<=b.sd.ear.getD p.toNat 0 then .no ⟨"Deepest",[]⟩ else .ok (aH (xK b.sd.ear p.toNat)) (gH c (k - 1).toNat (.torn p.toNat))) else .no ⟨"NoPlace",[]⟩
 |.sell k o=>markB c k λb _=>qY c o<|if b.sd.o=o then .no ⟨"SameOwner",[]⟩ else mj c o b.sd.g<|wC o (bW b.sd.ear (firstM c o b.sd.g)) (cA c k b.sd.g) (roomOf c b.sd.g) (.ok (aH (bW b.sd.ear (firstM c o b.sd.g))) (Bx (gH c (k - 1).toNat (.sold o (bW b.sd.ear (firstM c o b.sd.g)))) k o b.sd.g))
 |.move k g=>markB c k λb e=>vX c g<|if b.sd.g=g then .no ⟨"SameGround",[]⟩ else mj c b.sd.o g<|wC b.sd.o e (cA c 0 g) (roomOf c g) (.ok (.int b.sd.g) (Bx (gH c (k - 1).toNat (.moved g)) k b.sd.o g))
 |.die k=>sE c k λ_=>.ok .none (gH c (k - 1).toNat .died)
 |.oO x y=>vX c y<|vX c x<|if y∈bf c x then .no ⟨"Together",[]⟩ else match jN (bG (u6 c x y)) (lW c x y) with
  |p::_=>.no (lY p.1.1 p.1.2 p.2)
  |[]=>.ok (lI (sortI (bf c x++bf c y))) { c with ci:=encl c.ci (sortI (bf c x++bf c y)) }
 |.part x=>vX c x<|if rJ c x=[] then .no ⟨"Alone",[]⟩ else .ok (lI (rJ c x)) { c with ci:=encl (encl c.ci [x]) (rJ c x) }
 |.pass e h=>qY c e<|qY c h<|if e=h then .no ⟨"SameOwner",[]⟩ else .ok (lI (QX c e)) { oN (λb=>(b.sd.o==e)&&b.sd.al) (.passed h) c with own:=c.own.filter (λo=>!(o==e)),held:=handed c e h }
 | .heir e g x=>qY c e<|vX c g<|if 1<=x/\x<=3 then mj c e g (match (O6 (firstM c e g) x).find? (Bh (bG (cA c 0 g)) (roomOf c g)) with
  |some mk=>.ok (.tuple [.int (c.count+1),aH mk]) { c with count:=c.count+1,own:=c.own++[c.count+1],held:=c.held++[(c.count+1,g,mk)] }
  |none=>.no ⟨"NoneFree",[]⟩) else .no ⟨"BadExtra",[]⟩
structure Inv(n s:Nat)(c:aM):Prop where
 gr:dh c
 al:c.al.length<=n
 cnt:0<=c.count/\c.count<=n
 own:∀o∈c.own,1<=o/\o<=c.count
 Om:c.own.Nodup
 ownL:c.own.length<=n
 held:c.held.Nodup
 hL:c.held.length+c.bs.length<=s
 hE:∀r∈c.held,r.1∈c.own/\Vg c r.2.1/\cU r.2.2=true
 ear:∀b∈c.bs,cU b.sd.ear=true
 due:∀b∈c.bs,∀e,b.sd.due=some e->cU e=true
 en:∀b∈c.bs,b.en.length<=2 * n
 rt:∀b∈c.bs,b.sd.al=true->∃m,(b.sd.o,b.sd.g,m)∈c.held
theorem fu{x:List Int}(h:cU x=true):x.length=6:=by unfold cU at h;simp at h;exact h.1
theorem Cv{α:Type}[BEq α][LawfulBEq α]:∀{l S:List α},l.Nodup->(∀x∈l,x∈S)->l.length<=S.length
 |[],_,_,_=>by simp
 |x::l,S,nd,h=>by
  rw[ark]at nd;have hx:=h x aqj;have:=Cv (l:=l) (S:=S.erase x) nd.2 λy hy=>by
   have:y≠x:=λz=>nd.1 (z ▸ hy);exact(List.mem_erase_of_ne this).mpr (h y (aqk _ hy))
  rw[List.length_erase_of_mem hx]at this;have:=List.length_pos_of_mem hx;rw[aqu];omega
def Lh(c:aM):List Rw:=c.held.map (λr=>(r.1,r.2.2))++c.bs.map λb=>(b.sd.o,b.sd.due.getD [])
theorem RJ{c:aM}{near:List Int}{r:Rw}(h:r∈inR c near):∃g,(r.1,g,r.2)∈c.held/\g∈near:=by unfold inR at h;obtain⟨x,h1,rfl⟩:=aqp.mp h;obtain⟨h2,h3⟩:=aqA.mp h1;exact⟨x.2.1,h2,by simpa using h3⟩
theorem Ow{c:aM}{lo:Int}{near:List Int}{r:Rw}(h:r∈Cu c lo near):∃(i:Nat) (b:dH),c.bs[i]?=some b/\b.sd.o=r.1/\b.sd.due=some r.2/\b.sd.al=true/\b.sd.g∈near/\(i:Int)+1≠lo:=by
 unfold Cu at h;obtain⟨x,h1,rfl⟩:=aqp.mp h;obtain⟨h2,h3⟩:=aqA.mp h1;obtain⟨i,hi,rfl⟩:=List.mem_mapIdx.mp h2;simp only[aqf,ars,aqx,beq_eq_false_iff_ne]at h3;obtain⟨⟨h4,h5⟩,h6,h7⟩:=h3;refine⟨i,c.bs[i],aqi hi,rfl,?_,h7,h6,h5⟩;cases hd:c.bs[i].sd.due with
 |none=>simp[hd]at h4
 |some e=>rfl
theorem nY{c:aM}{lo x:Int}{r:Rw}(h:r∈cA c lo x):r∈Lh c:=by
 unfold Lh;rcases aqq.mp h with h|h
 ·obtain⟨g,h1,_⟩:=RJ h;exact aqP _ (aqp.mpr ⟨_,h1,rfl⟩)
 ·obtain⟨i,b,h1,h2,h3,_⟩:=Ow h;refine aqZ _ (aqp.mpr ⟨b,aqm h1,?_⟩);rw[h2,h3];rfl
section
variable{n s:Nat}{c:aM}(I:Inv n s c)
include I
theorem Inv.few{R:List Rw}(h:∀r∈R,r∈Lh c):R.eraseDups.length<=s:=by
 have h1:=Cv (l:=bG R) (S:=Lh c) (aem (Nb R)) λr hr=>h r (dW.mp hr);rw[pO]at h1;have:(Lh c).length=c.held.length+c.bs.length:=by simp[Lh]
 have:=I.hL;omega
theorem Inv.O2{lo x:Int}:tV (cA c lo x):=λr hr=>by
 rcases aqq.mp hr with h|h
 ·obtain⟨g,h1,_⟩:=RJ h;exact fu (I.hE _ h1).2.2
 ·obtain⟨i,b,h1,h2,h3,_⟩:=Ow h;exact fu (I.due b (aqm h1) _ h3)
theorem Inv.bi:KH (2 * n) c:=⟨λb hb=>fu (I.ear b hb),I.en⟩
theorem Inv.mk1{o g:Int}(h:bO c o g≠[]):∃r,bO c o g=firstM c o g::r/\cU (firstM c o g)=true:=by
 cases hm:bO c o g with
 |nil=>exact absurd hm h
 |cons m r=>
  refine⟨r,by simp[firstM,hm],?_⟩;have:m∈bO c o g:=by rw[hm];exact aqj
  unfold bO at this;obtain⟨x,h1,rfl⟩:=aqp.mp this;have e:firstM c o g=x.2.2:=by simp[firstM,hm]
  rw[e];exact(I.hE x (aqA.mp h1).1).2.2
end
theorem zW{c:aM}{o g:Int}{m:List Int}:m∈bO c o g↔(o,g,m)∈c.held:=by
 unfold bO;rw[aqp];constructor
 ·rintro⟨⟨x,y,z⟩,h,rfl⟩;obtain⟨h1,h2⟩:=aqA.mp h;simp at h2;obtain⟨rfl,rfl⟩:=h2;exact h1
 ·intro h;exact⟨_,aqA.mpr ⟨h,by simp⟩,rfl⟩
theorem yG{c:aM}{o g:Int}:bO c o g≠[]↔∃m,(o,g,m)∈c.held:=by
 constructor
 ·intro h;obtain⟨m,hm⟩:=List.exists_mem_of_ne_nil _ h;exact⟨m,zW.mp hm⟩
 ·rintro⟨m,hm⟩ z;have:=zW.mpr hm;rw[z]at this;cases this
theorem tH{x y:List Int}(hx:cU x=true)(hy:cU y=true):cU (bW x y)=true:=by
 have lx:=fu hx;have ly:=fu hy;unfold cU at *;simp only[aqf,ars,aqB]at *;refine⟨by simp[bW];omega,λd hd=>?_⟩;unfold bW at hd;obtain⟨p,hp,rfl⟩:=aqp.mp hd;have h1:=hx.2 p.1 (List.of_mem_zip hp).1;have h2:=hy.2 p.2 (List.of_mem_zip hp).2
 split<;>omega
theorem Br(n:Nat)(x:List Int):okd (n+1) (aH x)=true:=by show okd (n+1) (.tuple (x.map PyData.int))=true;rw[okd];exact Uu n x
theorem af8(x y:List Int):bR (aH x) (aH y)=.ok (.bool (decide (x=y))):=by
 show(Out.when (okd 12 (aH x)&&okd 12 (aH y)) (.ok (PyData.eqv (aH x) (aH y)))).bind _=_
 rw[Br 11,Br 11,X6,zm];rfl
theorem ahI(neg:Bool)(m:List Int)(ms:List (List Int)):inD neg (aH m) (.list (ms.map aH))=.ok (.bool (neg ^^ decide (m∈ms))):=by
 have h1:jY 12 (ms.map aH)=true:=BP.mpr λd hd=>by
  obtain⟨x,_,rfl⟩:=aqp.mp hd;exact Br 11 x
 have h2:((ms.map aH).any λz=>PyData.eqv z (aH m))=decide (m∈ms):=by
  induction ms with
  |nil=>simp
  |cons x ms ih=>
   have h1':jY 12 (ms.map aH)=true:=BP.mpr λd hd=>by
    obtain⟨x,_,rfl⟩:=aqp.mp hd;exact Br 11 x
   rw[aqh,aq8,ih h1',X6,zm];by_cases h:x=m
   ·simp[h]
   ·have:¬m=x:=λz=>h z.symm;simp[h,this]
 show(Out.when (okd 12 (aH m)&&jY 12 (ms.map aH)) (.ok ((ms.map aH).any λz=>PyData.eqv z (aH m)))).bind _=_
 rw[h1,h2,Br 11];rfl
def Sp(M:Mo)(L:Lay)(o:bB Dat):Res->Prop
 |.ok d c'=>∃M' bs,o=.ok d M'/\At M' { L with bs:=bs } c'
 |.no x=>o=.exc x M
section
variable{M:Mo}{L:Lay}{c:aM}(a:At M L c){n s:Nat}(I:Inv n s c)(hs:s<=76)(hn:n<=199)
include a I hn
theorem agn:Sp M L (ig M [ob L.c]) (dw c .owner):=by obtain⟨M',h1,h2⟩:=JW a (λo ho=>(I.own o ho).2) (by have:=I.ownL;omega);exact⟨M',L.bs,h1,h2⟩
theorem afc(x:Int):Sp M L (gG M [ob L.c,.int x]) (dw c (.ground x)):=by
 have hc:=a.hc;obtain⟨n,m,hg⟩:=a.hg;have hl:=I.al;have h1:=V5 a I.gr (by omega) x;simp only[dw];by_cases h:0<=x/\x<=9
 ·rw[if_pos h]at h1 ⊢;obtain⟨M',h1,h2⟩:=h1;exact⟨M',L.bs,by simp[gG,lC,hc,aP,hg,dB,kJ,h1],h2⟩
 ·rw[if_neg h]at h1 ⊢;show _=_;simp[gG,lC,hc,aP,hg,dB,kJ,h1]
include hs
omit hn
theorem YQ(o x:Int)(e:List Int)(he:e.length=6)(hv:Vg c x):gJ M [ob L.c,.int o,aH e,.int x]=match vN o e (bG (cA c 0 x)) (roomOf c x) with
  |[]=>.ok .none
  |r::_=>.exc (lY o e r):=by
 have h1:=I.hL;have h76:=I.few (R:=cA c 0 x) λr hr=>nY hr;have:=Wg a I.gr (by omega) (by omega) o x e he hv (by rw[jL a];omega) (by rw[jL a];exact I.O2);rw[jL a]at this;exact this
theorem ahc(o g:Int)(m:List Int)(hm:m.length<=1000):Sp M L (dU M [ob L.c,.int o,.int g,aH m]) (dw c (.enrol o g m)):=by
 have hc:=a.hc;have hr:=a.hr;obtain⟨n1,m1,hg⟩:=a.hg;have hL:=I.hL;have h1:=kZ a o;have h2:=vR a g;have h3:=Mz M m hm;have h4:=Hl a (by omega) o g;simp only[dw,qY,vX,HS,wC];by_cases e1:o∈c.own;rotate_left
 ·rw[if_neg e1]at h1 ⊢;show _=_;simp[dU,fX,hc,aP,aC,h1]
 rw[if_pos e1]at h1 ⊢;by_cases e2:Vg c g;rotate_left
 ·rw[if_neg e2]at h2 ⊢;show _=_;simp[dU,fX,hc,aP,aC,h1,hg,dB,aG,h2]
 rw[if_pos e2]at h2 ⊢;by_cases e3:cU m=true;rotate_left
 ·rw[if_neg e3]at h3 ⊢;show _=_;simp[dU,fX,hc,aP,aC,h1,hg,dB,aG,h2,h3]
 rw[if_pos e3]at h3 ⊢;have h5:bR (.tuple (m.map PyData.int)) (.tuple [.int 0,.int 0,.int 0,.int 0,.int 0,.int 0])=_:=af8 m [0,0,0,0,0,0];by_cases e4:m=[0,0,0,0,0,0]
 ·rw[if_pos e4];rw[decide_eq_true e4]at h5;show _=_;simp[dU,fX,hc,aP,aC,h1,hg,dB,aG,h2,h3,ju];simp[h5]
 rw[if_neg e4];rw[decide_eq_false e4]at h5;have h6:=ahI false m (bO c o g);by_cases e5:m∈bO c o g
 ·rw[if_pos e5];rw[decide_eq_true e5]at h6;simp at h6;show _=_;simp[dU,fX,hc,aP,aC,h1,hg,dB,aG,h2,h3,ju,h5,hr,mO,cJ,h4,h6]
 rw[if_neg e5];rw[decide_eq_false e5]at h6;simp at h6;have h7:=YQ a I hs o g m (fu e3) e2;cases e6:vN o m (bG (cA c 0 g)) (roomOf c g) with
 |cons r rs=>
  rw[e6]at h7;show _=_;simp[dU,fX,hc,aP,aC,h1,hg,dB,aG,h2,h3,ju,h5,hr,mO,cJ,h4,h6,bU,h7]
 |nil=>
  rw[e6]at h7;have h8:=Ks a (by omega) o g m;rw[if_neg λz=>e5 (zW.mpr z)]at h8;obtain⟨M',h8,h9⟩:=h8;refine⟨M',L.bs,?_,h9⟩;simp[dU,fX,hc,aP,aC,h1,hg,dB,aG,h2,h3,ju,h5,hr,mO,cJ,h4,h6,bU,h7,iw,h8]
end
@[simp]theorem aqc (n:Nat) (b:dH):List.lookup ("owner" : Str) (iB n b).fs=some (.dat (.int b.sd.o)):=by simp[iB]
@[simp]theorem ap9 (n:Nat) (b:dH):List.lookup ("ground" : Str) (iB n b).fs=some (.dat (.int b.sd.g)):=by simp[iB]
@[simp]theorem aqa (n:Nat) (b:dH):List.lookup ("due" : Str) (iB n b).fs=some (.dat (pY b.sd.due)):=by simp[iB]
@[simp]theorem aqb (n:Nat) (b:dH):List.lookup ("ear" : Str) (iB n b).fs=some (.dat (aH b.sd.ear)):=by simp[iB]
@[simp]theorem apU (n:Nat) (b:dH):List.lookup ("alive" : Str) (iB n b).fs=some (.dat (.bool b.sd.al)):=by simp[iB]
section
variable{M:Mo}{L:Lay}{c:aM}(a:At M L c){n s:Nat}(I:Inv n s c)(hs:s<=76)
include a I hs
theorem agi(o g:Int):Sp M L (fW M [ob L.c,.int o,.int g]) (dw c (.leave o g)):=by
 have hc:=a.hc;have hr:=a.hr;obtain⟨n1,m1,hg⟩:=a.hg;obtain⟨n2,hh⟩:=a.hh;have hL:=I.hL;have h1:=kZ a o;have h2:=vR a g;have h3:=qH a (by omega) o g;simp only[dw,qY,vX,mj];by_cases e1:o∈c.own;rotate_left
 ·rw[if_neg e1]at h1 ⊢;show _=_;simp[fW,jw,hc,aP,aC,h1]
 rw[if_pos e1]at h1 ⊢;by_cases e2:Vg c g;rotate_left
 ·rw[if_neg e2]at h2 ⊢;show _=_;simp[fW,jw,hc,aP,aC,h1,hg,dB,aG,h2]
 rw[if_pos e2]at h2 ⊢;by_cases e3:bO c o g=[]
 ·rw[if_pos e3]at h3 ⊢;show _=_;simp[fW,jw,hc,aP,aC,h1,hg,dB,aG,h2,aK,h3]
 rw[if_neg e3]at h3 ⊢;have h4:oX M [ob L.h,.list [.int g]]=_:=Q9 a (by omega) [g];have key:=eU (tg:=bA [3,4]) (te:=aA bR (bL "owner" (ao 4)) (ao 1)) (M:=M) (Z:=[some (.dat (ob L.c)),some (.dat (.int o)),some (.dat (.int g)),none,none]) nb (λx=>.bool (x.2.2.sd.o==o)) ((bZ L c).filter λx=>decide (x.2.2.sd.g∈[g])&&x.2.2.sd.al) λx hx=>⟨[some (.dat (ob L.c)),some (.dat (.int o)),some (.dat (.int g)),some (.dat (.int ((x.1:Int)+1))),some (.dat (ob x.2.1))],by simp[nb],by
  obtain⟨n,hb⟩:=a.hb' (aqA.mp hx).1;simp[hb,iB]⟩
 have hl:((bZ L c).filter λx=>decide (x.2.2.sd.g∈[g])&&x.2.2.sd.al).length<=50000:=aqE (aqv _ _) (by rw[a.len'];omega);have h5:Ox (.list (((bZ L c).filter λx=>decide (x.2.2.sd.g∈[g])&&x.2.2.sd.al).map λx=>PyData.bool (x.2.2.sd.o==o)))=.ok (.bool (c.bs.any (Wz o g))):=by
  have e:(((bZ L c).filter λx=>decide (x.2.2.sd.g∈[g])&&x.2.2.sd.al).map λx=>PyData.bool (x.2.2.sd.o==o))=(((bZ L c).filter λx=>decide (x.2.2.sd.g∈[g])&&x.2.2.sd.al).map λx=>(x.2.2.sd.o==o)).map PyData.bool:=by rw[aqJ];rfl
  rw[e,Yz,arf,List.any_filter];have e2:=Jx a;have e3:(bZ L c).map (λx=>x.2.2)=c.bs:=by
   have:(bZ L c).map (λx=>x.2.2)=((bZ L c).map (λx=>(x.1,x.2.2))).map (·.2):=by rw[aqJ];rfl
   rw[this,e2];apply aqH;intro i;simp;cases c.bs[i]?<;>rfl
  conv=>rhs;rw[←e3]
  rw[arf];rfl
 cases e4:c.bs.any (Wz o g) with
 |true=>
  rw[e4]at h5;show _=_;simp[fW,jw,hc,aP,aC,h1,hg,dB,aG,h2,aK,h3,hh,dI,jr];simp at h4 key h5 hl;simp[h4,key,hl,h5]
 |false=>
  rw[e4]at h5;have h6:=ahA a (by omega) I.held o g;rw[if_neg e3]at h6;obtain⟨M',h6,h7⟩:=h6;refine⟨M',L.bs,?_,h7⟩;simp[fW,jw,hc,aP,aC,h1,hg,dB,aG,h2,aK,h3,hh,dI,jr];simp at h4 key h5 hl;simp[h4,key,hl,h5,hc,aP,hr,mO,yO,h6]
theorem ag8(o g:Int)(m:List Int)(hm:m.length<=1000):Sp M L (fY M [ob L.c,.int o,.int g,aH m]) (dw c (.bring o g m)):=by
 have hc:=a.hc;have hr:=a.hr;obtain⟨n1,m1,hg⟩:=a.hg;obtain⟨n2,hh⟩:=a.hh;have hL:=I.hL;have h1:=kZ a o;have h2:=vR a g;have h3:=Mz M m hm;have h4:=qH a (by omega) o g;simp only[dw,qY,vX,HS,mj];by_cases e1:o∈c.own;rotate_left
 ·rw[if_neg e1]at h1 ⊢;show _=_;simp[fY,jo,hc,aP,aC,h1]
 rw[if_pos e1]at h1 ⊢;by_cases e2:Vg c g;rotate_left
 ·rw[if_neg e2]at h2 ⊢;show _=_;simp[fY,jo,hc,aP,aC,h1,hg,dB,aG,h2]
 rw[if_pos e2]at h2 ⊢;by_cases e3:cU m=true;rotate_left
 ·rw[if_neg e3]at h3 ⊢;show _=_;simp[fY,jo,hc,aP,aC,h1,hg,dB,aG,h2,h3]
 rw[if_pos e3]at h3 ⊢;by_cases e4:bO c o g=[]
 ·rw[if_pos e4]at h4 ⊢;show _=_;simp[fY,jo,hc,aP,aC,h1,hg,dB,aG,h2,h3,aK,h4]
 rw[if_neg e4]at h4 ⊢;obtain⟨M',h,h5,h6⟩:=Kr a (by omega) (.brought o g m) (by omega);refine⟨M',L.bs++[h],?_,h6⟩;simp[Fi.dat]at h5;simp[fY,jo,hc,aP,aC,h1,hg,dB,aG,h2,h3,aK,h4,hh,dI,jD,h5]
theorem ajg(k:Int):Sp M L (iW M [ob L.c,.int k]) (dw c (.bear k)):=by
 have hc:=a.hc;obtain⟨n2,hh⟩:=a.hh;have hL:=I.hL;have h1:=KC a (by omega) k;simp only[dw,markB,sE];cases hk:bk c k with
 |none=>
  rw[hk]at h1;show _=_;simp[iW,lQ,hc,aP,hh,dI,bD,h1]
 |some b=>
  rw[hk]at h1;obtain⟨_,_,_,_,n3,hb⟩:=qQ a hk;show Sp M L _ (if b.sd.al=true then _ else _);cases e1:b.sd.al with
  |false=>
   simp[e1]at h1;show _=_;simp[iW,lQ,hc,aP,hh,dI,bD,h1]
  |true=>
   simp[e1]at h1;cases e2:b.sd.due with
   |none=>
    simp[e2]at h1;show _=_;simp[iW,lQ,hc,aP,hh,dI,bD,h1]
   |some e=>
    simp[e2]at h1;simp only[if_true];obtain⟨M',h,h5,h6⟩:=Kr a (by omega) (.born k b.sd.o b.sd.g) (by omega);refine⟨M',L.bs++[h],?_,h6⟩;simp[Fi.dat]at h5;simp[iW,lQ,hc,aP,hh,dI,bD,h1,hb,iB,jD,h5]
theorem akD(k:Int)(hn:n<=1000):Sp M L (kY M [ob L.c,.int k]) (dw c (.die k)):=by
 have hc:=a.hc;obtain⟨n2,hh⟩:=a.hh;have hL:=I.hL;have h1:=Dm a (by omega) k;simp only[dw,sE];cases hk:bk c k with
 |none=>
  rw[hk]at h1;show _=_;simp[kY,qN,hc,aP,hh,dI,bJ,h1]
 |some b=>
  rw[hk]at h1;obtain⟨_,_,h3,h4,n3,hb⟩:=qQ a hk;show Sp M L _ (if b.sd.al=true then _ else _);cases e1:b.sd.al with
  |false=>
   simp[e1]at h1;show _=_;simp[kY,qN,hc,aP,hh,dI,bJ,h1]
  |true=>
   simp[e1]at h1;have mem:=aqm h4;simp only[if_true];have h5:=sO hb .died (by rw[fu (I.ear b mem)];decide) (by have:=I.en b mem;omega);refine⟨_,L.bs,?_,yJ (n:=n3) (e:=.died) a h3 h4⟩;simp[En.dat]at h5;simp[kY,qN,hc,aP,hh,dI,bJ,h1,hb,bM,h5,qO]
theorem ajm(k p:Int)(hn:n<=1000):Sp M L (fK M [ob L.c,.int k,.int p]) (dw c (.tear k p)):=by
 have hc:=a.hc;obtain⟨n2,hh⟩:=a.hh;have hL:=I.hL;have h1:=Dm a (by omega) k;simp only[dw,sE];cases hk:bk c k with
 |none=>
  rw[hk]at h1;show _=_;simp[fK,jd,hc,aP,hh,dI,bJ,h1]
 |some b=>
  rw[hk]at h1;obtain⟨_,_,h3,h4,n3,hb⟩:=qQ a hk;show Sp M L _ (if b.sd.al=true then _ else _);cases e1:b.sd.al with
  |false=>
   simp[e1]at h1;show _=_;simp[fK,jd,hc,aP,hh,dI,bJ,h1]
  |true=>
   simp[e1]at h1;have mem:=aqm h4;have h6:=fu (I.ear b mem);simp only[if_true];by_cases e2:0<=p/\p < 6
   ·rw[if_pos e2];obtain⟨q,rfl⟩:∃q:Nat,p=q:=⟨p.toNat,by omega⟩;have hq:q < 6:=by omega
    have hq2:q < b.sd.ear.length:=by omega
    have hq3:(q:Int) < 6:=by omega
    have h7:b.sd.ear[q]?.getD 0=b.sd.ear[q]:=by simp[hq2]
    simp only[Int.toNat_natCast,List.getD_eq_getElem?_getD,h7];have h5:=sO hb (.torn q) (by omega) (by have:=I.en b mem;omega);by_cases e3:9<=b.sd.ear[q]
    ·rw[if_pos e3];show _=_;simp[fK,jd,hc,aP,hh,dI,bJ,h1,hb,iB,iQ,hq3,cR,hq2,e3]
    ·rw[if_neg e3];refine⟨_,L.bs,?_,yJ (n:=n3) (e:=.torn q) a h3 h4⟩;simp[En.dat]at h5;have hl:∀i,(M.set (Pr.hk L k) i)[Pr.hk L k]?=some i:=λi=>by rw[bH hb,if_pos rfl]
     simp[fK,jd,hc,aP,hh,dI,bJ,h1,hb,iQ,hq3,cR,bM,h5,hl,hq2,e3,qO,go]
   ·rw[if_neg e2];show _=_;by_cases e3:0<=p
    ·have e4:¬p < 6:=λz=>e2 ⟨e3,z⟩;simp[fK,jd,hc,aP,hh,dI,bJ,h1,iQ,e3,e4]
    ·simp[fK,jd,hc,aP,hh,dI,bJ,h1,iQ,e3]
end
theorem Inv.alive{n s:Nat}{c:aM}(I:Inv n s c){b:dH}(h:b∈c.bs)(h2:b.sd.al=true):bO c b.sd.o b.sd.g≠[]/\Vg c b.sd.g/\b.sd.o∈c.own:=by obtain⟨m,hm⟩:=I.rt b h h2;exact⟨yG.mpr ⟨m,hm⟩,(I.hE _ hm).2.1,(I.hE _ hm).1⟩
section
variable{M:Mo}{L:Lay}{c:aM}(a:At M L c){n s:Nat}(I:Inv n s c)(hs:s<=76)(hn:n<=1000)
include a I hs hn
theorem akP(k:Int):Sp M L (jE M [ob L.c,.int k]) (dw c (.cut k)):=by
 have hc:=a.hc;obtain⟨n2,hh⟩:=a.hh;have hL:=I.hL;have h1:=Dm a (by omega) k;simp only[dw,sE,wC];cases hk:bk c k with
 |none=>
  rw[hk]at h1;show _=_;simp[jE,mZ,hc,aP,hh,dI,bJ,h1]
 |some b=>
  rw[hk]at h1;obtain⟨_,_,h3,h4,n3,hb⟩:=qQ a hk;show Sp M L _ (if b.sd.al=true then _ else _);cases e1:b.sd.al with
  |false=>
   simp[e1]at h1;show _=_;simp[jE,mZ,hc,aP,hh,dI,bJ,h1]
  |true=>
   simp[e1]at h1;simp only[if_true];have mem:=aqm h4;obtain⟨q1,q2,q3⟩:=I.alive mem e1;obtain⟨r,q4,q5⟩:=I.mk1 q1;have h6:=fu (I.ear b mem);have h7:=Aq a (by omega) _ _ q4;have h8:=Gz M b.sd.ear (firstM c b.sd.o b.sd.g) (by omega);have q6:=fu (tH (I.ear b mem) q5);generalize bW b.sd.ear (firstM c b.sd.o b.sd.g)=e at h8 q6 ⊢;have h9:=YQ a I hs b.sd.o b.sd.g e q6 q2;cases e2:vN b.sd.o e (bG (cA c 0 b.sd.g)) (roomOf c b.sd.g) with
   |cons r rs=>
    rw[e2]at h9;show _=_;simp[jE,mZ,hc,aP,hh,dI,bJ,h1,hb,iB,bV,h7,h8,bU,h9]
   |nil=>
    rw[e2]at h9;have h5:=sO hb (.cut e) (by omega) (by have:=I.en b mem;omega);refine⟨_,L.bs,?_,yJ (n:=n3) (e:=.cut e) a h3 h4⟩;simp[En.dat]at h5;simp[jE,mZ,hc,aP,hh,dI,bJ,h1,hb,bV,bM,h5,bU,h7,h8,h9,qO]
theorem aiG(x:Int):Sp M L (jP M [ob L.c,.int x]) (dw c (.part x)):=by
 have hc:=a.hc;obtain⟨n1,m1,hg⟩:=a.hg;have h1:=adC a I.gr x;have e0:(bf c x).filter (λy=>!(y==x))=rJ c x:=rfl;rw[e0]at h1;simp only[dw,vX];by_cases e1:Vg c x
 ·rw[if_pos e1]at h1 ⊢;by_cases e2:rJ c x=[]
  ·rw[if_pos e2]at h1 ⊢;show _=_;simp[jP,pq,hc,aP,hg,dB,m7,h1]
  ·rw[if_neg e2]at h1 ⊢;obtain⟨M',h1,h2⟩:=h1;refine⟨M',L.bs,?_,h2⟩;simp[jP,pq,hc,aP,hg,dB,m7,h1]
 ·rw[if_neg e1]at h1 ⊢;show _=_;simp[jP,pq,hc,aP,hg,dB,m7,h1]
theorem agj(x y:Int)(hx:Vg c x)(hy:Vg c y):jZ M [ob L.c,.int x,.int y]=.ok (.list ((jN (bG (u6 c x y)) (lW c x y)).map pairD)):=by
 have h1:=I.hL;have f1:=I.few (R:=cA c 0 x) λr hr=>nY hr;have f2:=I.few (R:=cA c 0 y) λr hr=>nY hr;have f3:=I.few (R:=u6 c x y) λr hr=>by
  rcases aqq.mp hr with h|h
  ·exact nY (dW.mp h)
  ·exact nY (dW.mp h)
 have e:Ho L c x y=u6 c x y:=by unfold Ho u6;rw[jL a,jL a]
 have:=ZJ a I.gr (by omega) (by omega) x y hx hy (by rw[jL a];omega) (by rw[jL a];omega) (by rw[e];omega) (by rw[jL a];exact I.O2) (by rw[jL a];exact I.O2);rw[e]at this;exact this
theorem ahD(x y:Int):Sp M L (fQ M [ob L.c,.int x,.int y]) (dw c (.oO x y)):=by
 have hc:=a.hc;obtain⟨n1,m1,hg⟩:=a.hg;have h1:=vR a y;have h2:=Ah a I.gr x;simp only[dw,vX];by_cases e1:Vg c y;rotate_left
 ·rw[if_neg e1]at h1 ⊢;show _=_;simp[fQ,jh,hc,aP,hg,dB,aG,h1]
 rw[if_pos e1]at h1 ⊢;by_cases e2:Vg c x;rotate_left
 ·rw[if_neg e2]at h2 ⊢;show _=_;simp[fQ,jh,hc,aP,hg,dB,aG,h1,bT,h2]
 rw[if_pos e2]at h2 ⊢;have h3:=Fv false y (bf c x);have h4:=abj a I.gr x y e2 e1;by_cases e3:y∈bf c x
 ·rw[if_pos e3];rw[decide_eq_true e3]at h3;show _=_;simp[fQ,jh,hc,aP,hg,dB,aG,h1,bT,h2,h3]
 rw[if_neg e3]at h4 ⊢;rw[decide_eq_false e3]at h3;have h5:=agj a I hs hn x y e2 e1;have h6:∀p∈jN (bG (u6 c x y)) (lW c x y),p.1.2.length=6:=λp hp=>by
  unfold jN at hp;obtain⟨q,hq,hp⟩:=List.mem_flatMap.mp hp;obtain⟨r,_,rfl⟩:=aqp.mp hp;obtain⟨i,hi,rfl⟩:=List.mem_mapIdx.mp hq;have hm:=dW.mp (aqR hi);rcases aqq.mp hm with h|h
  ·exact I.O2 _ (dW.mp h)
  ·exact I.O2 _ (dW.mp h)
 cases e4:jN (bG (u6 c x y)) (lW c x y) with
 |cons p ps=>
  rw[e4]at h5 h6;have h7:=Gz M p.1.2 p.2.2 (by have:=h6 p aqj;omega);show _=_;simp[fQ,jh,hc,aP,hg,dB,aG,h1,bT,h2,h3,mF,h5];simp[pairD,Ear.rD,Ear.dT,h7,lY]
 |nil=>
  rw[e4]at h5;obtain⟨M',h4,h7⟩:=h4;refine⟨M',L.bs,?_,h7⟩;simp[fQ,jh,hc,aP,hg,dB,aG,h1,bT,h2,h3,mF,h5,vK,h4]
theorem aj3(e g x:Int):Sp M L (cW M [ob L.c,.int e,.int g,.int x]) (dw c (.heir e g x)):=by
 have hc:=a.hc;have hr:=a.hr;obtain⟨n1,m1,hg⟩:=a.hg;have hL:=I.hL;have h1:=kZ a e;have h2:=vR a g;have h3:=qH a (by omega) e g;simp only[dw,qY,vX,mj];by_cases e1:e∈c.own;rotate_left
 ·rw[if_neg e1]at h1 ⊢;show _=_;simp[cW,dR,hc,aP,aC,h1]
 rw[if_pos e1]at h1 ⊢;by_cases e2:Vg c g;rotate_left
 ·rw[if_neg e2]at h2 ⊢;show _=_;simp[cW,dR,hc,aP,aC,h1,hg,dB,aG,h2]
 rw[if_pos e2]at h2 ⊢;by_cases e3:1<=x/\x<=3;rotate_left
 ·rw[if_neg e3];show _=_;by_cases e4:1<=x
  ·have e5:¬x<=3:=λz=>e3 ⟨e4,z⟩;simp[cW,dR,hc,aP,aC,h1,hg,dB,aG,h2,iU,j7,e4,e5]
  ·simp[cW,dR,hc,aP,aC,h1,hg,dB,aG,h2,iU,j7,e4]
 rw[if_pos e3];obtain⟨e4,e5⟩:=e3;by_cases e6:bO c e g=[]
 ·rw[if_pos e6]at h3 ⊢;show _=_;simp[cW,dR,hc,aP,aC,h1,hg,dB,aG,h2,iU,j7,e4,e5,aK,h3]
 rw[if_neg e6]at h3 ⊢;obtain⟨r,q4,q5⟩:=I.mk1 e6;have h7:=Aq a (by omega) _ _ q4;have f1:=I.few (R:=cA c 0 g) λr hr=>nY hr;have h8:=zp a I.gr (by omega) (by omega) g (by rw[jL a];omega);rw[if_pos e2,jL a]at h8;have h9:=zF a I.gr g;rw[if_pos e2]at h9;have h10:=Wb M (firstM c e g) x (bG (cA c 0 g)) (roomOf c g) q5 ⟨by omega,e5⟩ (zR I.O2) (by rw[pO];omega);cases e7:(O6 (firstM c e g) x).find? (Bh (bG (cA c 0 g)) (roomOf c g)) with
 |none=>
  rw[e7]at h10;show _=_;simp[cW,dR,hc,aP,aC,h1,hg,dB,aG,h2,iU,j7,e4,e5,aK,h3,bV,h7,cH,h8,cC,h9,h10]
 |some mk=>
  rw[e7]at h10;obtain⟨M1,k1,a1⟩:=JW a (λo ho=>(I.own o ho).2) (by have:=I.ownL;omega);have k2:=Ks a1 (by show c.held.length<=50000;omega) (c.count+1) g mk;rw[if_neg (λz=>by
   have:=(I.own _ (I.hE _ z).1).2;simp at this
   omega)]at k2
  obtain⟨M2,k2,a2⟩:=k2;have hc1:=a1.hc;have hr1:=a1.hr;refine⟨M2,L.bs,?_,a2⟩;simp[cW,dR,hc,aP,aC,h1,hg,dB,aG,h2,iU,j7,e4,e5,aK,h3,bV,h7,cH,h8,cC,h9,h10,gM,k1];simp[hc1,aP,hr1,mO,iw,k2]
end
section
variable{M:Mo}{L:Lay}{c:aM}(a:At M L c){n s:Nat}(I:Inv n s c)(hs:s<=76)(hn:n<=1000)
include a I hs hn
theorem aio(k o:Int):Sp M L (dJ M [ob L.c,.int k,.int o]) (dw c (.sell k o)):=by
 have hc:=a.hc;obtain⟨n2,hh⟩:=a.hh;have hL:=I.hL;have h1:=KC a (by omega) k;have h2:=kZ a o;simp only[dw,markB,sE,wC,qY,mj];cases hk:bk c k with
 |none=>
  rw[hk]at h1;show _=_;simp[dJ,fJ,hc,aP,hh,dI,bD,h1]
 |some b=>
  rw[hk]at h1;obtain⟨k1,k2,h3,h4,n3,hb⟩:=qQ a hk;show Sp M L _ (if b.sd.al=true then _ else _);cases e1:b.sd.al with
  |false=>
   simp[e1]at h1;show _=_;simp[dJ,fJ,hc,aP,hh,dI,bD,h1]
  |true=>
   simp[e1]at h1;simp only[if_true];cases e2:b.sd.due with
   |none=>
    simp[e2]at h1;show _=_;simp[dJ,fJ,hc,aP,hh,dI,bD,h1]
   |some e0=>
    simp[e2]at h1;show Sp M L _ (if o∈c.own then _ else _);by_cases e3:o∈c.own;rotate_left
    ·rw[if_neg e3]at h2 ⊢;show _=_;simp[dJ,fJ,hc,aP,hh,dI,bD,h1,aC,h2]
    rw[if_pos e3]at h2 ⊢;by_cases e4:b.sd.o=o
    ·rw[if_pos e4];show _=_;simp[dJ,fJ,hc,aP,hh,dI,bD,h1,aC,h2,hb,e4]
    rw[if_neg e4];have h5:=qH a (by omega) o b.sd.g;by_cases e5:bO c o b.sd.g=[]
    ·rw[if_pos e5]at h5 ⊢;show _=_;simp[dJ,fJ,hc,aP,hh,dI,bD,h1,aC,h2,hb,e4,aK,h5]
    rw[if_neg e5]at h5 ⊢;have mem:=aqm h4;obtain⟨q1,q2,q3⟩:=I.alive mem e1;obtain⟨r,q4,q5⟩:=I.mk1 e5;have h6:=fu (I.ear b mem);have h7:=Aq a (by omega) _ _ q4;have h8:=Gz M b.sd.ear (firstM c o b.sd.g) (by omega);have q6:=fu (tH (I.ear b mem) q5);generalize bW b.sd.ear (firstM c o b.sd.g)=e at h8 q6 ⊢;have f1:=I.few (R:=cA c k b.sd.g) λr hr=>nY hr;have h9:=Dy a I.gr (by omega) (by omega) k b.sd.g (by rw[jL a];omega);rw[if_pos q2,jL a]at h9;have h10:=zF a I.gr b.sd.g;rw[if_pos q2]at h10;have h11:=MN M o e (bG (cA c k b.sd.g)) (roomOf c b.sd.g) q6 (zR I.O2) (YZ (by omega));cases e6:vN o e (bG (cA c k b.sd.g)) (roomOf c b.sd.g) with
    |cons r rs=>
     rw[e6]at h11;show _=_;simp[dJ,fJ,hc,aP,hh,dI,bD,h1,aC,h2,hb,e4,aK,h5,bV,h7,h8,cZ,h9,cC,h10,h11,lY]
    |nil=>
     rw[e6]at h11;have h12:=sO hb (.sold o e) (by omega) (by have:=I.en b mem;omega);have a1:=yJ (n:=n3) (e:=.sold o e) a h3 h4;have hk2:bk (gH c (k - 1).toNat (.sold o e)) k=some (qO b (.sold o e)):=by unfold bk;rw[if_pos ⟨k1,by simpa [gH] using k2⟩,yr,if_pos rfl,h4];rfl
     obtain⟨M',h13,a2⟩:=Gp a1 (by simp[gH];omega) (I.bi.step _ _ q6) (by omega) k hk2;have hc1:=a1.hc;obtain⟨n4,hh1⟩:=a1.hh;refine⟨M',L.bs,?_,a2⟩;simp[En.dat]at h12;simp only[qO]at h13 hc1 hh1;simp[dJ,fJ,hc,aP,hh,dI,bD,h1,aC,h2,hb,e4,aK,h5,bV,h7,h8,cZ,h9,cC,h10,h11,bM,h12];simp[hc1,aP,hh1,dI,iy,h13]
theorem ai3(k g:Int):Sp M L (dN M [ob L.c,.int k,.int g]) (dw c (.move k g)):=by
 have hc:=a.hc;obtain⟨n2,hh⟩:=a.hh;obtain⟨n5,m5,hg⟩:=a.hg;have hL:=I.hL;have h1:=KC a (by omega) k;have h2:=vR a g;simp only[dw,markB,sE,wC,vX,mj];cases hk:bk c k with
 |none=>
  rw[hk]at h1;show _=_;simp[dN,fL,hc,aP,hh,dI,bD,h1]
 |some b=>
  rw[hk]at h1;obtain⟨k1,k2,h3,h4,n3,hb⟩:=qQ a hk;show Sp M L _ (if b.sd.al=true then _ else _);cases e1:b.sd.al with
  |false=>
   simp[e1]at h1;show _=_;simp[dN,fL,hc,aP,hh,dI,bD,h1]
  |true=>
   simp[e1]at h1;simp only[if_true];cases e2:b.sd.due with
   |none=>
    simp[e2]at h1;show _=_;simp[dN,fL,hc,aP,hh,dI,bD,h1]
   |some e=>
    simp[e2]at h1;show Sp M L _ (if Vg c g then _ else _);by_cases e3:Vg c g;rotate_left
    ·rw[if_neg e3]at h2 ⊢;show _=_;simp[dN,fL,hc,aP,hh,dI,bD,h1,hg,dB,aG,h2]
    rw[if_pos e3]at h2 ⊢;by_cases e4:b.sd.g=g
    ·rw[if_pos e4];show _=_;simp[dN,fL,hc,aP,hh,dI,bD,h1,hg,dB,aG,h2,hb,e4]
    rw[if_neg e4];have h5:=qH a (by omega) b.sd.o g;by_cases e5:bO c b.sd.o g=[]
    ·rw[if_pos e5]at h5 ⊢;show _=_;simp[dN,fL,hc,aP,hh,dI,bD,h1,hg,dB,aG,h2,hb,e4,aK,h5]
    rw[if_neg e5]at h5 ⊢;have mem:=aqm h4;have h6:=fu (I.ear b mem);have q6:=fu (I.due b mem e e2);have h11:=YQ a I hs b.sd.o g e q6 e3;cases e6:vN b.sd.o e (bG (cA c 0 g)) (roomOf c g) with
    |cons r rs=>
     rw[e6]at h11;show _=_;simp[dN,fL,hc,aP,hh,dI,bD,h1,hg,dB,aG,h2,hb,e4,aK,h5,e2,pY,bU,h11]
    |nil=>
     rw[e6]at h11;have h12:=sO hb (.moved g) (by omega) (by have:=I.en b mem;omega);have a1:=yJ (n:=n3) (e:=.moved g) a h3 h4;have hk2:bk (gH c (k - 1).toNat (.moved g)) k=some (qO b (.moved g)):=by unfold bk;rw[if_pos ⟨k1,by simpa [gH] using k2⟩,yr,if_pos rfl,h4];rfl
     obtain⟨M',h13,a2⟩:=Gp a1 (by simp[gH];omega) (I.bi.step _ _ trivial) (by omega) k hk2;have hc1:=a1.hc;obtain⟨n4,hh1⟩:=a1.hh;refine⟨M',L.bs,?_,a2⟩;simp[En.dat]at h12;simp only[qO]at h13 hc1 hh1;simp[dN,fL,hc,aP,hh,dI,bD,h1,hg,dB,aG,h2,hb,e4,aK,h5,e2,pY,bU,h11,bM,h12];simp[hc1,aP,hh1,dI,iy,h13]
theorem ajv(e h:Int):Sp M L (fO M [ob L.c,.int e,.int h]) (dw c (.pass e h)):=by
 have hc:=a.hc;have hr:=a.hr;have hL:=I.hL;have h1:=kZ a e;have h2:=kZ a h;simp only[dw,qY];by_cases e1:e∈c.own;rotate_left
 ·rw[if_neg e1]at h1 ⊢;show _=_;simp[fO,jB,hc,aP,aC,h1]
 rw[if_pos e1]at h1 ⊢;by_cases e2:h∈c.own;rotate_left
 ·rw[if_neg e2]at h2 ⊢;show _=_;simp[fO,jB,hc,aP,aC,h1,h2]
 rw[if_pos e2]at h2 ⊢;by_cases e3:e=h
 ·rw[if_pos e3];show _=_;simp[fO,jB,hc,aP,aC,h1,h2,e3]
 rw[if_neg e3];obtain⟨M1,h3,a1⟩:=Xx a (by omega) e h;have hc1:=a1.hc;obtain⟨n1,hh1⟩:=a1.hh;have h4:=ae0 a1 (by show c.bs.length<=50000;omega) e;have ehd:bZ L { c with held:=handed c e h }=bZ L c:=rfl;rw[ehd]at h4;generalize hX:((bZ L c).filter λx=>(x.2.2.sd.o==e)&&x.2.2.sd.al)=X at h4;have hXl:X.length<=1000:=by rw[←hX];exact aqE (aqv _ _) (by rw[a.len'];omega)
 have bi1:KH (2 * n) { c with held:=handed c e h }:=⟨I.bi.ear,I.bi.en⟩;obtain⟨Z',M2,g1,g2,g3⟩:=Oo (tg:=bA [4,5]) (body:=rB) (λZ=>∃x y,Z=[some (.dat (ob L.c)),some (.dat (.int e)),some (.dat (.int h)),some (.dat (.list (X.map nb))),x,y])
  (λi c1=>KH (2 * n+i) c1/\c1.bs.length=c.bs.length) (.passed h) L 1000 X M1 { c with held:=handed c e h } [some (.dat (ob L.c)),some (.dat (.int e)),some (.dat (.int h)),some (.dat (.list (X.map nb))),none,none] 0 (by omega) a1 ⟨bi1,rfl⟩ ⟨none,none,rfl⟩ (λM1 c1 Z x i hi a1 p1 q1 hx=>by
   obtain⟨bi1,l1⟩:=p1;obtain⟨x0,y0,rfl⟩:=q1;rw[←hX]at hx;obtain⟨z1,z2⟩:=Dj (aqA.mp hx).1;have hl:x.1 < c1.bs.length:=by rw[l1];exact(aqg.mp z2).1
   have z3:=aqi hl;obtain⟨nx,hx1⟩:=a1.hb _ _ _ z1 z3;have mem:=aqR hl;have hb:=sO hx1 (.passed h) (by rw[bi1.ear _ mem];decide) (by have:=bi1.en _ mem;omega);refine⟨[some (.dat (ob L.c)),some (.dat (.int e)),some (.dat (.int h)),some (.dat (.list (X.map nb))),some (.dat (.int ((x.1:Int)+1))),some (.dat (ob x.2.1))],[some (.dat (ob L.c)),some (.dat (.int e)),some (.dat (.int h)),some (.dat (.list (X.map nb))),some (.dat (.int ((x.1:Int)+1))),some (.dat (ob x.2.1))],_,by simp[nb],?_,⟨_,_,rfl⟩,yJ (n:=nx) a1 z1 z3,bi1.step _ _ trivial,by simp[gH,l1]⟩;have hb:lM M1 [ob x.2.1,.tuple [.str "passed",.int h]]=_:=hb
   simp[rB,hx1,bM,hb,qO])
 obtain⟨x0,y0,rfl⟩:=g2;have g4:uW X (.passed h) { c with held:=handed c e h }=oN (λx=>(x.sd.o==e)&&x.sd.al) (.passed h) { c with held:=handed c e h }:=by rw[←hX];exact U8 a1 (λx=>(x.sd.o==e)&&x.sd.al) (.passed h)
 rw[g4]at g3;have hc2:=g3.hc;have hl:∀i,(M2.set L.c i)[L.c]?=some i:=λi=>by rw[bH hc2,if_pos rfl]
 have hk:=any_keys e c.own;rw[decide_eq_true e1]at hk;have hf:((c.own.map λo=>(PyData.int o,PyData.bool true)).filter λp=>!PyData.eqv p.1 (.int e))=(c.own.filter λo=>!(o==e)).map λo=>(PyData.int o,PyData.bool true):=by rw[List.filter_map];congr 1
 have a3:=g3.setC (n:=c.count) (own:=c.own.filter λo=>!(o==e));refine⟨_,L.bs,?_,a3⟩;have key:=eU (tg:=bA [4,5]) (te:=aq 4) (M:=M2.set L.c (aP L { oN (λx=>(x.sd.o==e)&&x.sd.al) (.passed h) { c with held:=handed c e h } with count:=c.count,own:=c.own.filter λo=>!(o==e) })) (Z:=[some (.dat (ob L.c)),some (.dat (.int e)),some (.dat (.int h)),some (.dat (.list (X.map nb))),none,none]) nb (λx=>.int ((x.1:Int)+1)) X λx _=>⟨[some (.dat (ob L.c)),some (.dat (.int e)),some (.dat (.int h)),some (.dat (.list (X.map nb))),some (.dat (.int ((x.1:Int)+1))),some (.dat (ob x.2.1))],by simp[nb],by simp⟩;have eo:(QX c e).map PyData.int=X.map λx=>.int ((x.1:Int)+1):=by unfold QX;rw[←Jx a,List.filter_map,aqJ,aqJ,←hX];rfl
 have eo:lI (QX c e)=.list (X.map λx=>.int ((x.1:Int)+1)):=congrArg PyData.list eo;have hX2:X.length<=50000:=by omega
 have f2:c.own.length<=100000:=by have:=I.ownL;omega
 rw[eo];simp[fO,jB,hc,aP,aC,h1,h2,e3,hr,mO,qZ,h3];simp[hc1,aP,hh1,dI,Ad,h4,g1];simp only[oN]at hc2 key ⊢;have hk':(c.own.any ((λp=>PyData.eqv p.1 (.int e)) ∘ λo=>(PyData.int o,PyData.bool true)))=true:=by rw[←arf];exact hk
 simp[hc2,aP,f2];rw[hk',hf];simp only[aP]at key;simp[key,hX2]
end
theorem dh.same{c c':aM}(i:dh c)(h1:c'.al=c.al)(h2:c'.ci=c.ci):dh c':=by cases c;cases c';simp at h1 h2;subst h1 h2;exact⟨i.len,i.few,i.al,i.mem,i.own,i.up,i.one⟩
theorem dh.lt{c:aM}(i:dh c){k:Nat}{l:List Int}(h:c.ci[k]?=some l):k < c.al.length:=by rw[←i.len];exact(aqg.mp h).1
theorem dh.add{c:aM}(i:dh c)(hf:c.al.length < 200){x:Int}(hx:0<=x/\x<=9):dh { c with al:=c.al++[x],ci:=c.ci++[[(c.al.length:Int)+1]] }:=by
 have key:∀(k:Nat) (l:List Int),(c.ci++[[(c.al.length:Int)+1]])[k]?=some l->(c.ci[k]?=some l/\k < c.al.length)∨(k=c.al.length/\l=[(c.al.length:Int)+1]):=λk l h=>by
  by_cases hk:k < c.ci.length
  ·rw[aqr hk]at h;exact .inl ⟨h,i.lt h⟩
  ·rw[aqy (by omega)]at h;have hk2:k - c.ci.length=0:=by
    have:=(aqg.mp h).1;simp at this;omega
   rw[hk2]at h;simp at h;exact .inr ⟨by have:=i.len;omega,h.symm⟩
 refine⟨by simp[i.len],by simp;omega,λy hy=>?_,λk l h y hy=>?_,λk l h=>?_,λk l h=>?_,λk j l h hj=>?_⟩
 ·rcases aqq.mp hy with hy|hy
  ·exact i.al y hy
  ·rw[aql.mp hy];exact hx
 ·show 1<=y/\y<=((c.al++[x]).length:Int);rw[aqO,List.length_singleton];rcases key k l h with⟨h,_⟩|⟨_,rfl⟩
  ·have:=i.mem k l h y hy;omega
  ·rw[aql.mp hy];omega
 ·rcases key k l h with⟨h,_⟩|⟨rfl,rfl⟩
  ·exact i.own k l h
  ·simp
 ·rcases key k l h with⟨h,_⟩|⟨rfl,rfl⟩
  ·exact i.up k l h
  ·simp
 ·show(c.ci++[[(c.al.length:Int)+1]])[j]?=some l
  rcases key k l h with⟨h,_⟩|⟨rfl,rfl⟩
  ·have h2:=i.one k j l h hj;rw[aqr (aqg.mp h2).1];exact h2
  ·have:j=c.al.length:=by
    rw[aql]at hj;omega
   rw[this,←i.len];simp
theorem Yx(l:List Int):∀(s:List Int) (ci:List (List Int)) (k:Nat),(∀y∈s,1<=y)->(s.foldl (λs y=>s.set (y - 1).toNat l) ci)[k]?=if ((k:Int)+1∈s)/\k < ci.length then some l else ci[k]?
 |[],ci,k,_=>by simp
 |y::s,ci,k,h=>by
  rw[aq7,Yx l s _ k λz hz=>h z (aqk _ hz),aqD];have hy:=h y aqj;by_cases h1:(k:Int)+1∈s/\k < ci.length
  ·rw[if_pos h1,if_pos ⟨aqk _ h1.1,h1.2⟩]
  ·rw[if_neg h1,aq5];by_cases h2:(y - 1).toNat=k
   ·rw[if_pos h2];have e:(k:Int)+1=y:=by omega
    by_cases h3:k < ci.length
    ·rw[if_pos (by omega),if_pos ⟨by rw[e];exact aqj,h3⟩]
    ·rw[if_neg (by omega),if_neg (λz=>h3 z.2),aqK (by omega)]
   ·rw[if_neg h2,if_neg];rintro⟨z,h3⟩;rcases aqt.mp z with z|z
    ·omega
    ·exact h1 ⟨z,h3⟩
theorem NT(ci:List (List Int))(l:List Int)(k:Nat)(h:∀y∈l,1<=y):(encl ci l)[k]?=if ((k:Int)+1∈l)/\k < ci.length then some l else ci[k]?:=Yx l l ci k h
theorem dh.again{c:aM}(i:dh c){ci:List (List Int)}(hl:ci.length=c.ci.length)(P:List Int->Prop)
  (h1:∀(k:Nat) (l:List Int),ci[k]?=some l->(P l/\(k:Int)+1∈l)∨c.ci[k]?=some l)
  (h2:∀l,P l->l.Pairwise (· < ·)/\∀y∈l,Vg c y/\ci[(y - 1).toNat]?=some l)
  (h3:∀(k j:Nat) (l:List Int),ci[k]?=some l->c.ci[k]?=some l->c.ci[j]?=some l->(k:Int)+1∈l->¬P l->ci[j]?=some l):dh { c with ci:=ci }:=by
 refine⟨by show ci.length=_;rw[hl,i.len],i.few,i.al,λk l h y hy=>?_,λk l h=>?_,λk l h=>?_,λk j l h hj=>?_⟩
 ·rcases h1 k l h with⟨p,_⟩|h
  ·exact((h2 l p).2 y hy).1
  ·exact i.mem k l h y hy
 ·rcases h1 k l h with⟨_,p⟩|h
  ·exact p
  ·exact i.own k l h
 ·rcases h1 k l h with⟨p,_⟩|h
  ·exact(h2 l p).1
  ·exact i.up k l h
 ·show ci[j]?=some l;have pj:P l->ci[j]?=some l:=λp=>by
   have:=((h2 l p).2 _ hj).2
   rwa [show((j:Int)+1 - 1).toNat=j by omega]at this
  rcases h1 k l h with⟨p,_⟩|h'
  ·exact pj p
  ·by_cases p:P l
   ·exact pj p
   ·exact h3 k j l h h' (i.one k j l h' hj) (i.own k l h') p
theorem dh.at{c:aM}(i:dh c){x:Int}(h:Vg c x):c.ci[(x - 1).toNat]?=some (bf c x):=by
 obtain⟨k,hk,rfl⟩:=zX h;have hk':k < c.ci.length:=by rw[i.len];exact hk
 simp[bf,hk']
theorem dh.self{c:aM}(i:dh c){x:Int}(h:Vg c x):x∈bf c x:=by
 have:=i.own _ _ (i.at h)
 rwa [show(((x - 1).toNat:Nat):Int)+1=x by omega]at this
theorem dh.eq{c:aM}(i:dh c){x y:Int}(h:Vg c x)(hy:y∈bf c x):bf c y=bf c x:=by have v:=i.mem _ _ (i.at h) y hy;have:=i.one _ (y - 1).toNat _ (i.at h) (by rw[show(((y - 1).toNat:Nat):Int)+1=y by omega];exact hy);rw[i.at v]at this;exact aqC this
theorem adT{l:List Int}{i:Int}:i∈sortI l↔i∈l:=by unfold sortI;rw[List.mem_mergeSort]
theorem afb{l:List Int}(h:l.Nodup):(sortI l).Pairwise (· < ·):=by unfold sortI;have srt:=arb (le:=λa b:Int=>decide (a<=b)) (λa b c k1 k2=>by rw[ars]at *;omega) (λa b=>by rw[arl,ars,ars];omega) l;have nd:(l.mergeSort λa b=>decide (a<=b)).Nodup:=(List.mergeSort_perm _ _).nodup_iff.mpr h;refine List.Pairwise.imp₂ (λa b h1 h2=>?_) srt nd;rw[ars]at h1;have:a≠b:=h2;omega
theorem dh.oO{c:aM}(i:dh c){x y:Int}(hx:Vg c x)(hy:Vg c y)(hn:y∉bf c x):dh { c with ci:=encl c.ci (sortI (bf c x++bf c y)) }:=by
 generalize hS:sortI (bf c x++bf c y)=S;have mem:∀z,z∈S↔z∈bf c x∨z∈bf c y:=λz=>by rw[←hS,adT,aqq]
 have vg:∀z∈S,Vg c z:=λz hz=>by
  rcases(mem z).mp hz with h|h
  ·exact i.mem _ _ (i.at hx) z h
  ·exact i.mem _ _ (i.at hy) z h
 have up:S.Pairwise (· < ·):=by
  rw[←hS];refine afb ?_;rw[aqW];have nd:∀{l:List Int},l.Pairwise (· < ·)->l.Nodup:=λh=>h.imp λ{a b} z e=>by omega
  refine⟨nd (i.up _ _ (i.at hx)),nd (i.up _ _ (i.at hy)),λa ha b hb e=>?_⟩;subst e;have e1:=i.eq hx ha;have e2:=i.eq hy hb;rw[e1]at e2;exact hn (e2 ▸ i.self hy)
 have get:=λk=>NT c.ci S k λz hz=>(vg z hz).1;refine i.again (P:=λl=>l=S) (by unfold encl;rw[yw]) (λk l h=>?_) (λl hl=>?_) (λk j l h h' hj hk np=>?_)
 ·rw[get]at h;split at h
  ·next z=>
   cases h;exact .inl ⟨rfl,z.1⟩
  ·exact .inr h
 ·subst hl;refine⟨up,λz hz=>⟨vg z hz,?_⟩⟩;have v:=vg z hz;have e:(((z - 1).toNat:Nat):Int)+1=z:=by omega
  rw[get,e,if_pos ⟨hz,by rw[i.len];omega⟩]
 ·rw[get];by_cases z:(j:Int)+1∈S/\j < c.ci.length
  ·exfalso;have v:=vg _ z.1;have ej:bf c ((j:Int)+1)=l:=by
    have:=i.at v;rw[show((j:Int)+1 - 1).toNat=j by omega,hj]at this;exact(aqC this).symm
   have hk2:(k:Int)+1∈S:=by
    rw[mem];rcases(mem _).mp z.1 with q|q
    ·exact .inl (by rw[←i.eq hx q,ej];exact hk)
    ·exact .inr (by rw[←i.eq hy q,ej];exact hk)
   rw[get,if_pos ⟨hk2,(aqg.mp h').1⟩]at h;exact np (aqC h).symm
  ·rw[if_neg z];exact hj
theorem dh.part{c:aM}(i:dh c){x:Int}(hx:Vg c x):dh { c with ci:=encl (encl c.ci [x]) (rJ c x) }:=by
 have mem:∀z,z∈rJ c x↔z∈bf c x/\z≠x:=λz=>by
  unfold rJ;rw[aqA];simp
 have vg:∀z∈rJ c x,Vg c z:=λz hz=>i.mem _ _ (i.at hx) z ((mem z).mp hz).1;have l1:(encl c.ci [x]).length=c.ci.length:=by unfold encl;rw[yw]
 have get:∀k:Nat,(encl (encl c.ci [x]) (rJ c x))[k]?=if ((k:Int)+1∈rJ c x)/\k < c.ci.length then some (rJ c x) else if ((k:Int)+1=x)/\k < c.ci.length then some [x] else c.ci[k]?:=λk=>by
  rw[NT _ _ _ λz hz=>(vg z hz).1,l1,NT _ _ _ λz hz=>by rw[aql.mp hz];exact hx.1];simp only[aql]
 refine i.again (P:=λl=>l=rJ c x/\l≠[]∨l=[x]) (by unfold encl;rw[yw,yw]) (λk l h=>?_) (λl hl=>?_) (λk j l h h' hj hk np=>?_)
 ·rw[get]at h;split at h
  ·next z=>
   cases h;exact .inl ⟨.inl ⟨rfl,List.ne_nil_of_mem z.1⟩,z.1⟩
  ·split at h
   ·next z=>
    cases h;exact .inl ⟨.inr rfl,by rw[z.1];simp⟩
   ·exact .inr h
 ·rcases hl with⟨rfl,_⟩|rfl
  ·refine⟨(i.up _ _ (i.at hx)).filter _,λz hz=>⟨vg z hz,?_⟩⟩;have v:=vg z hz;have e:(((z - 1).toNat:Nat):Int)+1=z:=by omega
   rw[get,e,if_pos ⟨hz,by rw[i.len];omega⟩]
  ·refine⟨by simp,λz hz=>?_⟩;rw[aql.mp hz];refine⟨hx,?_⟩;have e:(((x - 1).toNat:Nat):Int)+1=x:=by omega
   rw[get,e,if_neg (λz=>((mem x).mp z.1).2 rfl),if_pos ⟨rfl,by rw[i.len];omega⟩]
 ·have key:∀m:Nat,c.ci[m]?=some l->(m:Int)+1∈bf c x->l=bf c x:=λm hm q=>by
   have v:=i.mem _ _ (i.at hx) _ q;have:=i.at v;rw[show((m:Int)+1 - 1).toNat=m by omega,hm,i.eq hx q]at this;exact aqC this
  have out:(k:Int)+1∉bf c x:=λq=>by
   rw[get]at h;by_cases e:(k:Int)+1=x
   ·rw[if_neg (λz=>((mem _).mp z.1).2 e),if_pos ⟨e,(aqg.mp h').1⟩]at h;exact np (.inr (aqC h).symm)
   ·rw[if_pos ⟨(mem _).mpr ⟨q,e⟩,(aqg.mp h').1⟩]at h;have e2:=(aqC h).symm;exact np (.inl ⟨e2,λz=>by rw[z]at hk;cases hk⟩)
  have outj:(j:Int)+1∉bf c x:=λq=>out (key j hj q ▸ hk);have o1:¬((j:Int)+1∈rJ c x/\j < c.ci.length):=λz=>outj ((mem _).mp z.1).1;have o2:¬((j:Int)+1=x/\j < c.ci.length):=λz=>outj (by rw[z.1];exact i.self hx);rw[get,if_neg o1,if_neg o2];exact hj
def Good(held:List Row3)(s:Sd):Prop:=cU s.ear=true/\(∀e,s.due=some e->cU e=true)/\(s.al=true->∃m,(s.o,s.g,m)∈held)
structure Ri(m:Nat)(c:aM):Prop where
 g:∀b∈c.bs,Good c.held b.sd
 en:∀b∈c.bs,b.en.length<=m
theorem Inv.Ve{n s:Nat}{c:aM}(I:Inv n s c):Ri (2 * n) c:=⟨λb hb=>⟨I.ear b hb,I.due b hb,I.rt b hb⟩,I.en⟩
theorem Xk{c:aM}{i:Nat}{e:En}{b:dH}(h:b∈(gH c i e).bs):b∈c.bs∨∃b0,c.bs[i]?=some b0/\b=qO b0 e:=by
 obtain⟨j,hj⟩:=List.mem_iff_getElem?.mp h;rw[yr]at hj;split at hj
 ·next z=>
  subst z;obtain⟨b0,h3,h4⟩:=aq1.mp hj;exact .inr ⟨b0,h3,h4.symm⟩
 ·exact .inl (aqm hj)
theorem Ri.one{m:Nat}{c:aM}(B:Ri m c){i:Nat}{e:En}(h:∀b,c.bs[i]?=some b->Good c.held (go b.sd e)):Ri (m+1) (gH c i e):=by
 refine⟨λb hb=>?_,λb hb=>?_⟩
 ·rcases Xk hb with h1|⟨b0,h1,rfl⟩
  ·exact B.g b h1
  ·exact h b0 h1
 ·rcases Xk hb with h1|⟨b0,h1,rfl⟩
  ·have:=B.en b h1;omega
  ·have:=B.en b0 (aqm h1);simp[qO];omega
theorem Ri.many{m:Nat}{c:aM}(B:Ri m c){p:dH->Bool}{e:En}(h:∀b∈c.bs,p b=true->Good c.held (go b.sd e)):Ri (m+1) (oN p e c):=by
 refine⟨λb hb=>?_,λb hb=>?_⟩
 ·obtain⟨b0,h1,rfl⟩:=aqp.mp hb;cases hp:p b0 with
  |true=>
   rw[if_pos rfl];exact h b0 h1 hp
  |false=>
   rw[if_neg (by simp)];exact B.g b0 h1
 ·obtain⟨b0,h1,rfl⟩:=aqp.mp hb;have:=B.en b0 h1;cases hp:p b0<;>simp[qO]<;>omega
theorem Good.mono{held held':List Row3}{s:Sd}(g:Good held s)(h:∀r∈held,r∈held'):Good held' s:=⟨g.1,g.2.1,λz=>by
 obtain⟨m,hm⟩:=g.2.2 z;exact⟨m,h _ hm⟩⟩
theorem Inv.of{n s n' s':Nat}{c c':aM}(I:Inv n s c)(hn:n<=n')(gr:dh c')(hal:c'.al.length<=n')(ec:c'.count=c.count)(eo:c'.own=c.own)(hd:c'.held.Nodup)(hL:c'.held.length+c'.bs.length<=s')(hE:∀r∈c'.held,r.1∈c'.own/\Vg c' r.2.1/\cU r.2.2=true)(B:Ri (2 * n') c'):Inv n' s' c':=
 ⟨gr,hal,by have:=I.cnt;rw[ec];omega,by rw[ec,eo];exact I.own,by rw[eo];exact I.Om,by have:=I.ownL;rw[eo];omega,hd,hL,hE,λb hb=>(B.g b hb).1,λb hb=>(B.g b hb).2.1,B.en,λb hb=>(B.g b hb).2.2⟩
theorem abv{x:List Int}{p:Nat}(h:cU x=true)(h9:¬9<=x.getD p 0):cU (xK x p)=true:=by
 unfold cU at *;simp only[aqf,ars,aqB]at *;refine⟨by rw[abm];exact h.1,λd hd=>?_⟩;unfold xK at hd;obtain⟨i,hi,rfl⟩:=List.mem_mapIdx.mp hd;have:=h.2 _ (aqR hi);split
 ·next e=>
  subst e;have:x.getD i 0=x[i]:=by simp[hi]
  omega
 ·exact this
theorem Nu{r:Row3}:∀(l acc:List Row3),r∈l.foldl DY acc↔r∈acc∨r∈l
 |[],acc=>by simp
 |x::l,acc=>by
  rw[aq7,Nu l];unfold DY;split
  ·next h=>
   constructor
   ·rintro(z|z)
    ·exact .inl z
    ·exact .inr (aqk _ z)
   ·rintro(z|z)
    ·exact .inl z
    ·rcases aqt.mp z with rfl|z
     ·exact .inl h
     ·exact .inr z
  ·simp[or_assoc]
theorem Q5:∀(l acc:List Row3),acc.Nodup->(l.foldl DY acc).Nodup
 |[],acc,h=>h
 |x::l,acc,h=>by
  rw[aq7];refine Q5 l _ ?_;unfold DY;split
  ·exact h
  ·next z=>
   rw[aqW];exact⟨h,by simp,λa ha b hb e=>z (by rw[aql.mp hb]at e;exact e ▸ ha)⟩
theorem YB:∀(l acc:List Row3),(l.foldl DY acc).length<=acc.length+l.length
 |[],acc=>by simp
 |x::l,acc=>by
  rw[aq7];refine aqE (YB l _) ?_;unfold DY
  split<;>simp<;>omega
def cost:aZ->Nat
 |.enrol ..=>1
 |.bring ..=>1
 |.bear ..=>1
 |.heir ..=>1
 |_=>0
theorem Lj{o room:Int}{e:List Int}{R:List Rw}{x:Res}{d:Dat}{c':aM}(h:wC o e R room x=.ok d c'):x=.ok d c':=by
 unfold wC at h;split at h
 ·exact h
 ·cases h
theorem yq{c:aM}{o:Int}{x:Res}{d:Dat}{c':aM}(h:qY c o x=.ok d c'):o∈c.own/\x=.ok d c':=by
 unfold qY at h;split at h
 ·next z=>exact⟨z,h⟩
 ·cases h
theorem zM{c:aM}{g:Int}{x:Res}{d:Dat}{c':aM}(h:vX c g x=.ok d c'):Vg c g/\x=.ok d c':=by
 unfold vX at h;split at h
 ·next z=>exact⟨z,h⟩
 ·cases h
theorem aaR{e:List Int}{x:Res}{d:Dat}{c':aM}(h:HS e x=.ok d c'):cU e=true/\x=.ok d c':=by
 unfold HS at h;split at h
 ·next z=>exact⟨z,h⟩
 ·cases h
theorem zG{c:aM}{o g:Int}{x:Res}{d:Dat}{c':aM}(h:mj c o g x=.ok d c'):bO c o g≠[]/\x=.ok d c':=by
 unfold mj at h;split at h
 ·cases h
 ·next z=>exact⟨z,h⟩
theorem LC{c:aM}{k:Int}{f:dH->Res}{d:Dat}{c':aM}(h:sE c k f=.ok d c'):∃b,bk c k=some b/\b.sd.al=true/\f b=.ok d c':=by
 unfold sE at h;split at h
 ·cases h
 ·next b hb=>
  split at h
  ·next z=>exact⟨b,hb,z,h⟩
  ·cases h
theorem N8{c:aM}{k:Int}{f:dH->List Int->Res}{d:Dat}{c':aM}(h:markB c k f=.ok d c'):∃b e,bk c k=some b/\b.sd.al=true/\b.sd.due=some e/\f b e=.ok d c':=by
 obtain⟨b,h1,h2,h3⟩:=LC h;split at h3
 ·cases h3
 ·next e he=>exact⟨b,e,h1,h2,he,h3⟩
theorem wM{p:Prop}[Decidable p]{x:cY}{y:Res}{d:Dat}{c':aM}(h:(if p then .no x else y)=Res.ok d c'):¬p/\y=.ok d c':=by
 split at h
 ·cases h
 ·next z=>exact⟨z,h⟩
theorem Tq{p:Prop}[Decidable p]{x:cY}{y:Res}{d:Dat}{c':aM}(h:(if p then y else .no x)=Res.ok d c'):p/\y=.ok d c':=by
 split at h
 ·next z=>exact⟨z,h⟩
 ·cases h
theorem lV{c:aM}{k:Int}{b:dH}(h:bk c k=some b):c.bs[(k - 1).toNat]?=some b/\1<=k/\k<=c.bs.length:=by
 unfold bk at h;split at h
 ·next z=>exact⟨h,z⟩
 ·cases h
theorem Rb(c:aM)(k o g:Int):(Bx c k o g).bs.length=c.bs.length:=by simp[Bx,oN]
theorem Cr(c:aM)(i:Nat)(e:En):(gH c i e).bs.length=c.bs.length:=by simp[gH]
theorem ZQ{n s:Nat}{c c':aM}{d:aZ}{r:Dat}(I:Inv n s c)(hn:c.al.length<=199)(h:dw c d=.ok r c'):Inv (n+1) (s+cost d) c':=by
 have L0:=I.hL;have A0:=I.al;have C0:=I.cnt;have O0:=I.ownL;have up:Ri (2 * (n+1)) c:=⟨I.Ve.g,λb hb=>by have:=I.en b hb;omega⟩;cases d with
 |owner=>
  cases h;refine⟨I.gr.same rfl rfl,by show c.al.length<=_;omega,⟨by show 0<=c.count+1;omega,by show c.count+1<=((n+1:Nat):Int);omega⟩,λo ho=>?_,?_,by simp;omega,I.held,by simp[cost];omega,λr hr=>?_,I.ear,I.due,up.en,I.rt⟩
  ·show 1<=o/\o<=c.count+1;rcases aqq.mp ho with ho|ho
   ·have:=I.own o ho;omega
   ·rw[aql.mp ho];omega
  ·rw[aqW];refine⟨I.Om,by simp,λa ha b hb e=>?_⟩;rw[aql.mp hb]at e;have:=I.own a ha;omega
  ·obtain⟨h1,h2,h3⟩:=I.hE r hr;exact⟨aqP _ h1,h2,h3⟩
 |ground x=>
  obtain⟨hx,h⟩:=Tq h;cases h;refine I.of (by omega) (I.gr.add (by omega) hx) (by simp;omega) rfl rfl I.held (by simp[cost];omega) (λr hr=>?_) ⟨up.g,up.en⟩;obtain⟨h1,h2,h3⟩:=I.hE r hr;refine⟨h1,?_,h3⟩;show 1<=_/\_<=((c.al++[x]).length:Int);rw[aqO];have:=h2.2;exact⟨h2.1,by omega⟩
 |enrol o g m=>
  obtain⟨h1,h⟩:=yq h;obtain⟨h2,h⟩:=zM h;obtain⟨h3,h⟩:=aaR h;obtain⟨h4,h⟩:=wM h;obtain⟨h5,h⟩:=wM h;have h:=Lj h;cases h;refine I.of (by omega) (I.gr.same rfl rfl) (by show c.al.length<=_;omega) rfl rfl ?_ (by simp[cost];omega) (λr hr=>?_) ⟨λb hb=>(up.g b hb).mono λr hr=>aqP _ hr,up.en⟩
  ·rw[aqW];refine⟨I.held,by simp,λa ha b hb e=>?_⟩;rw[aql.mp hb]at e;exact h5 (zW.mpr (e ▸ ha))
  ·rcases aqq.mp hr with hr|hr
   ·exact I.hE r hr
   ·rw[aql.mp hr];exact⟨h1,h2,h3⟩
 |leave o g=>
  obtain⟨h1,h⟩:=yq h;obtain⟨h2,h⟩:=zM h;obtain⟨h3,h⟩:=zG h;obtain⟨h4,h⟩:=wM h;cases h;have sub:∀r∈dropped c o g,r∈c.held:=λr hr=>(aqA.mp hr).1;have ln:(dropped c o g).length<=c.held.length:=aqv _ _;refine I.of (by omega) (I.gr.same rfl rfl) (by show c.al.length<=_;omega) rfl rfl (I.held.filter _) (by simp[cost];omega) (λr hr=>I.hE r (sub r hr)) ⟨λb hb=>⟨(up.g b hb).1,(up.g b hb).2.1,λhal=>?_⟩,up.en⟩;obtain⟨m,hm⟩:=(up.g b hb).2.2 hal;refine⟨m,aqA.mpr ⟨hm,?_⟩⟩;simp only[aqx,Bool.and_eq_false_iff,beq_eq_false_iff_ne];by_cases e:b.sd.o=o/\b.sd.g=g
  ·exfalso;refine h4 (List.any_eq_true.mpr ⟨b,hb,?_⟩);simp[Wz,hal,e.1,e.2]
  ·by_cases e1:b.sd.o=o
   ·exact .inr λz=>e ⟨e1,z⟩
   ·exact .inl e1
 |bring o g e=>
  obtain⟨h1,h⟩:=yq h;obtain⟨h2,h⟩:=zM h;obtain⟨h3,h⟩:=aaR h;obtain⟨h4,h⟩:=zG h;cases h;refine I.of (by omega) (I.gr.same rfl rfl) (by show c.al.length<=_;omega) rfl rfl I.held (by simp[cost];omega) I.hE ⟨λb hb=>?_,λb hb=>?_⟩
  ·rcases aqq.mp hb with hb|hb
   ·exact up.g b hb
   ·rw[aql.mp hb];exact⟨h3,λe z=>(by cases z),λ_=>yG.mp h4⟩
  ·rcases aqq.mp hb with hb|hb
   ·exact up.en b hb
   ·rw[aql.mp hb];simp[Eh]
 |bear k=>
  obtain⟨b0,e0,h1,h2,h3,h⟩:=N8 h;cases h;refine I.of (by omega) (I.gr.same rfl rfl) (by show c.al.length<=_;omega) rfl rfl I.held (by simp[cost];omega) I.hE ⟨λb hb=>?_,λb hb=>?_⟩
  ·rcases aqq.mp hb with hb|hb
   ·exact up.g b hb
   ·rw[aql.mp hb];exact⟨(by decide:cU [0,0,0,0,0,0]=true),λe z=>(by cases z),λ_=>(up.g b0 (aqm (lV h1).1)).2.2 h2⟩
  ·rcases aqq.mp hb with hb|hb
   ·exact up.en b hb
   ·rw[aql.mp hb];simp[Eh]
 |cut k=>
  obtain⟨b0,h1,h2,h⟩:=LC h;have h:=Lj h;cases h;have hm:=aqm (lV h1).1;obtain⟨r,q4,q5⟩:=I.mk1 (I.alive hm h2).1;have je:=tH (I.ear b0 hm) q5;generalize bW b0.sd.ear (firstM c b0.sd.o b0.sd.g)=e at je ⊢;have B:=I.Ve.one (i:=(k - 1).toNat) (e:=.cut e) λb hb=>by
   rw[(lV h1).1]at hb;cases hb;exact⟨je,λe z=>(by cases z;exact je),λ_=>I.rt b0 hm h2⟩
  exact I.of (by omega) (I.gr.same rfl rfl) (by show c.al.length<=_;omega) rfl rfl I.held (by rw[Cr];simp[cost,gH];omega) I.hE ⟨B.g,λb hb=>by have:=B.en b hb;omega⟩
 |tear k p=>
  obtain⟨b0,h1,h2,h⟩:=LC h;obtain⟨h3,h⟩:=Tq h;obtain⟨h4,h⟩:=wM h;cases h;have hm:=aqm (lV h1).1;have B:=I.Ve.one (i:=(k - 1).toNat) (e:=.torn p.toNat) λb hb=>by
   rw[(lV h1).1]at hb;cases hb;exact⟨abv (I.ear b0 hm) h4,I.due b0 hm,I.rt b0 hm⟩
  exact I.of (by omega) (I.gr.same rfl rfl) (by show c.al.length<=_;omega) rfl rfl I.held (by rw[Cr];simp[cost,gH];omega) I.hE ⟨B.g,λb hb=>by have:=B.en b hb;omega⟩
 |die k=>
  obtain⟨b0,h1,h2,h⟩:=LC h;cases h;have hm:=aqm (lV h1).1;have B:=I.Ve.one (i:=(k - 1).toNat) (e:=.died) λb hb=>by
   rw[(lV h1).1]at hb;cases hb;exact⟨I.ear b0 hm,I.due b0 hm,λz=>by cases z⟩
  exact I.of (by omega) (I.gr.same rfl rfl) (by show c.al.length<=_;omega) rfl rfl I.held (by rw[Cr];simp[cost,gH];omega) I.hE ⟨B.g,λb hb=>by have:=B.en b hb;omega⟩
 |sell k o=>
  obtain⟨b0,e0,h1,h2,h3,h⟩:=N8 h;obtain⟨h4,h⟩:=yq h;obtain⟨h5,h⟩:=wM h;obtain⟨h6,h⟩:=zG h;have h:=Lj h;cases h;have hm:=aqm (lV h1).1;obtain⟨r,q4,q5⟩:=I.mk1 h6;have je:=tH (I.ear b0 hm) q5;generalize bW b0.sd.ear (firstM c o b0.sd.g)=e at je ⊢;have B:=I.Ve.one (i:=(k - 1).toNat) (e:=.sold o e) λb hb=>by
   rw[(lV h1).1]at hb;cases hb;exact⟨je,λe z=>(by cases z;exact je),λ_=>yG.mp h6⟩
  have B2:=B.many (p:=λx=>yW k x&&x.sd.al) (e:=.followed o b0.sd.g) λb hb _=>⟨(B.g b hb).1,(B.g b hb).2.1,λ_=>yG.mp h6⟩;exact I.of (by omega) (I.gr.same rfl rfl) (by show c.al.length<=_;omega) rfl rfl I.held (by rw[Rb,Cr];simp[cost,gH,Bx,oN];omega) I.hE ⟨B2.g,λb hb=>by have:=B2.en b hb;omega⟩
 |move k g=>
  obtain⟨b0,e0,h1,h2,h3,h⟩:=N8 h;obtain⟨h4,h⟩:=zM h;obtain⟨h5,h⟩:=wM h;obtain⟨h6,h⟩:=zG h;have h:=Lj h;cases h;have hm:=aqm (lV h1).1;have B:=I.Ve.one (i:=(k - 1).toNat) (e:=.moved g) λb hb=>by
   rw[(lV h1).1]at hb;cases hb;exact⟨I.ear b0 hm,I.due b0 hm,λ_=>yG.mp h6⟩
  have B2:=B.many (p:=λx=>yW k x&&x.sd.al) (e:=.followed b0.sd.o g) λb hb _=>⟨(B.g b hb).1,(B.g b hb).2.1,λ_=>yG.mp h6⟩;exact I.of (by omega) (I.gr.same rfl rfl) (by show c.al.length<=_;omega) rfl rfl I.held (by rw[Rb,Cr];simp[cost,gH,Bx,oN];omega) I.hE ⟨B2.g,λb hb=>by have:=B2.en b hb;omega⟩
 |oO x y=>
  obtain⟨h1,h⟩:=zM h;obtain⟨h2,h⟩:=zM h;obtain⟨h3,h⟩:=wM h;split at h
  ·cases h
  ·cases h;exact I.of (by omega) (I.gr.oO h2 h1 h3) (by show c.al.length<=_;omega) rfl rfl I.held (by show c.held.length+c.bs.length<=_;omega) I.hE ⟨up.g,up.en⟩
 |part x=>
  obtain⟨h1,h⟩:=zM h;obtain⟨h3,h⟩:=wM h;cases h;exact I.of (by omega) (I.gr.part h1) (by show c.al.length<=_;omega) rfl rfl I.held (by show c.held.length+c.bs.length<=_;omega) I.hE ⟨up.g,up.en⟩
 |pass e h'=>
  obtain⟨h1,h⟩:=yq h;obtain⟨h2,h⟩:=yq h;obtain⟨h3,h⟩:=wM h;cases h;have hin:∀r∈c.held,Bo e h' r∈handed c e h':=λr hr=>(Nu _ _).mpr (.inr (aqp.mpr ⟨r,hr,rfl⟩));have hout:∀r∈handed c e h',∃r0∈c.held,Bo e h' r0=r:=λr hr=>by
   rcases(Nu _ _).mp hr with z|z
   ·cases z
   ·obtain⟨r0,z1,z2⟩:=aqp.mp z;exact⟨r0,z1,z2⟩
  have hl:(handed c e h').length<=c.held.length:=by have:=YB (c.held.map (Bo e h')) [];simpa [handed] using this
  have ow:∀o,o∈c.own.filter (λo=>!(o==e))↔o∈c.own/\o≠e:=λo=>by
   rw[aqA];simp
  have g:∀b∈(oN (λb=>(b.sd.o==e)&&b.sd.al) (.passed h') c).bs,Good (handed c e h') b.sd:=λb hb=>by
   obtain⟨b0,hb0,rfl⟩:=aqp.mp hb;have G:=up.g b0 hb0;cases hp:((b0.sd.o==e)&&b0.sd.al) with
   |true=>
    simp only[hp,if_true];refine⟨G.1,G.2.1,λhal=>?_⟩;obtain⟨m,hm⟩:=G.2.2 hal;have:=hin _ hm;simp at hp;rw[hp.1]at this;exact⟨m,by simpa [Bo,qO,go] using this⟩
   |false=>
    simp only[hp];refine⟨G.1,G.2.1,λhal=>?_⟩;obtain⟨m,hm⟩:=G.2.2 hal;have:=hin _ hm;have hal:b0.sd.al=true:=hal;rw[hal]at hp;simp at hp;exact⟨m,by simpa [Bo,hp] using this⟩
  have en:∀b∈(oN (λb=>(b.sd.o==e)&&b.sd.al) (.passed h') c).bs,b.en.length<=2 * (n+1):=λb hb=>by
   obtain⟨b0,hb0,rfl⟩:=aqp.mp hb;have:=I.en b0 hb0
   dsimp only
   split
   ·simp[qO];omega
   ·omega
  refine⟨I.gr.same rfl rfl,by show c.al.length<=_;omega,⟨C0.1,by show c.count<=_;omega⟩,λo ho=>I.own o ((ow o).mp ho).1,I.Om.filter _,?_,Q5 _ _ (by simp),?_,λr hr=>?_,λb hb=>(g b hb).1,λb hb=>(g b hb).2.1,en,λb hb=>(g b hb).2.2⟩
  ·show(c.own.filter _).length<=_
   have:=aqv (λo=>!(o==e)) c.own;omega
  ·show(handed c e h').length+(oN _ _ c).bs.length<=_
   simp[oN];omega
  ·obtain⟨r0,z1,rfl⟩:=hout r hr;obtain⟨q1,q2,q3⟩:=I.hE r0 z1;refine⟨(ow _).mpr ?_,q2,q3⟩;unfold Bo;by_cases z:r0.1=e
   ·simp only[z,if_true];exact⟨h2,λq=>h3 q.symm⟩
   ·simp only[z,if_false];exact⟨q1,z⟩
 |heir e g x=>
  obtain⟨h1,h⟩:=yq h;obtain⟨h2,h⟩:=zM h;obtain⟨h3,h⟩:=Tq h;obtain⟨h4,h⟩:=zG h;split at h
  ·next mk hmk=>
   cases h;obtain⟨r,q4,q5⟩:=I.mk1 h4;have hme:cU mk=true:=Uz q5 ⟨by omega,h3.2⟩ (aqA.mp (List.mem_of_find?_eq_some hmk)).1;refine⟨I.gr.same rfl rfl,by show c.al.length<=_;omega,⟨by show 0<=c.count+1;omega,by show c.count+1<=((n+1:Nat):Int);omega⟩,λo ho=>?_,?_,by simp;omega,?_,by simp[cost];omega,λr hr=>?_,I.ear,I.due,up.en,λb hb hal=>?_⟩
   ·show 1<=o/\o<=c.count+1;rcases aqq.mp ho with ho|ho
    ·have:=I.own o ho;omega
    ·rw[aql.mp ho];omega
   ·rw[aqW];refine⟨I.Om,by simp,λa ha b hb e=>?_⟩;rw[aql.mp hb]at e;have:=I.own a ha;omega
   ·rw[aqW];refine⟨I.held,by simp,λa ha b hb e=>?_⟩;rw[aql.mp hb]at e;have:=I.own _ (I.hE a ha).1;rw[e]at this;simp at this;omega
   ·rcases aqq.mp hr with hr|hr
    ·obtain⟨z1,z2,z3⟩:=I.hE r hr;exact⟨aqP _ z1,z2,z3⟩
    ·rw[aql.mp hr];exact⟨aqZ _ (by simp),h2,hme⟩
   ·obtain⟨m,hm⟩:=I.rt b hb hal;exact⟨m,aqP _ hm⟩
  ·cases h
theorem ae7{n s:Nat}{c c':aM}{d:aZ}{r:Dat}(I:Inv n s c)(hn:n<=199)(h:dw c d=.ok r c'):Inv (n+1) (s+cost d) c':=ZQ I (aqE I.al hn) h
def nB(x:Int):Bool:=decide (0<=x)&&decide (x<=999999999)
def plB(x:Int):Bool:=decide (0<=x)&&decide (x<=5)
theorem lU(M:Mo)(x:Int):iz M [.str "number",.int x]=.ok (.bool (nB x)):=by by_cases h:0<=x<;>simp[iz,uX,nZ,iQ,yh,Ai,h,nB]
theorem iT(M:Mo)(x:Int):iz M [.str "place",.int x]=.ok (.bool (plB x)):=by by_cases h:0<=x<;>simp[iz,uX,nZ,iQ,yh,Ai,h,plB]
theorem adb(M:Mo)(x:List Int)(h:x.length<=1000):iz M [.str "ear",aH x]=.ok (.bool (cU x)):=by have:=Vx M x h;simp[iz,uX,yh,Ai,this]
def fP:aZ->Bool
 |.owner=>true
 |.ground x=>nB x
 |.enrol o g m=>nB o&&nB g&&cU m
 |.leave o g=>nB o&&nB g
 |.bring o g m=>nB o&&nB g&&cU m
 |.bear k=>nB k
 |.cut k=>nB k
 |.tear k p=>nB k&&plB p
 |.sell k o=>nB k&&nB o
 |.move k g=>nB k&&nB g
 |.die k=>nB k
 |.oO x y=>nB x&&nB y
 |.part x=>nB x
 |.pass e h=>nB e&&nB h
 |.heir e g x=>nB e&&nB g&&nB x
def DG:aZ->Prop
 |.enrol _ _ m=>m.length<=1000
 |.bring _ _ m=>m.length<=1000
 |_=>True
theorem iK(M:Mo)(w:Str)(T:List (Str×Dat×Bool))(hk:(zj yu).lookup w=some (.tuple (T.map λt=>.str t.1)))(hl:T.length<=10)(hp:∀t∈T,iz M [.str t.1,t.2.1]=.ok (.bool t.2.2)):FJ M [.tuple (.str w::T.map λt=>t.2.1)]=.ok (.bool (T.all λt=>t.2.2)):=by
 have hs:Rf.cutD (PyData.str w::T.map λt=>t.2.1) (some 1) none=T.map λt=>t.2.1:=Zb _ 1;have hz:wL (T.map λt=>PyData.str t.1) (T.map λt=>t.2.1)=T.map λt=>.tuple [.str t.1,t.2.1]:=by unfold wL;rw[List.zipWith_map_left,List.zipWith_map_right,List.zipWith_self]
 have key:=eU (tg:=bA [3,4]) (te:=aV iz (ak (aq 3) (ak (aq 4) au))) (M:=M) (Z:=[some (.dat (.tuple (.str w::T.map λt=>t.2.1))),some (.dat (.tuple (T.map λt=>.str t.1))),some (.dat (.tuple (T.map λt=>t.2.1))),none,none]) (λ(t:Str×Dat×Bool)=>PyData.tuple [.str t.1,t.2.1]) (λt=>.bool t.2.2) T λt ht=>⟨[some (.dat (.tuple (.str w::T.map λt=>t.2.1))),some (.dat (.tuple (T.map λt=>.str t.1))),some (.dat (.tuple (T.map λt=>t.2.1))),some (.dat (.str t.1)),some (.dat t.2.1)],by simp,by simp[hp t ht]⟩;have ha:Nk (.list (T.map λt=>PyData.bool t.2.2))=.ok (.bool (T.all λt=>t.2.2)):=by
  have e:(T.map λt=>PyData.bool t.2.2)=(T.map λt=>t.2.2).map PyData.bool:=by rw[aqJ];rfl
  rw[e]
  show(match tO _ with
   |some bs=>Out.ok (PyData.bool (bs.all id))
   |none=>.bad)=_
  rw[Dq];simp[List.all_map,aqz]
 have hl2:T.length<=50000:=by omega
 have hne:¬(T.length:Int)+1=0:=by omega
 simp[FJ,X4,hk,hs,hz,key,hl2,ha,hne]
theorem agc(M:Mo)(d:aZ)(hd:DG d):FJ M [d.dat]=.ok (.bool (fP d)):=by
 cases d with
 |owner=>simpa [fP,aZ.dat,Bool.and_assoc] using iK M "owner" [] (by rfl) (by simp) (by simp[lU,iT])
 |ground x=>simpa [fP,aZ.dat,Bool.and_assoc] using iK M "ground" [("number",.int x,nB x)] (by rfl) (by simp) (by simp[lU,iT])
 |enrol o g m=>simpa [fP,aZ.dat,Bool.and_assoc] using iK M "enrol" [("number",.int o,nB o),("number",.int g,nB g),("ear",aH m,cU m)] (by rfl) (by simp) (by simp[lU,iT,adb M m hd])
 |leave o g=>simpa [fP,aZ.dat,Bool.and_assoc] using iK M "leave" [("number",.int o,nB o),("number",.int g,nB g)] (by rfl) (by simp) (by simp[lU,iT])
 |bring o g m=>simpa [fP,aZ.dat,Bool.and_assoc] using iK M "bring" [("number",.int o,nB o),("number",.int g,nB g),("ear",aH m,cU m)] (by rfl) (by simp) (by simp[lU,iT,adb M m hd])
 |bear k=>simpa [fP,aZ.dat,Bool.and_assoc] using iK M "bear" [("number",.int k,nB k)] (by rfl) (by simp) (by simp[lU,iT])
 |cut k=>simpa [fP,aZ.dat,Bool.and_assoc] using iK M "cut" [("number",.int k,nB k)] (by rfl) (by simp) (by simp[lU,iT])
 |tear k p=>simpa [fP,aZ.dat,Bool.and_assoc] using iK M "tear" [("number",.int k,nB k),("place",.int p,plB p)] (by rfl) (by simp) (by simp[lU,iT])
 |sell k o=>simpa [fP,aZ.dat,Bool.and_assoc] using iK M "sell" [("number",.int k,nB k),("number",.int o,nB o)] (by rfl) (by simp) (by simp[lU,iT])
 |move k g=>simpa [fP,aZ.dat,Bool.and_assoc] using iK M "move" [("number",.int k,nB k),("number",.int g,nB g)] (by rfl) (by simp) (by simp[lU,iT])
 |die k=>simpa [fP,aZ.dat,Bool.and_assoc] using iK M "die" [("number",.int k,nB k)] (by rfl) (by simp) (by simp[lU,iT])
 |oO x y=>simpa [fP,aZ.dat,Bool.and_assoc] using iK M "unite" [("number",.int x,nB x),("number",.int y,nB y)] (by rfl) (by simp) (by simp[lU,iT])
 |part x=>simpa [fP,aZ.dat,Bool.and_assoc] using iK M "part" [("number",.int x,nB x)] (by rfl) (by simp) (by simp[lU,iT])
 |pass e h=>simpa [fP,aZ.dat,Bool.and_assoc] using iK M "pass" [("number",.int e,nB e),("number",.int h,nB h)] (by rfl) (by simp) (by simp[lU,iT])
 |heir e g x=>simpa [fP,aZ.dat,Bool.and_assoc] using iK M "heir" [("number",.int e,nB e),("number",.int g,nB g),("number",.int x,nB x)] (by rfl) (by simp) (by simp[lU,iT])
theorem jM{M:Mo}{L:Lay}{o o':bB Dat}{r:Res}(h:Sp M L o r)(e:o'=o):Sp M L o' r:=e ▸ h
section
variable{M:Mo}{L:Lay}{c:aM}(a:At M L c){n s:Nat}(I:Inv n s c)(hs:s<=76)(hn:n<=199)
include a I hs hn
theorem ak5(d:aZ)(hd:DG d)(hf:fP d=true):Sp M L (cQ M [ob L.c,d.dat]) (dw c d):=by
 have hc:=a.hc;have h0:=agc M d hd;rw[hf]at h0;cases d with
 |owner=>
  simp only[aZ.dat]at h0 ⊢;refine jM (agn a I hn) ?_;simp[cQ,cX,h0,hc,aP,gM];cases ig M _<;>rfl
 |ground x=>
  simp only[aZ.dat]at h0 ⊢;refine jM (afc a I hn x) ?_;simp[cQ,cX,h0,hc,aP,oU];cases gG M _<;>rfl
 |enrol o g m=>
  simp only[aZ.dat]at h0 ⊢;refine jM (ahc a I hs o g m hd) ?_;simp[cQ,cX,h0,hc,aP,vB];cases dU M _<;>rfl
 |leave o g=>
  simp only[aZ.dat]at h0 ⊢;refine jM (agi a I hs o g) ?_;simp[cQ,cX,h0,hc,aP,vM];cases fW M _<;>rfl
 |bring o g m=>
  simp only[aZ.dat]at h0 ⊢;refine jM (ag8 a I hs o g m hd) ?_;simp[cQ,cX,h0,hc,aP,vD];cases fY M _<;>rfl
 |bear k=>
  simp only[aZ.dat]at h0 ⊢;refine jM (ajg a I hs k) ?_;simp[cQ,cX,h0,hc,aP,wB];cases iW M _<;>rfl
 |cut k=>
  simp only[aZ.dat]at h0 ⊢;refine jM (akP a I hs (by omega) k) ?_;simp[cQ,cX,h0,hc,aP,yM];cases jE M _<;>rfl
 |tear k p=>
  simp only[aZ.dat]at h0 ⊢;refine jM (ajm a I hs k p (by omega)) ?_;simp[cQ,cX,h0,hc,aP,xM];cases fK M _<;>rfl
 |sell k o=>
  simp only[aZ.dat]at h0 ⊢;refine jM (aio a I hs (by omega) k o) ?_;simp[cQ,cX,h0,hc,aP,xH];cases dJ M _<;>rfl
 |move k g=>
  simp only[aZ.dat]at h0 ⊢;refine jM (ai3 a I hs (by omega) k g) ?_;simp[cQ,cX,h0,hc,aP,wW];cases dN M _<;>rfl
 |die k=>
  simp only[aZ.dat]at h0 ⊢;refine jM (akD a I hs k (by omega)) ?_;simp[cQ,cX,h0,hc,aP,xZ];cases kY M _<;>rfl
 |oO x y=>
  simp only[aZ.dat]at h0 ⊢;refine jM (ahD a I hs (by omega) x y) ?_;simp[cQ,cX,h0,hc,aP,vq];cases fQ M _<;>rfl
 |part x=>
  simp only[aZ.dat]at h0 ⊢;refine jM (aiG a I hs (by omega) x) ?_;simp[cQ,cX,h0,hc,aP,wU];cases jP M _<;>rfl
 |pass e h=>
  simp only[aZ.dat]at h0 ⊢;refine jM (ajv a I hs (by omega) e h) ?_;simp[cQ,cX,h0,hc,aP,tG];cases fO M _<;>rfl
 |heir e g x=>
  simp only[aZ.dat]at h0 ⊢;refine jM (aj3 a I hs (by omega) e g x) ?_;simp[cQ,cX,h0,hc,aP,qX];cases cW M _<;>rfl
end
theorem aev{c:aM}{d:aZ}{x:cY}(h:dw c d=.no x):uo.lookup x.cls=some true:=by cases d<;>simp only[dw,qY,vX,HS,mj,wC,sE,markB,lY]at h<;>(repeat' split at h)<;>cases h<;>simp[uo]
def Wv(c:aM)(d:aZ):aM:=match dw c d with
 |.ok _ c'=>c'
 |.no _=>c
section
variable{M:Mo}{L:Lay}{c:aM}(a:At M L c){n s:Nat}(I:Inv n s c)(hs:s<=76)(hn:n<=199)
include I hn
omit hn in
theorem ael(d:aZ)(hn:n<=199):Inv (n+1) (s+cost d) (Wv c d):=by
 unfold Wv;cases h:dw c d with
 |ok r c'=>exact ae7 I hn h
 |no x=>
  have h1:=I.hL;have h2:=I.al;exact I.of (by omega) I.gr (by show c.al.length<=_;omega) rfl rfl I.held (by show c.held.length+c.bs.length<=_;omega) I.hE ⟨I.Ve.g,λb hb=>by have:=I.en b hb;omega⟩
include a hs
end
def K9(f:Int):Int:=if f=9 then -1 else if f=8 then 3 else if f=7 then 2 else if f=6 then 1 else if f=5 then 1 else 0
def Lf(d f:Int):Int:=Np 0 (if d+K9 f < 9 then d+K9 f else 9)
def Pq(x f:List Int):List Int:=(x.zip f).map λp=>Lf p.1 p.2
theorem acI(M:Mo)(x0 x1:Option Cell)(acc:List Dat)(d f:Int)(x5:Option Cell)(hf:0<=f/\f < 10)(hl:acc.length < 1000):∃x5',Oe M [x0,x1,some (.mut acc),some (.dat (.int d)),some (.dat (.int f)),x5]=.next [x0,x1,some (.mut (acc++[.int (Lf d f)])),some (.dat (.int d)),some (.dat (.int f)),x5'] M:=by
 have hl2:acc.length < 100000:=by omega
 have key:∀k:Nat,k < 10->([0,0,0,0,0,1,1,2,3,-1]:List Int)[k]?=some (K9 k):=by decide
 obtain⟨k,rfl⟩:∃k:Nat,f=k:=⟨f.toNat,by omega⟩;have hk:=key k (by omega);have h2:atI (([0,0,0,0,0,1,1,2,3,-1]:List Int).map PyData.int) (k:Int)=some (.int (K9 k)):=atI_nat (by rw[aqs,hk];rfl);refine⟨some (.dat (.int (K9 k))),?_⟩;have h3:bh (aF 5) (gOf (aA aO (bK (ak (qC (.int 0)) (ak (qC (.int 0)) (ak (qC (.int 0)) (ak (qC (.int 0)) (ak (qC (.int 0)) (ak (qC (.int 1)) (ak (qC (.int 1)) (ak (qC (.int 2)) (ak (qC (.int 3)) (ak (eO Ol (qC (.int 1))) au))))))))))) (ao 4))) M [x0,x1,some (.mut acc),some (.dat (.int d)),some (.dat (.int k)),x5]=.next [x0,x1,some (.mut acc),some (.dat (.int d)),some (.dat (.int k)),some (.dat (.int (K9 k)))] M:=by
  show(((match atI (([0,0,0,0,0,1,1,2,3,-1]:List Int).map PyData.int) (k:Int) with
   |some d=>Out.ok d
   |none=>.bad).at M).then _ λd M'=>_)=_
  rw[h2];rfl
 show aD _ _ _ _=_;rw[ah0,h3];simp[hl2,Lf,Np]
theorem Vl(M:Mo)(x0 x1:Option Cell):∀(ps:List (Int×Int)) (acc:List Dat) (x3 x4 x5:Option Cell),(∀p∈ps,0<=p.2/\p.2 < 10)->acc.length+ps.length<=500->∃x3' x4' x5',fB (bA [3,4]) Oe (ps.map pD) M [x0,x1,some (.mut acc),x3,x4,x5]=.next [x0,x1,some (.mut (acc++ps.map λp=>.int (Lf p.1 p.2))),x3',x4',x5'] M
 |[],acc,x3,x4,x5,_,_=>⟨x3,x4,x5,by simp[fB]⟩
 |p::ps,acc,x3,x4,x5,h,hl=>by
  rw[aqu]at hl;obtain⟨x5',e⟩:=acI M x0 x1 acc p.1 p.2 x5 (h p aqj) (by omega);obtain⟨y3,y4,y5,ih⟩:=Vl M x0 x1 ps (acc++[.int (Lf p.1 p.2)]) (some (.dat (.int p.1))) (some (.dat (.int p.2))) x5' (λq hq=>h q (aqk _ hq)) (by simp;omega);refine⟨y3,y4,y5,?_⟩;rw[aqh,gR (Z1:=[x0,x1,some (.mut acc),some (.dat (.int p.1)),some (.dat (.int p.2)),x5]) (by simp[pD]) e,ih];simp
theorem af0(M:Mo)(x f:List Int)(hx:x.length<=100)(hf:∀d∈f,0<=d/\d < 10):Jp M [aH x,lI f]=.ok (aH (Pq x f)):=by obtain⟨y3,y4,y5,e⟩:=Vl M (some (.dat (aH x))) (some (.dat (lI f))) (x.zip f) [] none none none (λp hp=>hf _ (List.of_mem_zip hp).2) (by simp;omega);simp[Jp,Xh,yH,e,Pq]
def Fg(f:List Int)(m:Int)(x:List Int):List Int:=if m < 4 then Pq x f else yU f m
theorem abG(M:Mo)(x f:List Int)(m:Int)(hx:x.length<=100)(hl:f.length<=1000)(hf:∀d∈f,0<=d/\d < 10):v7 M [lI f,.int m,aH x]=.ok (aH (Fg f m x)):=by have h1:=af0 M x f hx hf;have h2:=U7 M f m hl;unfold Fg;by_cases h:m < 4<;>simp[v7,KR,h,h1,h2]
theorem aac{x:List Int}(h:x.length=6)(h2:∀d∈x,0<=d/\d < 10):cU x=true:=by unfold cU;simp only[aqf,ars,aqB];refine⟨h,λd hd=>?_⟩;have:=h2 d hd;omega
theorem acL{x f:List Int}(hx:x.length=6)(hf:f.length=6):cU (Pq x f)=true:=by
 refine aac (by simp[Pq];omega) λd hd=>?_;obtain⟨p,hp,rfl⟩:=aqp.mp hd;unfold Lf Np
 split<;>split<;>omega
theorem abp{f x:List Int}{m:Int}(hx:x.length=6)(hl:f.length=6)(hf:∀d∈f,0<=d/\d < 10):cU (Fg f m x)=true:=by
 unfold Fg;split
 ·exact acL hx hl
 ·refine aac ?_ (aeN hf);unfold yU;split
  ·simpa using hl
  ·split
   ·simpa using hl
   ·exact hl
def j8(f many:Int)(sure:Bool):Int:=if sure then 1+f % (if many > 1 then many else 1) else f % (many+2)
theorem Za(M:Mo)(f many:Int)(sure:Bool)(hm:0<=many):jG M [.int f,.int many,.bool sure]=.ok (.int (j8 f many sure)):=by
 have h2:0 < many+2:=by omega
 have h3:0 < (if 1 < many then many else 1):=by split<;>omega
 cases sure
 ·simp[jG,WM,j8,h2]
 ·simp[jG,WM,j8,h3]
theorem BK{f many:Int}{sure:Bool}(hf:0<=f/\f<=1000)(hm:0<=many):nB (j8 f many sure)=true:=by
 unfold j8 nB;have key:∀m:Int,0 < m->0<=f % m/\f % m<=f:=λm h=>⟨Int.emod_nonneg _ (by omega),by
  have h1:=Int.mul_ediv_add_emod f m;have h2:=Int.mul_nonneg (by omega:0<=m) (Int.ediv_nonneg hf.1 (by omega:0<=m))
  omega⟩
 simp only[aqf,ars];cases sure
 ·have:=key (many+2) (by omega);simp;omega
 ·have:=key (if many > 1 then many else 1) (by split<;>omega);simp only[if_true];omega
abbrev dd(M:Mo)(w:Str)(one two:Int)(p base:List Int)(n0 n1 n2:Int):Out Dat:=fV M [.str w,.int one,.int two,lI p,.tuple [.int n0,.int n1,.int n2],aH base]
def eG(p:List Int):Bool:=!(p.getD 6 0==9)
def Ik(p base:List Int):List Int:=Fg (p.drop 8) (p.getD 7 0) base
def grT(f:Int):Int:=if f=9 then 8 else if f=8 then 7 else if f=7 then 6 else if f=6 then 5 else if f=5 then 1 else if f=4 then 0 else f
def Fp(p base:List Int):List Int:=if p.getD 7 0 < 6 then[0,0,0,0,0,0] else Ik p base
structure Pts(p base:List Int):Prop where
 len:p.length=14
 dig:∀d∈p,0<=d/\d < 10
 base:base.length=6
theorem akZ{p:List Int}(h:p.length=14):∃a b c d e f g i j k l m n o:Int,p=[a,b,c,d,e,f,g,i,j,k,l,m,n,o]:=by
 match p,h with
 |[a,b,c,d,e,f,g,i,j,k,l,m,n,o],_=>exact⟨a,b,c,d,e,f,g,i,j,k,l,m,n,o,rfl⟩
theorem Pts.mark{p base:List Int}(P:Pts p base):cU (Ik p base)=true:=abp P.base (by rw[arh,P.len]) λd hd=>P.dig d (List.mem_of_mem_drop hd)
theorem Pts.bring{p base:List Int}(P:Pts p base):cU (Fp p base)=true:=by
 unfold Fp;split
 ·decide
 ·exact P.mark
section
variable(M:Mo){p base:List Int}(P:Pts p base)(one two n0 n1 n2:Int)(h0:0<=n0)(h1:0<=n1)(h2:0<=n2)
include P h0 h1 h2
theorem aeU :
  dd M "owner" one two p base n0 n1 n2=.ok (aZ.dat (.owner))/\
  dd M "ground" one two p base n0 n1 n2=.ok (aZ.dat (.ground (grT (p.getD 7 0)+4 * (if eG p then 0 else 1))))/\
  dd M "enrol" one two p base n0 n1 n2=.ok (aZ.dat (.enrol (j8 one n0 (eG p)) (j8 two n1 (eG p)) (Ik p base)))/\
  dd M "bring" one two p base n0 n1 n2=.ok (aZ.dat (.bring (j8 one n0 (eG p)) (j8 two n1 (eG p)) (Fp p base)))/\
  dd M "leave" one two p base n0 n1 n2=.ok (aZ.dat (.leave (j8 one n0 (eG p)) (j8 two n1 (eG p))))/\
  dd M "heir" one two p base n0 n1 n2=.ok (aZ.dat (.heir (j8 one n0 (eG p)) (j8 two n1 (eG p)) (p.getD 7 0 % 4)))/\
  dd M "pass" one two p base n0 n1 n2=.ok (aZ.dat (.pass (j8 one n0 (eG p)) (j8 two n0 (eG p))))/\
  dd M "unite" one two p base n0 n1 n2=.ok (aZ.dat (.oO (j8 one n1 (eG p)) (j8 two n1 (eG p))))/\
  dd M "part" one two p base n0 n1 n2=.ok (aZ.dat (.part (j8 one n1 (eG p))))/\
  dd M "tear" one two p base n0 n1 n2=.ok (aZ.dat (.tear (j8 one n2 (eG p)) (p.getD 7 0 % 6)))/\
  dd M "sell" one two p base n0 n1 n2=.ok (aZ.dat (.sell (j8 one n2 (eG p)) (j8 two n0 (eG p))))/\
  dd M "move" one two p base n0 n1 n2=.ok (aZ.dat (.move (j8 one n2 (eG p)) (j8 two n1 (eG p))))/\
  dd M "bear" one two p base n0 n1 n2=.ok (aZ.dat (.bear (j8 one n2 (eG p))))/\
  dd M "cut" one two p base n0 n1 n2=.ok (aZ.dat (.cut (j8 one n2 (eG p))))/\
  dd M "die" one two p base n0 n1 n2=.ok (aZ.dat (.die (j8 one n2 (eG p)))):=by
 have hm:=abG M base (p.drop 8) (p.getD 7 0) (by rw[P.base];decide) (by rw[arh,P.len];decide) λd hd=>P.dig d (List.mem_of_mem_drop hd);have hr0:=λf=>Za M f n0 (eG p) h0;have hr1:=λf=>Za M f n1 (eG p) h1;have hr2:=λf=>Za M f n2 (eG p) h2;have hd:=P.dig;have hbr:Fp p base=if p.getD 7 0 < 6 then[0,0,0,0,0,0] else Ik p base:=rfl
 have hmp:Ik p base=Fg (p.drop 8) (p.getD 7 0) base:=rfl;have hsb:eG p=!(p.getD 6 0==9):=rfl;obtain⟨x0,x1,x2,x3,x4,x5,x6,x7,x8,x9,x10,x11,x12,x13,rfl⟩:=akZ P.len;generalize hp:[x0,x1,x2,x3,x4,x5,x6,x7,x8,x9,x10,x11,x12,x13]=p at *;have h6:p.getD 6 0=x6:=by rw[←hp];rfl
 have h7:p.getD 7 0=x7:=by rw[←hp];rfl
 have h8:p.drop 8=[x8,x9,x10,x11,x12,x13]:=by rw[←hp];rfl
 have hx7:=hd x7 (by rw[←hp];simp);rw[h7,h8]at hm hmp;rw[h7]at hbr;rw[h6]at hsb;simp only[h7];generalize eG p=su at *;generalize Ik p base=mk at *;generalize Fp p base=br at *;have c1:Rf.cutD (p.map PyData.int) (some 8) (some 14)=[PyData.int x8,.int x9,.int x10,.int x11,.int x12,.int x13]:=by rw[←hp];rfl
 have c2:atI (p.map PyData.int) 7=some (.int x7):=by rw[←hp];rfl
 have c3:atI (p.map PyData.int) 6=some (.int x6):=by rw[←hp];rfl
 have hm:v7 M [.list [PyData.int x8,.int x9,.int x10,.int x11,.int x12,.int x13],.int x7,aH base]=.ok (aH mk):=by rw[hmp];exact hm
 have key:∀k:Nat,k < 10->([0,1,2,3,0,1,5,6,7,8]:List Int)[k]?=some (grT k):=by decide
 have hk:atI (([0,1,2,3,0,1,5,6,7,8]:List Int).map PyData.int) x7=some (.int (grT x7)):=by obtain⟨k,rfl⟩:∃k:Nat,x7=k:=⟨x7.toNat,by omega⟩;exact atI_nat (by rw[aqs,key k (by omega)];rfl)
 simp at hk;have hm4:∀z,decide (CMul 4 z)=true:=λz=>aft (by decide);clear hp hd P;refine⟨?_,?_,?_,?_,?_,?_,?_,?_,?_,?_,?_,?_,?_,?_,?_⟩
 ·simp[dd,fV,jK,c1,c2,c3,hm,←hsb,hr0,hr1,hr2,aZ.dat]
 ·cases su<;>simp[dd,fV,jK,c1,c2,c3,hm,←hsb,hk,hm4,Rf.intD,aZ.dat]
 ·simp[dd,fV,jK,c1,c2,c3,hm,←hsb,hr0,hr1,hr2,aZ.dat]
 ·by_cases h76:x7 < 6
  ·rw[if_pos h76]at hbr;simp[dd,fV,jK,c1,c2,c3,hm,←hsb,hr0,hr1,hr2,aZ.dat,h76,hbr]
  ·rw[if_neg h76]at hbr;simp[dd,fV,jK,c1,c2,c3,hm,←hsb,hr0,hr1,hr2,aZ.dat,h76,hbr]
 ·simp[dd,fV,jK,c1,c2,c3,hm,←hsb,hr0,hr1,hr2,aZ.dat]
 ·simp[dd,fV,jK,c1,c2,c3,hm,←hsb,hr0,hr1,hr2,aZ.dat]
 ·simp[dd,fV,jK,c1,c2,c3,hm,←hsb,hr0,hr1,hr2,aZ.dat]
 ·simp[dd,fV,jK,c1,c2,c3,hm,←hsb,hr0,hr1,hr2,aZ.dat]
 ·simp[dd,fV,jK,c1,c2,c3,hm,←hsb,hr0,hr1,hr2,aZ.dat]
 ·simp[dd,fV,jK,c1,c2,c3,hm,←hsb,hr0,hr1,hr2,aZ.dat]
 ·simp[dd,fV,jK,c1,c2,c3,hm,←hsb,hr0,hr1,hr2,aZ.dat]
 ·simp[dd,fV,jK,c1,c2,c3,hm,←hsb,hr0,hr1,hr2,aZ.dat]
 ·simp[dd,fV,jK,c1,c2,c3,hm,←hsb,hr0,hr1,hr2,aZ.dat]
 ·simp[dd,fV,jK,c1,c2,c3,hm,←hsb,hr0,hr1,hr2,aZ.dat]
 ·simp[dd,fV,jK,c1,c2,c3,hm,←hsb,hr0,hr1,hr2,aZ.dat]
theorem XM{w:Str}(hw:w∈(["owner","ground","enrol","bring","leave","heir","pass","unite","part","tear","sell","move","bear","cut","die"]:List Str))(ho:0<=one/\one<=1000)(ht:0<=two/\two<=1000):∃d:aZ,fV M [.str w,.int one,.int two,lI p,.tuple [.int n0,.int n1,.int n2],aH base]=.ok d.dat/\fP d=true/\DG d:=by
 have r10:=BK (f:=one) (sure:=eG p) ho h0;have r11:=BK (f:=one) (sure:=eG p) ho h1;have r12:=BK (f:=one) (sure:=eG p) ho h2;have r20:=BK (f:=two) (sure:=eG p) ht h0;have r21:=BK (f:=two) (sure:=eG p) ht h1;have r22:=BK (f:=two) (sure:=eG p) ht h2;have m1:=P.mark;have m2:=P.bring;have l1:(Ik p base).length<=1000:=by rw[fu m1];decide
 have l2:(Fp p base).length<=1000:=by rw[fu m2];decide
 have h7:0<=p.getD 7 0/\p.getD 7 0 < 10:=P.dig _ (by
  have:=P.len;rw[List.getD_eq_getElem?_getD,aqi (by omega)];exact aqR _)
 have q4:nB (p.getD 7 0 % 4)=true:=by unfold nB;simp only[aqf,ars];omega
 have q6:plB (p.getD 7 0 % 6)=true:=by unfold plB;simp only[aqf,ars];omega
 have qg:nB (grT (p.getD 7 0)+4 * (if eG p then 0 else 1))=true:=by
  unfold nB grT;simp only[aqf,ars]
  split<;>(repeat' split)<;>omega
 simp only[aqt,aqM,or_false]at hw;obtain⟨d0,d1,d2,d3,d4,d5,d6,d7,d8,d9,d10,d11,d12,d13,d14⟩:=aeU M P one two n0 n1 n2 h0 h1 h2;rcases hw with rfl|rfl|rfl|rfl|rfl|rfl|rfl|rfl|rfl|rfl|rfl|rfl|rfl|rfl|rfl
 ·exact⟨_,d0,by simp[fP,r10,r11,r12,r20,r21,r22,m1,m2,q4,q6,-List.getD_eq_getElem?_getD],by first | trivial | assumption⟩
 ·exact⟨_,d1,qg,by first | trivial | assumption⟩
 ·exact⟨_,d2,by simp[fP,r10,r11,r12,r20,r21,r22,m1,m2,q4,q6,-List.getD_eq_getElem?_getD],by first | trivial | assumption⟩
 ·exact⟨_,d3,by simp[fP,r10,r11,r12,r20,r21,r22,m1,m2,q4,q6,-List.getD_eq_getElem?_getD],by first | trivial | assumption⟩
 ·exact⟨_,d4,by simp[fP,r10,r11,r12,r20,r21,r22,m1,m2,q4,q6,-List.getD_eq_getElem?_getD],by first | trivial | assumption⟩
 ·exact⟨_,d5,by simp[fP,r10,r11,r12,r20,r21,r22,m1,m2,q4,q6,-List.getD_eq_getElem?_getD],by first | trivial | assumption⟩
 ·exact⟨_,d6,by simp[fP,r10,r11,r12,r20,r21,r22,m1,m2,q4,q6,-List.getD_eq_getElem?_getD],by first | trivial | assumption⟩
 ·exact⟨_,d7,by simp[fP,r10,r11,r12,r20,r21,r22,m1,m2,q4,q6,-List.getD_eq_getElem?_getD],by first | trivial | assumption⟩
 ·exact⟨_,d8,by simp[fP,r10,r11,r12,r20,r21,r22,m1,m2,q4,q6,-List.getD_eq_getElem?_getD],by first | trivial | assumption⟩
 ·exact⟨_,d9,by simp[fP,r10,r11,r12,r20,r21,r22,m1,m2,q4,q6,-List.getD_eq_getElem?_getD],by first | trivial | assumption⟩
 ·exact⟨_,d10,by simp[fP,r10,r11,r12,r20,r21,r22,m1,m2,q4,q6,-List.getD_eq_getElem?_getD],by first | trivial | assumption⟩
 ·exact⟨_,d11,by simp[fP,r10,r11,r12,r20,r21,r22,m1,m2,q4,q6,-List.getD_eq_getElem?_getD],by first | trivial | assumption⟩
 ·exact⟨_,d12,by simp[fP,r10,r11,r12,r20,r21,r22,m1,m2,q4,q6,-List.getD_eq_getElem?_getD],by first | trivial | assumption⟩
 ·exact⟨_,d13,by simp[fP,r10,r11,r12,r20,r21,r22,m1,m2,q4,q6,-List.getD_eq_getElem?_getD],by first | trivial | assumption⟩
 ·exact⟨_,d14,by simp[fP,r10,r11,r12,r20,r21,r22,m1,m2,q4,q6,-List.getD_eq_getElem?_getD],by first | trivial | assumption⟩
end
abbrev words:List Str:=["owner","ground","enrol","bring","leave","heir","pass","unite","part","tear","sell","move","bear","cut","die"]
def Ut:List Str:=["tear","cut","bring","sell","move","enrol","bear","tear","cut","sell","move","unite","part","heir","pass","die","leave","ground","owner","enrol","tear","sell","bring","bear","cut"]
theorem ahH(M:Mo)(f:Int):∃w∈words,vU M [.int f]=.ok (.str w):=by
 have h1:0<=f % 25/\f % 25 < 25:=by omega
 obtain⟨k,hk⟩:∃k:Nat,f % 25=k:=⟨(f % 25).toNat,by omega⟩;have hl:k < Ut.length:=by show k < 25;omega
 have h2:atI (Ut.map PyData.str) (k:Int)=some (.str Ut[k]):=atI_nat (by rw[aqs,aqi hl];rfl);have h3:∀w∈Ut,w∈words:=by simp[Ut]
 refine⟨Ut[k],h3 _ (aqR hl),?_⟩;generalize Ut[k]=z at h2;simp[Ut]at h2;simp[vU,Ko,hk,h2]
def tK(h:Int):List (Str×Int×Int):=if h % 8=7 then[] else[("ground",0,0),("owner",0,0),("owner",0,0),("enrol",0,0),("enrol",1,0),("bring",0,0),("cut",0,0),("bring",1,0),("cut",1,0),("ground",0,0),("enrol",0,1)]
def Ak(r:Str×Int×Int):Dat:=.tuple [.str r.1,.int r.2.1,.int r.2.2]
theorem adn(M:Mo)(h:Int):uR M [.int h]=.ok (.list ((tK h).map Ak)):=by unfold tK;by_cases e:h % 8=7<;>simp[uR,DR,e,Ak]
theorem agB{h:Int}:∀r∈tK h,r.1∈words/\(0<=r.2.1/\r.2.1<=1000)/\0<=r.2.2/\r.2.2<=1000:=by
 unfold tK;split
 ·simp
 ·simp
theorem Inv.mono{n s n' s':Nat}{c:aM}(I:Inv n s c)(h1:n<=n')(h2:s<=s'):Inv n' s' c:=
 I.of h1 I.gr (aqE I.al h1) rfl rfl I.held (aqE I.hL h2) I.hE ⟨I.Ve.g,λb hb=>by have:=I.en b hb;omega⟩
theorem ag3(d:aZ):cost d<=1:=by cases d<;>simp[cost]
theorem amF:Inv 0 0 ⟨0,[],[],[],[],[]⟩:=⟨⟨rfl,by simp,by simp,by simp,by simp,by simp,by simp⟩,by simp,by simp,by simp,by simp,by simp,by simp,by simp,by simp,by simp,by simp,by simp,by simp⟩
theorem agd(x:Int){base:List Int}(h:base.length=6):Pts (rowOf x 14 10) base:=⟨aaJ ..,adx (by decide) _ _,h⟩
theorem Ge(x:Int)(k:Nat)(h:k < 14):atI ((rowOf x 14 10).map PyData.int) (k:Int)=some (.int ((rowOf x 14 10).getD k 0))/\0<=(rowOf x 14 10).getD k 0/\(rowOf x 14 10).getD k 0<=9:=by
 have hl:k < (rowOf x 14 10).length:=by rw[aaJ];exact h
 refine⟨Zi _ k hl,?_⟩;rw[List.getD_eq_getElem?_getD,aqi hl];have:=adx (by decide) x 14 _ (aqR hl);simp;omega
def amC:aM:=⟨0,[],[],[],[],[]⟩
def L0:Lay:=⟨0,2,5,7,[],[]⟩
theorem alV:∃M L,L.c=0/\pJ [⟨"Commons",[]⟩] [ob 0]=.ok .none M/\At M L amC:=by refine⟨_,L0,rfl,by simp[pJ,yP,jQ,tM,yD,uZ,Ae,zf,Ec];rfl,?_⟩;exact⟨rfl,⟨_,_,rfl⟩,rfl,⟨_,rfl⟩,rfl,λi h b z _=>(by cases z),by decide,λp hp=>(by cases hp)⟩
theorem ait(n:Nat)(x:List Int):lk (n+1) (aH x)=true:=by show lk (n+1) (.tuple (x.map PyData.int))=true;rw[lk];exact aeu n x
theorem af6{M:Mo}{L:Lay}{c:aM}{n s:Nat}(a:At M L c)(I:Inv n s c)(hs:s<=1000):pB M [ob L.c]=.ok (iI c):=by have:=I.hL;exact agx a I.gr (by omega) (by omega)
theorem ahw(l:List Int)(lo hi:Option Int):Rf.cutD (l.map PyData.int) lo hi=(Rf.cutD l lo hi).map PyData.int:=by unfold Rf.cutD;rw[aqo,List.map_take,List.map_drop]
theorem agK{α:Type}(l:List α)(a b:Nat)(h:a<=b):(Rf.cutD l (some (a:Int)) (some (b:Int))).length<=b - a:=by unfold Rf.cutD;rw[HT.sIx_nat,HT.sIx_nat,List.length_take];omega
@[simp]theorem aoH (c:aM):aO (iI c) (.int 0)=.ok (lI c.own):=rfl
@[simp]theorem an9 (c:aM):aO (iI c) (.int 1)=.ok (.list ((List.range c.al.length).map (grD c))):=rfl
@[simp]theorem apb (c:aM):aO (iI c) (.int 2)=.ok (.list (c.held.map gY)):=rfl
@[simp]theorem aoZ (c:aM):aO (iI c) (.int 3)=.ok (.list (c.bs.map jx)):=rfl
theorem eq_nil(xs:List Dat)(h:jY 11 xs=true):bR (.list xs) (.list [])=.ok (.bool xs.isEmpty)/\vZ (.list xs) (.list [])=.ok (.bool (!xs.isEmpty)):=by
 have e:eqB (.list xs) (.list [])=.ok xs.isEmpty:=by
  show Out.when (okd 12 (.list xs)&&okd 12 (.list [])) (.ok (PyData.eqv (.list xs) (.list [])))=_;rw[okd,okd,h,aji];cases xs with
  |nil=>rfl
  |cons a r=>rw[ahz];rfl
 exact⟨by unfold bR;rw[e];rfl,by unfold vZ;rw[e];rfl⟩
@[simp]theorem apn (b:dH):aO (jx b) (.int 0)=.ok (.int b.sd.o):=rfl
@[simp]theorem anR (b:dH):aO (jx b) (.int 1)=.ok (.int b.sd.g):=rfl
@[simp]theorem ao9 (b:dH):aO (jx b) (.int 2)=.ok (pY b.sd.due):=rfl
@[simp]theorem apC (b:dH):aO (jx b) (.int 3)=.ok (aH b.sd.ear):=rfl
@[simp]theorem an2 (b:dH):aO (jx b) (.int 4)=.ok (.bool b.sd.al):=rfl
@[simp]theorem aoJ (b:dH):aO (jx b) (.int 5)=.ok (.int b.mo):=rfl
@[simp]theorem apl (b:dH):aO (jx b) (.int 6)=.ok (.tuple (b.fi.dat::b.en.map En.dat)):=rfl
theorem aa8{c:aM}{x:Int}(h:Vg c x):atI ((List.range c.al.length).map (grD c)) (x - 1)=some (.tuple [.int (Ie c x),aH (bf c x)]):=by obtain⟨k,hk,rfl⟩:=zX h;rw[show(k:Int)+1 - 1=(k:Int) by omega,afp];simp[hk,grD]
theorem ajX(neg:Bool)(y:Int)(l:List Int)(h:l.length<=1000):inD neg (.int y) (aH l)=.ok (.bool (neg ^^ decide (y∈l))):=by
 have:=any_ints y l;have h2:(Iw (PyData.int y)&&l.all (Iw ∘ PyData.int))=true:=by simp[Iw,aqz]
 simp[inD,inB,this,h2]
theorem abJ(M:Mo)(c:aM)(i:dh c)(x:Int)(h:Vg c x):vW M [iI c,.int x]=.ok (.int (roomOf c x)):=by
 have h1:=aa8 h;have hc:=i.at h;have hl:(bf c x).length<=50000:=by have:=i.clen hc;omega
 have hne:(bf c x).map (Ie c)≠[]:=λz=>by
  have:=i.self h;rw[List.map_eq_nil_iff.mp z]at this;cases this
 have key:=eU (tg:=aF 2) (te:=aA aO (aA aO (aA aO (ao 0) (qC (.int 1))) (aA lE (ao 2) (qC (.int 1)))) (qC (.int 0))) (M:=M) (Z:=[some (.dat (iI c)),some (.dat (.int x)),none]) PyData.int (λy=>.int (Ie c y)) (bf c x) λy hy=>⟨[some (.dat (iI c)),some (.dat (.int x)),some (.dat (.int y))],by simp,by
  have:=aa8 (i.mem _ _ hc y hy);simp[this]⟩
 have hm:=maxD_ints hne;rw[aqJ]at hm;simp[aqz]at hm;simp[vW,JZ,h1,key,hl,hm,roomOf]
theorem up_eq:∀{S T:List Rw},Ear.Gk S->Ear.Gk T->(∀r,r∈S↔r∈T)->S=T
 |[],[],_,_,_=>rfl
 |[],t::T,_,_,m=>by have:=(m t).mpr aqj;cases this
 |s::S,[],_,_,m=>by have:=(m s).mp aqj;cases this
 |s::S,t::T,hs,ht,m=>by
  have hs':=List.pairwise_cons.mp hs;have ht':=List.pairwise_cons.mp ht;have e:s=t:=by
   rcases aqt.mp ((m s).mp aqj) with h1|h1
   ·exact h1
   rcases aqt.mp ((m t).mpr aqj) with h2|h2
   ·exact h2.symm
   exact absurd (List.lt_trans (ht'.1 s h1) (hs'.1 t h2)) (List.lt_irrefl _)
  subst e;congr 1;refine up_eq hs'.2 ht'.2 λr=>⟨λh=>?_,λh=>?_⟩
  ·rcases aqt.mp ((m r).mp (aqk _ h)) with z|z
   ·subst z;exact absurd (hs'.1 _ h) (List.lt_irrefl _)
   ·exact z
  ·rcases aqt.mp ((m r).mpr (aqk _ h)) with z|z
   ·subst z;exact absurd (ht'.1 _ h) (List.lt_irrefl _)
   ·exact z
theorem aiD(r s:Rw):vZ (Ear.rD r) (Ear.rD s)=.ok (.bool (!decide (r=s))):=by
 have e:PyData.eqv (Ear.rD r) (Ear.rD s)=decide (r=s):=by rw[aqX];simp[Ear.rD,Ear.dT,Prod.ext_iff]
 have:eqB (Ear.rD r) (Ear.rD s)=.ok (decide (r=s)):=by show Out.when (okd 12 (Ear.rD r)&&okd 12 (Ear.rD s)) (.ok (PyData.eqv (Ear.rD r) (Ear.rD s)))=_;rw[KJ 10,KJ 10,e];rfl
 unfold vZ;rw[this];rfl
theorem atI_last{α:Type}(l:List α)(a:α):atI (l++[a]) (-1)=some a:=by
 unfold atI ixN;have:(-1+((l.length:Int)+1)).toNat=l.length:=by omega
 have h2:(1:Int)<=l.length+1:=by omega
 simp[this,h2]
def ql(acc:List Rw)(r:Rw):List Rw:=if acc.getLast?=some r then acc else acc++[r]
theorem aco(M:Mo)(x0:Option Cell)(acc:List Rw)(r:Rw)(h:acc.length<=5000):yN M [x0,some (.mut (acc.map Ear.rD)),some (.dat (Ear.rD r))]=.next [x0,some (.mut ((ql acc r).map Ear.rD)),some (.dat (Ear.rD r))] M:=by
 have h1:=(eq_nil (acc.map Ear.rD) (aaH 9 acc)).1;have h0:acc.length < 100000:=by omega
 rcases List.eq_nil_or_concat acc with rfl|⟨l,a,rfl⟩
 ·simp at h1;simp[yN,h1,ql]
 ·have h2:((l++[a]).map Ear.rD).isEmpty=false:=by simp
  rw[List.concat_eq_append]at *;rw[h2]at h1;rw[List.map_append]at h1 ⊢;have h3:=aiD a r;have h4:=atI_last (l.map Ear.rD) (Ear.rD a);simp at h0;by_cases e:a=r
  ·subst e;simp at h1 h4 h3;simp[yN,h1,h4,h3,ql]
  ·simp[e]at h1 h4 h3;simp[yN,h1,h4,h3,ql,e,h0]
theorem UL(M:Mo)(x0:Option Cell):∀(R acc:List Rw) (x2:Option Cell),acc.length+R.length<=5000->∃y2,fB (aF 2) yN (R.map Ear.rD) M [x0,some (.mut (acc.map Ear.rD)),x2]=.next [x0,some (.mut ((R.foldl ql acc).map Ear.rD)),y2] M
 |[],acc,x2,_=>⟨x2,rfl⟩
 |r::R,acc,x2,h=>by
  rw[aqu]at h;have hl:(ql acc r).length<=acc.length+1:=by
   unfold ql
   split<;>simp
  obtain⟨y2,h2⟩:=UL M x0 R (ql acc r) (some (.dat (Ear.rD r))) (by omega);exact⟨y2,by rw[aqh,gR (Z1:=[x0,some (.mut (acc.map Ear.rD)),some (.dat (Ear.rD r))]) (by simp) (aco M x0 acc r (by omega))];exact h2⟩
theorem Uk:∀(R acc:List Rw),Ear.Gk acc->R.Pairwise (λa b=>Ear.rk a<=Ear.rk b)->(∀a∈acc,∀r∈R,Ear.rk a<=Ear.rk r)->Ear.Gk (R.foldl ql acc)/\∀x,x∈R.foldl ql acc↔x∈acc∨x∈R
 |[],acc,ha,_,_=>⟨ha,by simp⟩
 |r::R,acc,ha,hR,hb=>by
  have hR':=List.pairwise_cons.mp hR;rw[aq7];by_cases e:acc.getLast?=some r
  ·have e1:ql acc r=acc:=by rw[ql,if_pos e]
   rw[e1];obtain⟨k1,k2⟩:=Uk R acc ha hR'.2 λa m x hx=>hb a m x (aqk _ hx);have mr:r∈acc:=List.mem_of_getLast? e;refine⟨k1,λx=>?_⟩;rw[k2,aqt];constructor
   ·rintro(h|h)
    ·exact .inl h
    ·exact .inr (.inr h)
   ·rintro(h|h|h)
    ·exact .inl h
    ·subst h;exact .inl mr
    ·exact .inr h
  ·have e1:ql acc r=acc++[r]:=by rw[ql,if_neg e]
   rw[e1];have hup:Ear.Gk (acc++[r]):=by
    rcases List.eq_nil_or_concat acc with rfl|⟨l,a,rfl⟩
    ·exact List.pairwise_singleton _ _
    ·rw[List.concat_eq_append]at *;have ne:a≠r:=λz=>e (by simp[z]);have lt:Ear.rk a < Ear.rk r:=by
      have:=hb a (by simp) r aqj;by_cases c:Ear.rk a < Ear.rk r
      ·exact c
      ·exact absurd (Ear.XS (List.le_antisymm this (List.not_lt.mp c))) ne
     refine List.pairwise_append.mpr ⟨ha,List.pairwise_singleton _ _,λx hx y hy=>?_⟩;rw[aql.mp hy];rcases aqq.mp hx with hx|hx
     ·exact List.lt_trans ((List.pairwise_append.mp ha).2.2 x hx a (by simp)) lt
     ·rw[aql.mp hx];exact lt
   obtain⟨k1,k2⟩:=Uk R (acc++[r]) hup hR'.2 λa m x hx=>by
    rcases aqq.mp m with m|m
    ·exact hb a m x (aqk _ hx)
    ·rw[aql.mp m];exact hR'.1 x hx
   refine⟨k1,λx=>?_⟩;rw[k2,aqq,aql,aqt,or_assoc]
theorem aeI(R:List Rw):(oH R).Pairwise λa b=>Ear.rk a<=Ear.rk b:=by unfold oH;have srt:=arb (le:=λa b:Ear.Rw=>decide (Ear.rk a<=Ear.rk b)) (λa b c k1 k2=>by rw[ars]at *;exact List.le_trans k1 k2) (λa b=>by rw[arl,ars,ars];exact List.le_total _ _) R;exact srt.imp λh=>by simpa using h
theorem abh(R:List Rw):yZ (.list (R.map Ear.rD))=.ok (.list ((oH R).map Ear.rD)):=by
 cases R with
 |nil=>simp[yZ,intsOf,sortI,oH]
 |cons r R=>
  have h1:intsOf ((r::R).map Ear.rD)=none:=by simp[intsOf,Ear.rD]
  show(match intsOf ((r::R).map Ear.rD) with
   |some l=>Out.ok (PyData.list ((sortI l).map PyData.int))
   |none=>match Bq ((r::R).map Ear.rD) with
    |some R=>.ok (.list ((oH R).map Ear.rD))
    |none=>.bad)=_
  rw[h1,Kz]
theorem ag4(M:Mo)(R:List Rw)(h:R.length<=5000):JD M [.list (R.map Ear.rD)]=.ok (.list ((bG R).map Ear.rD)):=by
 have hl:(oH R).length=R.length:=by simp[oH]
 obtain⟨y2,h1⟩:=UL M (some (.dat (.list (R.map Ear.rD)))) (oH R) [] none (by simp;omega);have h2:=Uk (oH R) [] List.Pairwise.nil (aeI R) (by simp);have e:(oH R).foldl ql []=bG R:=up_eq h2.1 (Nb R) λx=>by
  rw[h2.2,dW];simp[oH]
 rw[e]at h1;simp only[aq4]at h1;simp[JD,XJ,abh,h1]
theorem acR(M:Mo)(x0 x2:Option Cell)(x6 x7 x8:Option Cell)(nD:Dat)(near:List Int)(hn:∀y,inD false (.int y) nD=.ok (.bool (decide (y∈near))))(lo:Int)(acc:List Rw)(i:Int)(b:dH)(h:acc.length<=5000) :
  lK M [x0,some (.dat nD),some (.dat (.int lo)),some (.mut (acc.map Ear.rD)),some (.dat (.int i)),some (.dat (jx b)),x6,x7,x8]=.next [x0,some (.dat nD),some (.dat (.int lo)),some (.mut ((acc++if (b.sd.due.isSome&&!((i+1)==lo))&&(decide (b.sd.g∈near)&&b.sd.al) then[(b.sd.o,b.sd.due.getD [])] else[]).map Ear.rD)),some (.dat (.int i)),some (.dat (jx b)),x6,x7,x8] M:=by
 have h0:acc.length < 100000:=by omega
 have h1:=hn b.sd.g;cases e1:b.sd.al with
 |false=>simp[lK,e1]
 |true=>
  cases e2:b.sd.due with
  |none=>simp[lK,e1,e2,pY,mU]
  |some e=>
   by_cases e3:b.sd.g∈near
   ·by_cases e4:i+1=lo
    ·simp[lK,e1,e2,pY,mU,h1,e3,e4]
    ·simp[lK,e1,e2,pY,mU,h1,e3,e4,h0,Ear.rD,Ear.dT]
   ·simp[lK,e1,e2,pY,mU,h1,e3]
theorem Vd(M:Mo)(x0:Option Cell)(x6 x7 x8:Option Cell)(nD:Dat)(near:List Int)(hn:∀y,inD false (.int y) nD=.ok (.bool (decide (y∈near))))(lo:Int):∀(xs:List (Nat×dH)) (acc:List Rw) (x4 x5:Option Cell),acc.length+xs.length<=5000->∃y4 y5,
  fB (bA [4,5]) lK (xs.map λx=>.tuple [.int (x.1:Int),jx x.2]) M [x0,some (.dat nD),some (.dat (.int lo)),some (.mut (acc.map Ear.rD)),x4,x5,x6,x7,x8]=.next [x0,some (.dat nD),some (.dat (.int lo)),some (.mut ((acc++((xs.filter λx=>(x.2.sd.due.isSome&&!(((x.1:Int)+1)==lo))&&(decide (x.2.sd.g∈near)&&x.2.sd.al)).map λx=>(x.2.sd.o,x.2.sd.due.getD []))).map Ear.rD)),y4,y5,x6,x7,x8] M
 |[],acc,x4,x5,_=>⟨x4,x5,by simp[fB]⟩
 |x::xs,acc,x4,x5,h=>by
  rw[aqu]at h;have hs:=acR M x0 (some (.dat (.int lo))) x6 x7 x8 nD near hn lo acc (x.1:Int) x.2 (by omega);generalize hz:(if (x.2.sd.due.isSome&&!(((x.1:Int)+1)==lo))&&(decide (x.2.sd.g∈near)&&x.2.sd.al) then[(x.2.sd.o,x.2.sd.due.getD [])] else[])=z at hs;have hl:z.length<=1:=by rw[←hz];split<;>simp
  obtain⟨y4,y5,h2⟩:=Vd M x0 x6 x7 x8 nD near hn lo xs (acc++z) (some (.dat (.int x.1))) (some (.dat (jx x.2))) (by rw[aqO];omega);refine⟨y4,y5,?_⟩;rw[aqh,gR (Z1:=[x0,some (.dat nD),some (.dat (.int lo)),some (.mut (acc.map Ear.rD)),some (.dat (.int x.1)),some (.dat (jx x.2)),x6,x7,x8]) (by simp) hs,h2,←hz];congr 6;rw[aqQ]
  split<;>simp
theorem ac9(c:aM):oR 0 (c.bs.map jx)=(c.bs.mapIdx λi b=>(i,b)).map λx=>.tuple [.int (x.1:Int),jx x.2]:=by unfold oR;apply aqH;intro j;simp only[aqs,aqV];cases c.bs[j]?<;>simp
theorem aaZ(M:Mo)(c:aM)(hh:c.held.length<=2000)(hb:c.bs.length<=2000)(nD:Dat)(near:List Int)(hn:∀y,inD false (.int y) nD=.ok (.bool (decide (y∈near))))(lo:Int):zV M [iI c,nD,.int lo]=.ok (.list ((bG (inR c near++Cu c lo near)).map Ear.rD)):=by
 have k1:=gq (tg:=bA [6,7,8]) (tt:=aY (aA (inD false) (ao 7) (ao 1))) (te:=bK (ak (aq 6) (ak (aq 8) au))) (M:=M) (Z:=[some (.dat (iI c)),some (.dat nD),some (.dat (.int lo)),none,none,none,none,none,none]) gY (λr=>decide (r.2.1∈near)) (λr=>Ear.rD (r.1,r.2.2)) c.held λr _=>⟨[some (.dat (iI c)),some (.dat nD),some (.dat (.int lo)),none,none,none,some (.dat (.int r.1)),some (.dat (.int r.2.1)),some (.dat (aH r.2.2))],by simp[gY],by simp[hn],λ_=>by simp[Ear.rD,Ear.dT]⟩;have e1:((c.held.filter λr=>decide (r.2.1∈near)).map λr=>Ear.rD (r.1,r.2.2))=(inR c near).map Ear.rD:=by simp[inR,aqz]
 rw[e1]at k1;have l1:(inR c near).length<=2000:=by unfold inR;rw[aqo];exact aqE (aqv _ _) hh
 obtain⟨y4,y5,k2⟩:=Vd M (some (.dat (iI c))) none none none nD near hn lo (c.bs.mapIdx λi b=>(i,b)) (inR c near) none none (by simp;omega);rw[←ac9]at k2;have e2:((c.bs.mapIdx λi b=>(i,b)).filter λx=>(x.2.sd.due.isSome&&!(((x.1:Int)+1)==lo))&&(decide (x.2.sd.g∈near)&&x.2.sd.al)).map (λx=>(x.2.sd.o,x.2.sd.due.getD []))=Cu c lo near:=rfl;rw[e2]at k2;have l2:(Cu c lo near).length<=2000:=by unfold Cu;rw[aqo];exact aqE (aqv _ _) (by simp;omega)
 have k3:=ag4 M (inR c near++Cu c lo near) (by simp;omega);have h5:c.held.length<=50000:=by omega
 simp[-List.map_append,zV,Kf,k1,h5,k2,k3]
theorem Uy:∀(l:List (Int×Int)),(l.map λp=>if p.2 - p.1 > 0 then p.2 - p.1 else 0).sum=((l.filter λp=>decide (p.1 < p.2)).map λp=>p.2 - p.1).sum
 |[]=>rfl
 |p::l=>by
  rw[aqh,List.sum_cons,Uy l,aqQ];by_cases h:p.1 < p.2
  ·rw[if_pos (by omega),if_pos (by simpa using h),aqh,List.sum_cons]
  ·rw[if_neg (by omega),if_neg (by simpa using h)];omega
theorem Y4(M:Mo)(x y:List Int)(h:x.length<=1000):Bw M [aH x,aH y]=.ok (.int (jX x y)):=by
 have key:=eU (tg:=bA [2,3]) (te:=aA oJ (qC (.int 0)) (aA lE (ao 3) (ao 2))) (M:=M) (Z:=[some (.dat (aH x)),some (.dat (aH y)),none,none]) pD (λp=>.int (if p.2 - p.1 > 0 then p.2 - p.1 else 0)) (x.zip y) λp _=>⟨[some (.dat (aH x)),some (.dat (aH y)),some (.dat (.int p.1)),some (.dat (.int p.2))],by simp[pD],by simp⟩;have hs:=Vw ((x.zip y).map λp=>if p.2 - p.1 > 0 then p.2 - p.1 else 0);rw[Uy,aqJ]at hs;have hz2:min x.length y.length<=50000:=by omega
 simp[Bw,Uh,yH,key,hz2];simp[aqz]at hs;simp[hs,jX]
theorem akk(M:Mo)(x y:List Int)(h:x.length<=1000):Qy M [aH x,aH y]=.ok (aH (bW x y)):=by
 have key:=eU (tg:=bA [2,3]) (te:=aA oJ (ao 2) (ao 3)) (M:=M) (Z:=[some (.dat (aH x)),some (.dat (aH y)),none,none]) pD (λp=>.int (if p.2 > p.1 then p.2 else p.1)) (x.zip y) λp _=>⟨[some (.dat (aH x)),some (.dat (aH y)),some (.dat (.int p.1)),some (.dat (.int p.2))],by simp[pD],by simp⟩;have hz2:min x.length y.length<=50000:=by omega
 simp[Qy,abe,yH,key,hz2,bW]
def Rwl(c:aM)(lo g:Int)(r:Rw):Prop:=(r.1,g,r.2)∈c.held∨∃(i:Nat) (b:dH),c.bs[i]?=some b/\b.sd.al=true/\b.sd.due=some r.2/\b.sd.o=r.1/\b.sd.g=g/\(i:Int)+1≠lo
theorem Rwl.all{c:aM}{lo g:Int}{r:Rw}(h:Rwl c lo g r):Rwl c 0 g r:=h.imp id λ⟨i,b,h1,h2,h3,h4,h5,_⟩=>⟨i,b,h1,h2,h3,h4,h5,by omega⟩
theorem aey{c:aM}{lo:Int}{near:List Int}{r:Rw}:r∈inR c near++Cu c lo near↔∃g∈near,Rwl c lo g r:=by
 constructor
 ·intro h;rcases aqq.mp h with h|h
  ·obtain⟨g,h1,h2⟩:=RJ h;exact⟨g,h2,.inl h1⟩
  ·obtain⟨i,b,h1,h2,h3,h4,h5,h6⟩:=Ow h;exact⟨b.sd.g,h5,.inr ⟨i,b,h1,h4,h3,h2,rfl,h6⟩⟩
 ·rintro⟨g,hg,h|⟨i,b,h1,h2,h3,h4,h5,h6⟩⟩
  ·exact aqP _ (aqp.mpr ⟨_,aqA.mpr ⟨h,by simpa using hg⟩,rfl⟩)
  ·refine aqZ _ (aqp.mpr ⟨(i,b),aqA.mpr ⟨?_,?_⟩,?_⟩)
   ·obtain⟨hi,e⟩:=aqg.mp h1;exact List.mem_mapIdx.mpr ⟨i,hi,by rw[e]⟩
   ·have h6':((i:Int)+1==lo)=false:=by simpa using h6
    subst h5;simp[h3,h2,hg,h6']
   ·simp[h3,h4]
theorem JR{c:aM}{lo x:Int}{r:Rw}:r∈cA c lo x↔∃g∈bf c x,Rwl c lo g r:=aey
theorem adB(M:Mo)(x0:Option Cell)(head n0 n1 n2:Int)(h0:0<=n0)(h1:0<=n1)(h2:0<=n2)(base:List Int)(hb:base.length=6)(acc:List Dat)(hl:acc.length < 1000)(i:Nat)(x:Int)(x8 x9 x10 x11 x12 x13 x14:Option Cell) :
  ∃d n0' n1' n2' y8 y9 y10 y11 y12 y13 y14,0<=n0'/\0<=n1'/\0<=n2'/\fP d=true/\DG d/\GX M [x0,some (.dat (.int head)),some (.dat (.tuple [.int n0,.int n1,.int n2])),some (.dat (aH base)),some (.dat (.list ((tK head).map Ak))),some (.mut acc),some (.dat (.int i)),some (.dat (.int x)),x8,x9,x10,x11,x12,x13,x14]=.next [x0,some (.dat (.int head)),some (.dat (.tuple [.int n0',.int n1',.int n2'])),some (.dat (aH base)),some (.dat (.list ((tK head).map Ak))),some (.mut (acc++[d.dat])),some (.dat (.int i)),some (.dat (.int x)),y8,y9,y10,y11,y12,y13,y14] M:=by
 have r:yX M [.int x,.int 14,.int 10]=.ok (lI (rowOf x 14 10)):=abV M x 14 10 (by decide) (by decide) (by decide);have P:=agd x hb;obtain⟨r0,q0,q0'⟩:=Ge x 0 (by decide);obtain⟨r1,q1,q1'⟩:=Ge x 1 (by decide);obtain⟨r2,q2,q2'⟩:=Ge x 2 (by decide);obtain⟨r3,q3,q3'⟩:=Ge x 3 (by decide);obtain⟨r4,q4,q4'⟩:=Ge x 4 (by decide);obtain⟨r5,q5,q5'⟩:=Ge x 5 (by decide);generalize rowOf x 14 10=p at *;generalize p.getD 0 0=d0 at *;generalize p.getD 1 0=d1 at *;generalize p.getD 2 0=d2 at *;generalize p.getD 3 0=d3 at *;generalize p.getD 4 0=d4 at *;generalize p.getD 5 0=d5 at *;obtain⟨w,hw,hwd⟩:=ahH M (d0 * 10+d1);have hm:∀z,decide (CMul z 10)=true:=λz=>mul_r (by decide);simp only[Int.natCast_zero,Int.natCast_one,show((2:Nat):Int)=2 from rfl,show((3:Nat):Int)=3 from rfl,show((4:Nat):Int)=4 from rfl,show((5:Nat):Int)=5 from rfl]at r0 r1 r2 r3 r4 r5;have hl2:acc.length < 100000:=by omega
 have fin:∀(v:Str) (one two:Int) (d:aZ),fV M [.str v,.int one,.int two,lI p,.tuple [.int n0,.int n1,.int n2],aH base]=.ok d.dat->∃n0' n1' n2' y12 y13 y14,0<=n0'/\0<=n1'/\0<=n2'/\(aD (bh (bA [12,13,14]) (gOf (aq 2)))
 (aD (Ao 5 (aV fV (ak (aq 9) (ak (aq 10) (ak (aq 11) (ak (aq 8) (ak (aq 2) (ak (aq 3) au))))))))
 (aD (bQ (aY (aA bR (ao 9) (qC (.str "owner")))) (yQ 12 (qC (.int 1))) aN)
 (aD (bQ (aY (aA bR (ao 9) (qC (.str "ground")))) (yQ 13 (qC (.int 1))) aN)
 (aD (bQ (yd (aY (aA bR (ao 9) (qC (.str "bring")))) (aY (aA bR (ao 9) (qC (.str "bear"))))) (yQ 14 (qC (.int 1))) aN)
 (bh (aF 2) (gOf (bK (ak (aq 12) (ak (aq 13) (ak (aq 14) au))))))))))) M [x0,some (.dat (.int head)),some (.dat (.tuple [.int n0,.int n1,.int n2])),some (.dat (aH base)),some (.dat (.list ((tK head).map Ak))),some (.mut acc),some (.dat (.int i)),some (.dat (.int x)),some (.dat (lI p)),some (.dat (.str v)),some (.dat (.int one)),some (.dat (.int two)),x12,x13,x14]=.next [x0,some (.dat (.int head)),some (.dat (.tuple [.int n0',.int n1',.int n2'])),some (.dat (aH base)),some (.dat (.list ((tK head).map Ak))),some (.mut (acc++[d.dat])),some (.dat (.int i)),some (.dat (.int x)),some (.dat (lI p)),some (.dat (.str v)),some (.dat (.int one)),some (.dat (.int two)),y12,y13,y14] M:=λv one two d hd=>by
  refine⟨if v="owner" then n0+1 else n0,if v="ground" then n1+1 else n1,if v="bring"∨v="bear" then n2+1 else n2,some (.dat (.int (if v="owner" then n0+1 else n0))),some (.dat (.int (if v="ground" then n1+1 else n1))),some (.dat (.int (if v="bring"∨v="bear" then n2+1 else n2))),by split<;>omega,by split<;>omega,by split<;>omega,?_⟩
  generalize (tK head).map Ak=B at *;by_cases e1:v="owner"
  ·subst e1;simp[hd,hl2]
  ·by_cases e2:v="ground"
   ·subst e2;simp[hd,hl2]
   ·by_cases e3:v="bring"
    ·subst e3;simp[hd,hl2]
    ·by_cases e4:v="bear"
     ·subst e4;simp[hd,hl2]
     ·simp[hd,hl2,e1,e2,e3,e4]
 generalize hK:(aD (bh (bA [12,13,14]) (gOf (aq 2)))
 (aD (Ao 5 (aV fV (ak (aq 9) (ak (aq 10) (ak (aq 11) (ak (aq 8) (ak (aq 2) (ak (aq 3) au))))))))
 (aD (bQ (aY (aA bR (ao 9) (qC (.str "owner")))) (yQ 12 (qC (.int 1))) aN)
 (aD (bQ (aY (aA bR (ao 9) (qC (.str "ground")))) (yQ 13 (qC (.int 1))) aN)
 (aD (bQ (yd (aY (aA bR (ao 9) (qC (.str "bring")))) (aY (aA bR (ao 9) (qC (.str "bear"))))) (yQ 14 (qC (.int 1))) aN)
 (bh (aF 2) (gOf (bK (ak (aq 12) (ak (aq 13) (ak (aq 14) au)))))))))))=K at fin
 have e:GX=(aD (bh (aF 8) (gOf (aV yX (ak (aq 7) (ak (qC (.int 14)) (ak (qC (.int 10)) au))))))
 (aD (bh (aF 9) (gOf (aV vU (ak (aA fG (aA wO (aA aO (ao 8) (qC (.int 0))) (qC (.int 10))) (aA aO (ao 8) (qC (.int 1)))) au))))
 (aD (bh (aF 10) (gOf (aA fG (aA wO (aA aO (ao 8) (qC (.int 2))) (qC (.int 10))) (aA aO (ao 8) (qC (.int 3))))))
 (aD (bh (aF 11) (gOf (aA fG (aA wO (aA aO (ao 8) (qC (.int 4))) (qC (.int 10))) (aA aO (ao 8) (qC (.int 5))))))
 (aD (bQ (aY (aA M4 (ao 6) (eO oF (ao 4)))) (bh (bA [9,10,11]) (gOf (aA aO (ao 4) (ao 6)))) aN) K))))):=by rw[←hK];rfl
 rw[e];by_cases hi:i < (tK head).length
 ·have hi':(i:Int) < (tK head).length:=by omega
  have g:=aqi hi;obtain⟨b1,b2,b3⟩:=agB _ (aqR hi);generalize (tK head)[i]=b at *;obtain⟨d,e1,e2,e3⟩:=XM M P b.2.1 b.2.2 n0 n1 n2 h0 h1 h2 b1 b2 b3;obtain⟨m0,m1,m2,y12,y13,y14,z0,z1,z2,f⟩:=fin b.1 b.2.1 b.2.2 d e1;refine⟨d,m0,m1,m2,some (.dat (lI p)),some (.dat (.str b.1)),some (.dat (.int b.2.1)),some (.dat (.int b.2.2)),y12,y13,y14,z0,z1,z2,e2,e3,?_⟩;rw[←f];simp[r,r0,r1,r2,r3,r4,r5,hm,hwd,hi',g];simp[Ak]
 ·have hi':¬(i:Int) < (tK head).length:=by omega
  obtain⟨d,e1,e2,e3⟩:=XM M P (d2 * 10+d3) (d4 * 10+d5) n0 n1 n2 h0 h1 h2 hw (by omega) (by omega);obtain⟨m0,m1,m2,y12,y13,y14,z0,z1,z2,f⟩:=fin w (d2 * 10+d3) (d4 * 10+d5) d e1;refine⟨d,m0,m1,m2,some (.dat (lI p)),some (.dat (.str w)),some (.dat (.int (d2 * 10+d3))),some (.dat (.int (d4 * 10+d5))),y12,y13,y14,z0,z1,z2,e2,e3,?_⟩;rw[←f];simp[r,r0,r1,r2,r3,r4,r5,hm,hwd,hi']
theorem Vf(M:Mo)(x0:Option Cell)(head:Int)(base:List Int)(hb:base.length=6):∀(xs:List (Nat×Int)) (n0 n1 n2:Int) (acc:List Dat) (x6 x7 x8 x9 x10 x11 x12 x13 x14:Option Cell),0<=n0->0<=n1->0<=n2->acc.length+xs.length<=1000->∃(ds:List aZ) (y2 y6 y7 y8 y9 y10 y11 y12 y13 y14:Option Cell),ds.length=xs.length/\(∀d∈ds,fP d=true/\DG d)/\fB (bA [6,7]) GX (xs.map λq=>PyData.tuple [.int q.1,.int q.2]) M [x0,some (.dat (.int head)),some (.dat (.tuple [.int n0,.int n1,.int n2])),some (.dat (aH base)),some (.dat (.list ((tK head).map Ak))),some (.mut acc),x6,x7,x8,x9,x10,x11,x12,x13,x14]=.next [x0,some (.dat (.int head)),y2,some (.dat (aH base)),some (.dat (.list ((tK head).map Ak))),some (.mut (acc++ds.map aZ.dat)),y6,y7,y8,y9,y10,y11,y12,y13,y14] M
 |[],n0,n1,n2,acc,x6,x7,x8,x9,x10,x11,x12,x13,x14,_,_,_,_=>⟨[],some (.dat (.tuple [.int n0,.int n1,.int n2])),x6,x7,x8,x9,x10,x11,x12,x13,x14,rfl,by simp,by simp[fB]⟩
 |q::xs,n0,n1,n2,acc,x6,x7,x8,x9,x10,x11,x12,x13,x14,h0,h1,h2,hl=>by
  rw[aqu]at hl;obtain⟨d,m0,m1,m2,y8,y9,y10,y11,y12,y13,y14,z0,z1,z2,e2,e3,st⟩:=adB M x0 head n0 n1 n2 h0 h1 h2 base hb acc (by omega) q.1 q.2 x8 x9 x10 x11 x12 x13 x14;obtain⟨ds,w2,w6,w7,w8,w9,w10,w11,w12,w13,w14,l1,l2,lp⟩:=Vf M x0 head base hb xs m0 m1 m2 (acc++[d.dat]) (some (.dat (.int q.1))) (some (.dat (.int q.2))) y8 y9 y10 y11 y12 y13 y14 z0 z1 z2 (by simp;omega);refine⟨d::ds,w2,w6,w7,w8,w9,w10,w11,w12,w13,w14,by simp[l1],λx hx=>?_,?_⟩
  ·rcases aqt.mp hx with rfl|z
   ·exact⟨e2,e3⟩
   ·exact l2 x z
  ·rw[aqh,gR (Z1:=[x0,some (.dat (.int head)),some (.dat (.tuple [.int n0,.int n1,.int n2])),some (.dat (aH base)),some (.dat (.list ((tK head).map Ak))),some (.mut acc),some (.dat (.int q.1)),some (.dat (.int q.2)),x8,x9,x10,x11,x12,x13,x14]) (by simp) st,lp];simp
theorem ahG(M:Mo)(cells:List Int)(head:Int)(hl:cells.length<=900):∃ds:List aZ,ds.length=cells.length/\(∀d∈ds,fP d=true/\DG d)/\JX M [lI cells,.int head]=.ok (.list (ds.map aZ.dat)):=by
 have h1:=ajS M (head / 512);have h2:=adn M head;have hd:∀z,decide (CDiv z 512)=true:=λz=>decide_eq_true ⟨by decide,by decide⟩;have hen:oR 0 (cells.map PyData.int)=(cells.mapIdx λi x=>(i,x)).map λ(q:Nat×Int)=>PyData.tuple [.int q.1,.int q.2]:=by unfold oR;apply aqH;intro i;simp;cases cells[i]?<;>simp
 obtain⟨ds,y2,y6,y7,y8,y9,y10,y11,y12,y13,y14,l1,l2,lp⟩:=Vf M (some (.dat (lI cells))) head (QC (head / 512)) (ab8 _) (cells.mapIdx λi x=>(i,x)) 0 0 0 [] none none none none none none none none none (by omega) (by omega) (by omega) (by simp;omega);rw[←hen]at lp;refine⟨ds,by simpa using l1,l2,?_⟩;generalize (tK head).map Ak=B at *;generalize ds.map aZ.dat=D at *;simp[JX,Xp,hd,h1,h2,lp]
theorem peel{p:Prop}[Decidable p]{r:Res}{y x:cY}(h:(if p then r else .no y)=Res.no x)(hx:x.cls="Clash")(hy:y.cls≠"Clash"):p/\r=.no x:=by
 by_cases q:p
 ·rw[if_pos q]at h;exact⟨q,h⟩
 ·rw[if_neg q]at h;cases h;exact absurd hx hy
theorem GZ{p:Prop}[Decidable p]{r:Res}{y x:cY}(h:(if p then .no y else r)=Res.no x)(hx:x.cls="Clash")(hy:y.cls≠"Clash"):¬p/\r=.no x:=by
 by_cases q:p
 ·rw[if_pos q]at h;cases h;exact absurd hx hy
 ·rw[if_neg q]at h;exact⟨q,h⟩
theorem QK{o room:Int}{e:List Int}{R:List Rw}{d:Dat}{c':aM}{x:cY}(h:wC o e R room (.ok d c')=.no x):∃r,x=lY o e r/\r∈R/\r.1≠o/\j6 e r.2<=room:=by
 unfold wC at h;cases hb:vN o e (bG R) room with
 |nil=>
  rw[hb]at h;cases h
 |cons r rs=>
  rw[hb]at h;cases h;have mem:r∈vN o e (bG R) room:=by rw[hb];exact aqj
  unfold vN at mem;obtain⟨m1,m2⟩:=aqA.mp mem;simp only[aqf,aqx,ars]at m2;exact⟨r,rfl,dW.mp (dW.mp m1),by simpa using m2.1,m2.2⟩
theorem XQ{c:aM}{k:Int}{b:dH}(h:bk c k=some b):atI (c.bs.map jx) (k - 1)=some (jx b):=by
 obtain⟨h1,h2,h3⟩:=lV h;have e:k - 1=(((k - 1).toNat:Nat):Int):=by omega
 rw[e];exact atI_nat (by rw[aqs,h1];rfl)
theorem ac2{c:aM}{k:Int}{f:dH->Res}{x:cY}(h:sE c k f=.no x)(hx:x.cls="Clash"):∃b,bk c k=some b/\b.sd.al=true/\f b=.no x:=by
 unfold sE at h;cases q:bk c k with
 |none=>
  rw[q]at h;cases h;exact absurd hx (by decide)
 |some b=>
  rw[q]at h;obtain⟨a1,a2⟩:=peel h hx (by decide);exact⟨b,rfl,a1,a2⟩
theorem aak{c:aM}{k:Int}{f:dH->List Int->Res}{x:cY}(h:markB c k f=.no x)(hx:x.cls="Clash"):∃b e,bk c k=some b/\b.sd.al=true/\b.sd.due=some e/\f b e=.no x:=by
 obtain⟨b,h1,h2,h3⟩:=ac2 h hx;cases q:b.sd.due with
 |none=>
  rw[q]at h3;cases h3;exact absurd hx (by decide)
 |some e=>
  rw[q]at h3;exact⟨b,e,h1,h2,q,h3⟩
theorem ae2{c:aM}{lo x:Int}{r:Rw}(h:r∈cA c lo x):r∈cA c 0 x:=by obtain⟨g,h1,h2⟩:=JR.mp h;exact JR.mpr ⟨g,h1,h2.all⟩
def eY(c:aM):aZ->List Int
 |.enrol _ g _=>[g]
 |.move _ g=>[g]
 |.oO x y=>[x,y]
 |.cut k=>[((bk c k).map λb=>b.sd.g).getD 0]
 |.sell k _=>[((bk c k).map λb=>b.sd.g).getD 0]
 |_=>[]
def isU:aZ->Bool
 |.oO ..=>true
 |_=>false
def isF:aZ->Bool
 |.enrol ..=>true
 |.cut ..=>true
 |.sell ..=>true
 |.move ..=>true
 |.oO ..=>true
 |_=>false
structure Why(c:aM)(d:aZ)(x:cY)(one other:Rw):Prop where
 ex:x=lY one.1 one.2 other
 f:isF d=true
 e1:cU one.2=true
 e2:cU other.2=true
 ne:one.1≠other.1
 vg:∀g∈eY c d,Vg c g
 mem:∃g∈eY c d,other∈cA c 0 g
 meet:j6 one.2 other.2<=R4 ((eY c d).map (roomOf c))
 uni:isU d=true->∃g∈eY c d,one∈cA c 0 g
 alive:∀k,(d=.cut k∨∃o,d=.sell k o)->∃b,bk c k=some b
theorem v8{n s:Nat}{c:aM}(I:Inv n s c){lo x:Int}{r:Rw}(h:r∈cA c lo x):cU r.2=true:=by
 obtain⟨g,_,h2|⟨i,b,h2,_,h3,_⟩⟩:=JR.mp h
 ·exact(I.hE _ h2).2.2
 ·exact I.due b (aqm h2) _ h3
theorem U0{n s:Nat}{c:aM}(I:Inv n s c){o g:Int}(h:bO c o g≠[]):cU (firstM c o g)=true:=by
 unfold firstM;cases hm:bO c o g with
 |nil=>exact absurd hm h
 |cons m ms=>exact(I.hE _ (zW.mp (by rw[hm];exact aqj))).2.2
theorem acO{n s:Nat}{c:aM}(I:Inv n s c){d:aZ}{x:cY}(h:dw c d=.no x)(hx:x.cls="Clash"):∃one other,Why c d x one other:=by
 cases d with
 |enrol o g m=>
  obtain⟨_,h⟩:=peel h hx (by decide);obtain⟨v,h⟩:=peel h hx (by decide);obtain⟨em,h⟩:=peel h hx (by decide);obtain⟨_,h⟩:=GZ h hx (by decide);obtain⟨_,h⟩:=GZ h hx (by decide);obtain⟨r,rfl,h1,h2,h3⟩:=QK h;exact⟨(o,m),r,rfl,rfl,em,v8 I h1,Ne.symm h2,by simpa [eY] using v,⟨g,by simp[eY],h1⟩,h3,(λz=>nomatch z),λk z=>by rcases z with z|⟨_,z⟩<;>cases z⟩
 |cut k=>
  obtain⟨b,b1,b2,h⟩:=ac2 h hx;obtain⟨r,rfl,h1,h2,h3⟩:=QK h;have mb:=aqm (lV b1).1;obtain⟨hm,v,_⟩:=I.alive mb b2;have eg:eY c (.cut k)=[b.sd.g]:=by simp[eY,b1]
  exact⟨(b.sd.o,bW b.sd.ear (firstM c b.sd.o b.sd.g)),r,rfl,rfl,tH (I.ear b mb) (U0 I hm),v8 I h1,Ne.symm h2,by rw[eg];simpa using v,⟨b.sd.g,by rw[eg];simp,h1⟩,by rw[eg];exact h3,(λz=>nomatch z),λj z=>by
   rcases z with z|⟨_,z⟩<;>cases z
   exact⟨b,b1⟩⟩
 |sell k o=>
  obtain⟨b,e,b1,b2,b3,h⟩:=aak h hx;obtain⟨_,h⟩:=peel h hx (by decide);obtain⟨_,h⟩:=GZ h hx (by decide);obtain⟨hm,h⟩:=GZ h hx (by decide);obtain⟨r,rfl,h1,h2,h3⟩:=QK h;have mb:=aqm (lV b1).1;obtain⟨_,v,_⟩:=I.alive mb b2;have eg:eY c (.sell k o)=[b.sd.g]:=by simp[eY,b1]
  exact⟨(o,bW b.sd.ear (firstM c o b.sd.g)),r,rfl,rfl,tH (I.ear b mb) (U0 I hm),v8 I h1,Ne.symm h2,by rw[eg];simpa using v,⟨b.sd.g,by rw[eg];simp,ae2 h1⟩,by rw[eg];exact h3,(λz=>nomatch z),λj z=>by
   rcases z with z|⟨_,z⟩<;>cases z
   exact⟨b,b1⟩⟩
 |move k g=>
  obtain⟨b,e,b1,b2,b3,h⟩:=aak h hx;obtain⟨v,h⟩:=peel h hx (by decide);obtain⟨_,h⟩:=GZ h hx (by decide);obtain⟨hm,h⟩:=GZ h hx (by decide);obtain⟨r,rfl,h1,h2,h3⟩:=QK h;have mb:=aqm (lV b1).1;exact⟨(b.sd.o,e),r,rfl,rfl,I.due b mb e b3,v8 I h1,Ne.symm h2,by simpa [eY] using v,⟨g,by simp[eY],h1⟩,h3,(λz=>nomatch z),λk z=>by rcases z with z|⟨_,z⟩<;>cases z⟩
 |oO y z=>
  obtain⟨v2,h⟩:=peel h hx (by decide);obtain⟨v1,h⟩:=peel h hx (by decide);obtain⟨_,h⟩:=GZ h hx (by decide);have mem:∃p,p∈jN (bG (u6 c y z)) (lW c y z)/\x=lY p.1.1 p.1.2 p.2:=by
   cases hq:jN (bG (u6 c y z)) (lW c y z) with
   |nil=>
    rw[hq]at h;cases h
   |cons p ps=>
    rw[hq]at h;cases h;exact⟨p,aqj,rfl⟩
  obtain⟨p,hp,ex⟩:=mem;obtain⟨w,hw,hp⟩:=List.mem_flatMap.mp hp;obtain⟨i,hi,rfl⟩:=List.mem_mapIdx.mp hw;obtain⟨r,hr,rfl⟩:=aqp.mp hp;obtain⟨hr,hq⟩:=aqA.mp hr;simp only[aqf,aqx,ars]at hq;have m1:=dW.mp (aqR hi);have m2:=dW.mp (List.mem_of_mem_drop hr);have inS:∀r,r∈u6 c y z->∃g∈[y,z],r∈cA c 0 g:=λr hr=>by
   rcases aqq.mp hr with w|w
   ·exact⟨y,by simp,dW.mp w⟩
   ·exact⟨z,by simp,dW.mp w⟩
  have ee:∀r,r∈u6 c y z->cU r.2=true:=λr hr=>by
   obtain⟨g,_,w⟩:=inS r hr;exact v8 I w
  exact⟨(bG (u6 c y z))[i],r,ex,rfl,ee _ m1,ee _ m2,by simpa using hq.1,λg hg=>by
   simp[eY]at hg;rcases hg with rfl|rfl
   ·exact v1
   ·exact v2,inS _ m2,by
   have:R4 ((eY c (.oO y z)).map (roomOf c))=lW c y z:=by simp only[eY,aqh,aq4,R4,Cy,lW]
   rw[this];exact hq.2,λ_=>inS _ m1,λk w=>by rcases w with w|⟨_,w⟩<;>cases w⟩
 |_=>
  exfalso;simp only[dw,qY,vX,HS,mj,sE,markB]at h
  (repeat' split at h)<;>cases h<;>exact absurd hx (by decide)
@[simp]theorem aed (o:Int) (e:List Int) (r:Rw):Nt "Clash" (lY o e r) (.flds ["ones","others","ear"])=some (.tuple [Ear.rD (o,e),Ear.rD r,aH (bW e r.2)]):=by
 have h1:lf (aH (bW e r.2))=true:=by
  have:∀l:List Int,MF (l.map PyData.int)=true:=λl=>by
   induction l with
   |nil=>rfl
   |cons i l ih=>rw[aqh,MF,lf,ih];rfl
  rw[lf,this]
 have h2:∀r:Rw,lf (Ear.rD r)=true:=λr=>by
  have:∀l:List Int,MF (l.map PyData.int)=true:=λl=>by
   induction l with
   |nil=>rfl
   |cons i l ih=>rw[aqh,MF,lf,ih];rfl
  simp[Ear.rD,Ear.dT,lf,MF,this]
 simp[Nt,Lw,Ru,lY,h1,h2]
theorem acE{M:Mo}{L:Lay}{n s:Nat}{c:aM}(a:At M L c)(I:Inv n s c)(hs:s<=76)(hn:n<=199)(d:aZ)(hd:DG d)(hf:fP d=true):∃M' bs v,vC M [ob L.c,d.dat]=.ok v M'/\At M' { L with bs:=bs } (Wv c d)/\(v=.none∨∃one other,Why c d (lY one.1 one.2 other) one other/\v=.tuple [Ear.rD one,Ear.rD other,aH (bW one.2 other.2)]):=by
 have hc:=a.hc;have h0:=ak5 a I hs hn d hd hf;unfold Wv;cases e:dw c d with
 |ok r c'=>
  rw[e]at h0;obtain⟨M',bs,h0,h2⟩:=h0;exact⟨M',bs,.none,by simp[vC,BW,hc,aP,qJ,h0],h2,.inl rfl⟩
 |no x=>
  rw[e]at h0;have h0:_=_:=h0;have h1:=aev e;by_cases hx:x.cls="Clash"
  ·obtain⟨one,other,w⟩:=acO I e hx;have ex:=w.ex;subst ex;refine⟨M,L.bs,_,?_,a,.inr ⟨one,other,w,rfl⟩⟩;have su:=aed one.1 one.2 other;have xc:Hf.lookup (lY one.1 one.2 other).cls=some true:=rfl;generalize lY one.1 one.2 other=X at *;simp[vC,BW,hc,aP,qJ,h0,xc,su]
  ·have h2:Hf.lookup x.cls=some false:=by
    cases d<;>simp only[dw,qY,vX,HS,mj,wC,sE,markB,lY]at e<;>(repeat' split at e)<;>cases e<;>first | rfl | exact absurd rfl hx
   exact⟨M,L.bs,.none,by simp[vC,BW,hc,aP,qJ,h0,h1,h2],a,.inl rfl⟩
theorem Mw:∀(x y:List Int),x.length=y.length->jX x (bW x y)=jX x y/\jX y (bW x y)=jX y x
 |[],[],_=>⟨rfl,rfl⟩
 |[],_::_,h=>by simp at h
 |_::_,[],h=>by simp at h
 |a::x,b::y,h=>by
  obtain⟨h1,h2⟩:=Mw x y (by simpa using h);unfold jX bW at h1 h2 ⊢;simp only[aq0,aqh,aqQ];by_cases q:b > a
  ·have q1:a < b:=q;have q2:¬b < a:=by omega
   have q3:¬b < b:=by omega
   simp only[q,q1,q2,q3,if_true,decide_true,decide_false,aqI,if_false,aqh,List.sum_cons,h1,h2];simp
  ·by_cases q1:b < a
   ·have q2:¬a < b:=by omega
    have q3:¬a < a:=by omega
    simp only[q,q1,q2,q3,if_true,decide_true,decide_false,aqI,if_false,aqh,List.sum_cons,h1,h2];simp
   ·have q2:¬a < b:=by omega
    have q3:¬a < a:=by omega
    simp only[q,q1,q2,q3,decide_false,aqI,if_false,h1,h2];simp
theorem abA{x y:List Int}{room:Int}(h:x.length=y.length)(m:j6 x y<=room):jX x (bW x y)<=room/\jX y (bW x y)<=room:=by obtain⟨h1,h2⟩:=Mw x y h;unfold j6 at m;rw[h1,h2];split at m<;>omega
theorem abO(M:Mo){c:aM}{d:aZ}{x:cY}{one other:Rw}(w:Why c d x one other):nM M [iI c,d.dat]=.ok (lI (eY c d)):=by
 have wf:=w.f;cases d with
 |enrol o g m=>simp[nM,sU,aZ.dat,eY]
 |move k g=>simp[nM,sU,aZ.dat,eY]
 |oO y z=>simp[nM,sU,aZ.dat,eY]
 |cut k=>
  obtain⟨b,hb⟩:=w.alive k (.inl rfl);have h:=XQ hb;simp[nM,sU,aZ.dat,eY,h,hb]
 |sell k o=>
  obtain⟨b,hb⟩:=w.alive k (.inr ⟨o,rfl⟩);have h:=XQ hb;simp[nM,sU,aZ.dat,eY,h,hb]
 |_=>cases wf
theorem ady(neg:Bool)(r:Rw)(rs:List Rw):inD neg (Ear.rD r) (.list (rs.map Ear.rD))=.ok (.bool (neg ^^ decide (r∈rs))):=by
 have e:∀s:Rw,PyData.eqv (Ear.rD s) (Ear.rD r)=decide (s=r):=λs=>by
  rw[aqX];simp[Ear.rD,Ear.dT,Prod.ext_iff]
 have h1:(rs.map Ear.rD).any (λz=>PyData.eqv z (Ear.rD r))=decide (r∈rs):=by
  rw[aqX,List.any_eq_true,ars];constructor
  ·rintro⟨z,hz,hq⟩;obtain⟨s,hs,rfl⟩:=aqp.mp hz;rw[e s,ars]at hq;exact hq ▸ hs
  ·exact λh=>⟨Ear.rD r,aqp.mpr ⟨r,h,rfl⟩,by rw[e r];simp⟩
 have h2:∀s:Rw,okd 12 (Ear.rD s)=true:=λs=>by
  have:=Br 10 s.2;simp only[Ear.rD,Ear.dT,okd,jY,Bool.and_true,Bool.true_and];simpa [okd] using this
 have h3:jY 12 (rs.map Ear.rD)=true:=BP.mpr λd hd=>by
  obtain⟨s,_,rfl⟩:=aqp.mp hd;exact h2 s
 show(Out.when (okd 12 (Ear.rD r)&&jY 12 (rs.map Ear.rD)) (.ok ((rs.map Ear.rD).any λz=>PyData.eqv z (Ear.rD r)))).bind _=_
 rw[h1,h2,h3];rfl
theorem agH{c:aM}{d:aZ}(h:isF d=true):∃v:Str,aO d.dat (.int 0)=.ok (.str v)/\inD true (.str v) (.tuple [.str "enrol",.str "cut",.str "sell",.str "move",.str "unite"])=.ok (.bool false)/\bR (.str v) (.str "unite")=.ok (.bool (isU d)):=by cases d<;>first | exact⟨_,rfl,rfl,rfl⟩ | cases h
theorem Pu(M:Mo){n s:Nat}{c:aM}(I:Inv n s c)(hs:s<=76)(x1 x2 x3 x4 x5 x6 x7:Option Cell):∀(gs:List Int) (acc:List Rw) (x9:Option Cell),(∀g∈gs,Vg c g)->acc.length+100 * gs.length<=1000->∃y9,fB (aF 9) Dg (gs.map PyData.int) M [some (.dat (iI c)),x1,x2,x3,x4,x5,x6,x7,some (.dat (.list (acc.map Ear.rD))),x9]=.next [some (.dat (iI c)),x1,x2,x3,x4,x5,x6,x7,some (.dat (.list ((acc++gs.flatMap λg=>bG (cA c 0 g)).map Ear.rD))),y9] M
 |[],acc,x9,_,_=>⟨x9,by simp[fB]⟩
 |g::gs,acc,x9,hv,hl=>by
  rw[aqu]at hl;have f0:=I.hL;have v:=hv g aqj;have hci:=I.gr.at v;have hcl:(bf c g).length<=1000:=by have:=I.gr.clen hci;omega
  have r1:=aa8 v;have r2:=aaZ M c (by omega) (by omega) (aH (bf c g)) (bf c g) (λy=>by have:=ajX false y _ hcl;simpa using this) 0;have es:inR c (bf c g)++Cu c 0 (bf c g)=cA c 0 g:=rfl;rw[es]at r2;have hT:(bG (cA c 0 g)).length<=100:=by rw[pO];exact aqE (I.few λr hr=>nY hr) (by omega)
  obtain⟨y9,ih⟩:=Pu M I hs x1 x2 x3 x4 x5 x6 x7 gs (acc++bG (cA c 0 g)) (some (.dat (.int g))) (λy hy=>hv y (aqk _ hy)) (by rw[aqO];omega);have hln:acc.length+(bG (cA c 0 g)).length<=100000:=by omega
  have hb:Dg M [some (.dat (iI c)),x1,x2,x3,x4,x5,x6,x7,some (.dat (.list (acc.map Ear.rD))),some (.dat (.int g))]=.next [some (.dat (iI c)),x1,x2,x3,x4,x5,x6,x7,some (.dat (.list ((acc++bG (cA c 0 g)).map Ear.rD))),some (.dat (.int g))] M:=by simp[Dg,r1,r2,hln]
  exact⟨y9,by rw[aqh,gR (Z1:=[some (.dat (iI c)),x1,x2,x3,x4,x5,x6,x7,some (.dat (.list (acc.map Ear.rD))),some (.dat (.int g))]) (by simp) hb,ih,List.flatMap_cons,List.append_assoc]⟩
theorem aeW(M:Mo){n s:Nat}{c:aM}(I:Inv n s c)(hs:s<=76){d:aZ}{x:cY}{one other:Rw}(w:Why c d x one other):Bs M [iI c,d.dat,.tuple [Ear.rD one,Ear.rD other,aH (bW one.2 other.2)]]=.ok (.bool true):=by
 obtain⟨v,v1,v2,v3⟩:=agH (c:=c) w.f;have h1:=abO M w;have l1:=fu w.e1;have l2:=fu w.e2;have gne:eY c d≠[]:=by obtain⟨g,hg,_⟩:=w.mem;intro z;rw[z]at hg;cases hg
 have gl:(eY c d).length<=2:=by cases d<;>simp[eY]
 have key:=eU (tg:=aF 9) (te:=aV vW (ak (aq 0) (ak (aq 9) au))) (M:=M) (Z:=[some (.dat (iI c)),some (.dat d.dat),some (.dat (.tuple [Ear.rD one,Ear.rD other,aH (bW one.2 other.2)])),some (.dat (Ear.rD one)),some (.dat (Ear.rD other)),some (.dat (aH (bW one.2 other.2))),some (.dat (lI (eY c d))),none,none,none]) PyData.int (λg=>.int (roomOf c g)) (eY c d) λg hg=>⟨[some (.dat (iI c)),some (.dat d.dat),some (.dat (.tuple [Ear.rD one,Ear.rD other,aH (bW one.2 other.2)])),some (.dat (Ear.rD one)),some (.dat (Ear.rD other)),some (.dat (aH (bW one.2 other.2))),some (.dat (lI (eY c d))),none,none,some (.dat (.int g))],by simp,by
  have:=abJ M c I.gr g (w.vg g hg);generalize eY c d=G at *;simp[this]⟩
 have hm:=maxD_ints (l:=(eY c d).map (roomOf c)) (by simpa using gne);rw[aqJ]at hm;have hm:maxD (.list ((eY c d).map λg=>PyData.int (roomOf c g)))=_:=hm;generalize hsp:R4 ((eY c d).map (roomOf c))=space at *;obtain⟨y9,lp⟩:=Pu M I hs (some (.dat d.dat)) (some (.dat (.tuple [Ear.rD one,Ear.rD other,aH (bW one.2 other.2)]))) (some (.dat (Ear.rD one))) (some (.dat (Ear.rD other))) (some (.dat (aH (bW one.2 other.2)))) (some (.dat (lI (eY c d)))) (some (.dat (.int space))) (eY c d) [] none w.vg (by simp;omega);have memO:other∈(eY c d).flatMap λg=>bG (cA c 0 g):=by obtain⟨g,hg,hr⟩:=w.mem;exact List.mem_flatMap.mpr ⟨g,hg,dW.mpr hr⟩
 have i2:=ady true other ([]++(eY c d).flatMap λg=>bG (cA c 0 g));rw[decide_eq_true (by simpa using memO)]at i2;have i3:isU d=true->inD true (Ear.rD one) (.list (([]++(eY c d).flatMap λg=>bG (cA c 0 g)).map Ear.rD))=.ok (.bool false):=λu=>by
  obtain⟨g,hg,hr⟩:=w.uni u;have:=ady true one ([]++(eY c d).flatMap λg=>bG (cA c 0 g));rw[decide_eq_true (by simpa using List.mem_flatMap.mpr ⟨g,hg,dW.mpr hr⟩)]at this;exact this
 have t1:=akk M one.2 other.2 (by omega);have jl:(bW one.2 other.2).length=6:=fu (tH w.e1 w.e2);have t2:=Y4 M one.2 (bW one.2 other.2) (by omega);have t3:=Y4 M other.2 (bW one.2 other.2) (by omega);have wm:=w.meet;rw[hsp]at wm;obtain⟨m1,m2⟩:=abA (by omega) wm;have kk:=ahh M 9 (aH (bW one.2 other.2)) (ait 8 _);have x0:∀r:Rw,aO (Ear.rD r) (.int 0)=.ok (.int r.1):=λ_=>rfl;have x1:∀r:Rw,aO (Ear.rD r) (.int 1)=.ok (aH r.2):=λ_=>rfl;have gl2:(eY c d).length<=50000:=by omega
 have ne:=w.ne;generalize bW one.2 other.2=J at *;generalize (([]++(eY c d).flatMap λg=>bG (cA c 0 g)).map Ear.rD)=R at *;generalize eY c d=G at *;generalize d.dat=D at *;have nz:(List.map Ear.rD ([]:List Rw))=[]:=rfl;rw[nz]at lp;cases u:isU d with
 |false=>
  rw[u]at v3;simp at i2;simp[Bs,Le,v1,v2,h1,key,hm,gl2,lp,x0,ne,i2,v3,x1,t1,kk,t2,m1,t3,m2]
 |true=>
  rw[u]at v3;have i3:=i3 u;simp at i2;simp[Bs,Le,v1,v2,h1,key,hm,gl2,lp,x0,ne,i2,i3,v3,x1,t1,kk,t2,m1,t3,m2]
theorem Pn(x0 x2':Option Cell):∀(ds:List aZ) {M:Mo} {L:Lay} {n s:Nat} {c:aM} (_:L.c=0) (_:At M L c) (_:Inv n s c) (_:s+ds.length<=76) (_:n+ds.length<=199) (_:∀d∈ds,fP d=true/\DG d) (x2 x3 x4:Option Cell),∃Z M',fB (aF 2) Gq (ds.map aZ.dat) M [x0,some (.dat (ob 0)),x2,x3,x4]=.next Z M'
 |[],M,L,n,s,c,_,_,_,_,_,_,x2,x3,x4=>⟨_,_,rfl⟩
 |d::ds,M,L,n,s,c,hL,a,I,hs,hn,hd,x2,x3,x4=>by
  rw[aqu]at hs hn;obtain⟨d1,d2⟩:=hd d aqj;have l1:=af6 a I (by omega);have hc:=a.hc;obtain⟨M1,bs,v,h1,a1,h2⟩:=acE a I (by omega) (by omega) d d2 d1;have I1:=ael I d (by omega);rw[hL]at l1 hc h1;have step:Gq M [x0,some (.dat (ob 0)),some (.dat d.dat),x3,x4]=.next [x0,some (.dat (ob 0)),some (.dat d.dat),some (.dat (iI c)),some (.dat v)] M1:=by
   rcases h2 with rfl|⟨one,other,w,rfl⟩
   ·simp[Gq,hc,aP,rK,l1,h1,mU]
   ·have h3:=aeW M1 I (by omega) w;have h4:mU .none (.tuple [Ear.rD one,Ear.rD other,aH (bW one.2 other.2)])=false:=rfl;generalize PyData.tuple [Ear.rD one,Ear.rD other,aH (bW one.2 other.2)]=V at *;simp[Gq,hc,aP,rK,l1,h1,h4,h3]
  obtain⟨Z,M',h5⟩:=Pn x0 x2' ds (L:={ L with bs:=bs }) hL a1 (I1.mono (aqF _) (by have:=ag3 d;omega):Inv (n+1) (s+1) _) (by omega) (by omega) (λe he=>hd e (aqk _ he)) (some (.dat d.dat)) (some (.dat (iI c))) (some (.dat v));exact⟨Z,M',by rw[aqh,gR (Z1:=[x0,some (.dat (ob 0)),some (.dat d.dat),x3,x4]) (by simp) step];exact h5⟩
theorem afd(ns:List Int)(h:ns.length<=63):∃M,WT [] [.list (ns.map PyData.int)]=.ok (.bool true) M:=by
 obtain⟨M0,L,hL,h0,a0⟩:=alV;have cell0:Ew M0 [lI ns,.int 0]=_:=agS M0 ns 0;have hl:=agK ns 1 40 (by decide);generalize hcl:Rf.cutD ns (some ((1:Nat):Int)) (some ((40:Nat):Int))=cells at hl;have hcl2:Rf.cutD (ns.map PyData.int) (some 1) (some 40)=cells.map PyData.int:=by rw[ahw];exact congrArg _ hcl
 obtain⟨ds,l1,l2,h1⟩:=ahG M0 cells (if ns.getD 0 0 < 0 then -(ns.getD 0 0) else ns.getD 0 0) (by omega);obtain⟨Z,M1,h2⟩:=Pn (some (.dat (lI ns))) none ds hL a0 amF (by omega) (by omega) l2 none none none;generalize ns.getD 0 0=z0 at *;refine⟨M1,?_⟩;generalize ds.map aZ.dat=D at *;simp[WT,abx,h0,cell0,hcl2,h1,h2]
end Pr
open PySem PySem.W PySem.Calls PyProof.Rows
set_option maxHeartbeats 0 in
theorem PySem.Challenge.cw_earmarks_k55_whole_clash_is_shown_holds : PySem.Challenge.rw_earmarks_k55_whole_clash_is_shown.Holds := by
 w_on;o_law
 refine HandSHeadRun.head_any (r:=OpenLaw.row PySem.Challenge.rw_earmarks_k55_whole_clash_is_shown) (q:=view (OpenLaw.row PySem.Challenge.rw_earmarks_k55_whole_clash_is_shown).prog [89]) (H:=Pr.hkE) (ob:=Pr.obE) (M:=40000) (loose:=Pr.nm) (d:=HandSHeadRun.topDef (OpenLaw.row PySem.Challenge.rw_earmarks_k55_whole_clash_is_shown).prog 89) (kwd:=[]) Pr.ajl (by kernel_rfl) (λs=>by kernel_rfl) Pr.run (by kernel_rfl) (by kernel_rfl) (by kernel_rfl) (by rfl) (by first | assumption | decide +kernel) (by decide +kernel) ⟨rfl,rfl,rfl,rfl,rfl,by decide +kernel⟩ ?hw ?hc
 case hw=>w_witness2
 case hc=>
  refine L2.walk_ofE (l:=PySem.Challenge.rw_earmarks_k55_whole_clash_is_shown) (n:=63) (k:=14) (x:="_law_script") (CX:=L2.CX0) rfl (by decide) (by kernel_rfl) ⟨rfl,by decide,by decide⟩ ?F (λ_ _ _ _ z=>z)
  intro w mg fa h Y G hmg0;obtain⟨K,KX,c⟩:=Y;have hmg:mg ("law" : PySem.Str)=some (.ref fa):=by
   have e:(HandSHeadRun.topDef (OpenLaw.row PySem.Challenge.rw_earmarks_k55_whole_clash_is_shown).prog 89).name=("law" : PySem.Str):=by kernel_rfl
   rw[←e];exact hmg0
  have T:Pr.Top w K mg:=⟨⟨h,KX,G⟩,c⟩;have e:=hmg.symm.trans (T.glo 101);cases e;obtain⟨fd,F⟩:=T.c.Vj 101;have b:=L2.FunD.bindsA (ps:=["_law_script"]) F λ_ _ _ _ _ _ us hl=>match us,hl with|[_],_=>rfl
  exact⟨K,fd,λvs H Q _=>Rf.Jc K (Pr.aj w K) 1 Pr.WT vs H Q λ_ _ _=>False,KX,λs v=>b s [v] rfl,λH a ns hl _ hS=>(Pr.afd ns hl).elim λ_ z=>Rf.akB rfl hS z,λbase _ _=>Rf.abC (Pr.akF T F)⟩

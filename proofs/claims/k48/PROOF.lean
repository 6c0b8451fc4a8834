import PyProof.Rows.All
import HandS.ForMost
import HandS.Evl
import HandS.Walk
import HandS.Zip
import HandS.IsInst
import HandS.Style
import HandS.FStr
import HandS.Strs
import HandS.TupAny
import HandS.Deep
import HandS.TryOnly
import HandS.WordsExc
import KE.DataMinMax
import KE.SortData
import HandS.SortKw
import HandS.TupSets
import HandS.SetBool
import HandS.DictComp
import HandS.Conv
import KE.KDictKeyed
import HandS.ExcField
import HandS.ExcInit
import HandS.TryMany
import HandS.HeadHook4
import HandS.HeadEnd
import HandS.Head2
import HandS.Flow
import KE.GoesEnumKw
import PySem.Challenge.RW_earmarks_k48_seen_and_gathered
set_option Elab.async false
set_option linter.all false
set_option maxRecDepth 100000
set_option maxHeartbeats 2000000
def auZ:True:=trivial
abbrev au0:=@False.elim
abbrev au1:=@decide_eq_true_eq
abbrev au2:=@of_decide_eq_true
def atv:=@Option.bind_eq_some_iff
def atw:=@PySem.W.Frag
def atx:=@Bool.and_eq_true
def aty:=@List.getElem?_eq_some_iff
def atz:=@List.getElem?_eq_getElem
def atA:=@List.mem_cons_of_mem
def atD:=@List.mem_cons_self
def atE:=@List.map_cons
def atF:=@List.mem_singleton
def atG:=@List.mem_of_getElem?
def atH:=@List.getElem?_set_ne
def atJ:=@List.length_map
def atL:=@List.mem_append
def atM:=@List.mem_map
def atN:=@List.getElem?_append_left
def atO:=@List.mem_cons
def atQ:=@List.length_cons
def atR:=@List.getElem?_map
def atU:=@List.length_filter_le
def atV:=@Bool.not_eq_true'
def atX:=@List.getElem?_set_self
def atY:=@Option.some.inj
def atZ:=@List.getElem?_append_right
def at3:=@Nat.le_trans
def at4:=@List.mem_filter
def at5:=@Function.comp_def
def at6:=@Nat.le_refl
def at7:=@List.all_eq_true
def at8:=@List.length_set
def at9:=@List.ext_getElem?
def aua:=@List.map_map
def aub:=@List.lookup_cons
def auc:=@List.not_mem_nil
def aud:=@Bool.false_eq_true
def aue:=@List.getElem?_eq_none
def auf:=@Nat.ne_of_lt
def auh:=@Array.length_toList
def aui:=@List.mem_append_left
def auj:=@List.length_append
def auk:=@List.all_cons
def aul:=@List.mem_append_right
def aum:=@List.getElem_mem
def aun:=@Option.map_eq_some_iff
def auo:=@Nat.zero_le
def aup:=@List.getElem?_mapIdx
def auq:=@List.filter_cons
def aur:=@List.append_nil
def aus:=@List.drop_eq_getElem_cons
def aut:=@Array.getElem?_toList
def auu:=@List.pairwise_mergeSort
def auv:=@List.nodup_append
def auw:=@List.length_reverse
def auy:=@Nat.succ.inj
def auz:=@List.drop_length
def auA:=@List.getElem?_zip_eq_some
def auB:=@Bool.or_eq_true
def auC:=@List.nodup_cons
def auD:=@Nat.lt_succ_of_lt
def auE:=@List.getElem?_set
def auF:=@List.any_cons
def auG:=@List.map_nil
def auH:=@List.zip_cons_cons
def auI:=@Bool.eq_iff_iff
def auJ:=@List.foldl_cons
def auK:=@List.reverse_cons
def auL:=@List.mem_of_mem_take
def auM:=@List.mergeSort_perm
def auN:=@List.eraseDups_cons
def auO:=@List.filter_eq_self
def auP:=@List.filter_filter
def auQ:=@List.Pairwise.imp
def auR:=@List.size_toArray
def auS:=@List.nodup_nil
def auT:=@List.drop_zero
def auU:=@List.any_map
def auV:=@List.length_drop
def auW:=@PySem.W.AllAlike.of
def auX:=@Nat.add_sub_cancel'
def auY:=@Nat.add_left_cancel
namespace Rf
open PySem PySem.Spec PyProof.Rows L2 HandSHeadRun
def au3:=@wpAny_bind
def au4:=@wpAny_pure
def au5:=@if_pos
def au6:=@if_neg
def au7:=@upd_same
def au8:=@eq_of_beq
abbrev Dat:=PyData
abbrev Ft:=List (Str×List Str)
structure Ql(fa:List He.Fa)(fn:List He.DefD)(tb:List He.Tab)(ex:atw->Bool)(w:World)(K:atw):Prop where
 t:He.SaysT fa fn tb w K
 more:ex K=true
def adQ(as:List Addr)(fa:List He.Fa)(fn:List He.DefD)(tb:List He.Tab)(ex:atw->Bool)(g:Addr->Option Obj):He.AlX:=(He.obsT fa fn tb (He.frG g as),ex (He.frG g as))
def adK(as:List Addr)(fa:List He.Fa)(fn:List He.DefD)(tb:List He.Tab)(ex:atw->Bool):PySem.W.Hook where
 α:=He.AlX
 obs:=λs=>adQ as fa fn tb ex s.heap.get?
 val:=λw=>He.valX fn tb w
 says:=λw h=>∃K:atw,K.In h/\Ql fa fn tb ex w K
 of:=λw s e=>⟨_,He.frG_in,⟨congrArg (λz:He.AlX=>z.1) e,congrArg (λz:He.AlX=>z.2) e⟩⟩
 keeps:=λ_ _ _ ⟨K,hK,c⟩ k=>⟨K,PySem.W.Frag.In.keeps hK k,c⟩
theorem ajk{as:List Addr}{fa:List He.Fa}{fn:List He.DefD}{tb:List He.Tab}{ex:atw->Bool}{g:Addr->Option Obj}{s:Shared}(h:∀a,g a=s.heap.get? a):adQ as fa fn tb ex g=(adK as fa fn tb ex).obs s:=by rw[show g=s.heap.get? from funext h];rfl
def Oz(K:atw)(ft:Ft):Bool:=ft.all λp=>(He.Fa.cls p.1).ok K&&p.2.all λf=>(He.Fa.noat p.1 f).ok K
def xmB(K:atw)(xm:List (Str×List (Str×Bool))):Bool:=xm.all λp=>p.2.all λq=>(He.Fa.exm q.1 p.1 q.2).ok K
def akO(K:atw)(C:Addr):Bool:=(match K.lookup C with
 |some ⟨.type t,_,.cls cd,sl⟩=>decide (t="type")&&(match cd.mro,sl.toList with
  |.ref C'::bm,[_,_,_,_,some (.builtin n),_]=>decide (C'=C)&&(decide (n="ValueError.__new__")&&(!cd.hasDel&&(cd.hasDict&&PySem.HandSPX.refsVE bm)))
  |_,_=>false)
 |_=>false)&&(He.eqO (PySem.W.findIn K (.ref C) "__setattr__") (some (some (.builtin "object.__setattr__")))&&(decide (PySem.W.subIn K (.ref C) (.type "BaseException")=some true)&&(decide (PySem.W.typeIn K (.ref C)=some (.type "type"))&&PySem.W.keepIn K (.ref C))))
def Vn(K:atw)(x:Str)(fs:List Str):Bool:=akO K (He.ga K x)&&(He.eqO (PySem.W.findIn K (.ref (He.ga K x)) "__init__") (some (some (.ref (He.ma K (He.ga K x) "__init__"))))&&(decide (PySem.W.typeIn K (.ref (He.ma K (He.ga K x) "__init__"))=some (.type "function"))&&(xfB K (He.ga K x)&&fs.all λf=>He.eqO (PySem.W.findIn K (.ref (He.ga K x)) f) (some none))))
def Zq(K:atw)(a:Addr)(xs:List Str):Bool:=match K.lookup a with
 |some ⟨.type c,_,.seq its _,_⟩=>decide (c="tuple")&&(decide (its.size<=sizeLine)&&He.relAll (xs.map V.str) its.toList)
 |_=>false
def ag9(K:atw)(x:Str)(kvs:List (Str×List Str)):Bool:=(match K.lookup (He.ga K x) with
 |some ⟨_,_,.dict es _,_⟩=>es.toList.all (λe=>(match e.key with
   |.str y _=>(kvs.map (·.1)).contains y
   |_=>false)&&!e.refKey)
 |_=>false)&&(decide ((kvs.map (·.1)).Nodup)&&kvs.all λq=>match PySem.W.nsIn K (He.ga K x) q.1 with
  |some (some (.ref a))=>Zq K a q.2
  |_=>false)
section
open PySem.W PySem.Calls
noncomputable abbrev amF (r:PySem.W.OpenRow) (M:Nat) (w:World) (os:PySem.OsState):Option PySem.W.SharedT:=endF (stepQ (denQ tabQ) r.prog w) M r.prog w os
def ahr(r:PySem.W.OpenRow)(q:Program)(as:List Addr)(ex:atw->Bool)(M:Nat)(loose:List Str)(w:World):Prop:=∀os,(amF r M w os).map (λs=>(looksF r.prog (boot_heap w.params) s.abs,HandSHeadRun.seenQ q loose (importedModules r.prog.main.body) (λs=>PySem.W.xlAt q [] s&&PySem.W.recOk r.toRowW.records s) s.abs,ex (He.frG (getT s) as)))=some (true,PySem.W.openGood q loose,true)
def agO(r:PySem.W.OpenRow)(as:List Addr)(fa:List He.Fa)(fn:List He.DefD)(tb:List He.Tab)(M:Nat)(w:World):Prop:=∀os,(amF r M w os).map (λs=>He.obsT fa fn tb (He.frG (getT s) as))=some (He.valT fn tb w)
theorem X6{r:PySem.W.OpenRow}{q:Program}{as:List Addr}{fa:List He.Fa}{fn:List He.DefD}{i:List He.Tab}{e:atw->Bool}{M:Nat}{b:List Str}{w:World}(a:ahr r q as e M b w)(c:agO r as [] fn i M w)(z:agO r as fa [] [] M w):RunEq r q (adK as fa fn i e) (λs=>adQ as fa fn i e (getT s)) M b w:=λos=>by
 obtain⟨s,j,f⟩:=Option.map_eq_some_iff.mp (a os);obtain⟨f,g⟩:=Prod.mk.inj f;obtain⟨g,k⟩:=Prod.mk.inj g;have d:=c os;have l:=z os;have h:endF (stepQ (denQ tabQ) r.prog w) M r.prog w os=some s:=j;rw[j,Option.map_some]at d l;have l:=(He.ba (Prod.mk.inj (Prod.mk.inj (Option.some.inj l)).1).1).1
 have o:He.obsT fa fn i (He.frG (getT s) as)=He.valT fn i w:=by
  show ((fa.all (λf=>f.ok _)&&_,_),_)=_
  rw[l];exact Option.some.inj d
 rw[h,Option.map_some];exact congrArg some (Prod.ext f (Prod.ext g (Prod.ext o k)))
end
end Rf
namespace Pr
open PySem PySem.Spec PyProof.Rows L2 Evl Rf
def cZ:Dat:=.int 9
def jK:Dat:=.int 1
def lW:Dat:=.int 3
def iK:Dat:=.int 9
def jB:Dat:=.tuple [.str "lt",.str "lf",.str "lh",.str "rt",.str "rf",.str "rh"]
def jQ:Dat:=.tuple [.int 0,.int 0,.int 0,.int 0,.int 0,.int 0]
def qN:Dat:=.int 999999999
def Ay:List (Str×List Str):=[("owner",[]),("ground",["number"]),("enrol",["number","number","ear"]),("leave",["number","number"]),("bring",["number","number","ear"]),("bear",["number"]),("cut",["number"]),("tear",["number","place"]),("sell",["number","number"]),("move",["number","number"]),("die",["number"]),("unite",["number","number"]),("part",["number"]),("pass",["number","number"]),("heir",["number","number","number"])]
def lN:Ft:=[("Beast",["story","mother","owner","ground","due","ear","alive"]),("Herd",["beasts"]),("Grounds",["allowances","circles"]),("Rights",["held"]),("Commons",["owner_count","holders","grounds","rights","herd"])]
def oX:List (Str×Bool):=[("NoOwner",true),("NoGround",true),("NoRight",true),("HasRight",true),("NoneFree",true),("BadExtra",true),("BadAllowance",true),("Clash",true),("BadEar",true),("Bare",true),("StillThere",true),("NoBeast",true),("Dead",true),("Unmarked",true),("Deepest",true),("NoPlace",true),("SameOwner",true),("SameGround",true),("Together",true),("Alone",true),("BadDeed",true)]
def uL:List (Str×Bool):=[("NoOwner",false),("NoGround",true),("NoRight",false),("HasRight",false),("NoneFree",false),("BadExtra",false),("BadAllowance",false),("Clash",false),("BadEar",false),("Bare",false),("StillThere",false),("NoBeast",false),("Dead",false),("Unmarked",false),("Deepest",false),("NoPlace",false),("SameOwner",false),("SameGround",false),("Together",false),("Alone",false),("BadDeed",false)]
def HW:List (Str×Bool):=[("NoOwner",false),("NoGround",false),("NoRight",false),("HasRight",false),("NoneFree",false),("BadExtra",false),("BadAllowance",false),("Clash",false),("BadEar",true),("Bare",false),("StillThere",false),("NoBeast",false),("Dead",false),("Unmarked",false),("Deepest",false),("NoPlace",false),("SameOwner",false),("SameGround",false),("Together",false),("Alone",false),("BadDeed",false)]
def xmH:List (Str×List (Str×Bool)):=[("CommonError",oX),("NoGround",uL),("BadEar",HW)]
def dfH:List (Str×Bool):=[("held",true),("holders",false)]
def X5:List (Str×List Str):=[("Clash",["ones","others","ear"])]
def aY(i:Nat):Stmt:=PySem.Challenge.pw_earmarks_k48_seen_and_gathered.main.body.getD i (.Pass ⟨0,0,0,0⟩)
abbrev JF:Stmt:=inClass (aY 50) 0
abbrev Mq:Stmt:=inClass (aY 55) 0
abbrev Rb:Stmt:=inClass (aY 35) 0
abbrev Je:Stmt:=inClass (aY 66) 0
abbrev agI:Stmt:=aY 88
abbrev s_row:Stmt:=aY 70
abbrev aby:Stmt:=aY 72
abbrev ait:Stmt:=aY 76
abbrev QM:Stmt:=aY 89
abbrev XR:Stmt:=aY 90
abbrev zL:Stmt:=inClass (aY 66) 33
abbrev Iz:Stmt:=inClass (aY 50) 3
abbrev Mx:Stmt:=inClass (aY 50) 2
abbrev JW:Stmt:=inClass (aY 50) 4
abbrev Ji:Stmt:=inClass (aY 55) 3
abbrev Ck:Stmt:=inClass (aY 55) 4
abbrev zM:Stmt:=inClass (aY 66) 34
abbrev Ad:Stmt:=inClass (aY 66) 1
abbrev Cj:Stmt:=inClass (aY 55) 2
abbrev agC:Stmt:=aY 47
abbrev ac9:Stmt:=aY 44
abbrev Q8:Stmt:=aY 52
abbrev acN:Stmt:=aY 45
abbrev afO:Stmt:=aY 46
abbrev N7:Stmt:=aY 53
abbrev zH:Stmt:=inClass (aY 66) 35
abbrev CW:Stmt:=inClass (aY 50) 6
abbrev CK:Stmt:=inClass (aY 66) 19
abbrev aaO:Stmt:=aY 57
abbrev Dz:Stmt:=inClass (aY 35) 5
abbrev JG:Stmt:=inClass (aY 35) 6
abbrev Ab:Stmt:=inClass (aY 55) 7
abbrev xO:Stmt:=inClass (aY 66) 22
abbrev Cm:Stmt:=inClass (aY 66) 21
abbrev Aa:Stmt:=inClass (aY 50) 5
abbrev JT:Stmt:=inClass (aY 50) 7
abbrev JL:Stmt:=inClass (aY 66) 18
abbrev CP:Stmt:=inClass (aY 66) 15
abbrev zG:Stmt:=inClass (aY 50) 1
abbrev zq:Stmt:=inClass (aY 66) 2
abbrev Xv:Stmt:=aY 58
abbrev acR:Stmt:=aY 43
abbrev T5:Stmt:=aY 59
abbrev zN:Stmt:=inClass (aY 66) 36
abbrev ZS:Stmt:=aY 28
abbrev S9:Stmt:=aY 65
abbrev HX:Stmt:=inClass (aY 66) 3
abbrev Mz:Stmt:=inClass (aY 55) 5
abbrev GX:Stmt:=inClass (aY 66) 4
abbrev Fg:Stmt:=inClass (aY 34) 1
abbrev ade:Stmt:=aY 30
abbrev Om:Stmt:=inClass (aY 34) 0
abbrev Fb:Stmt:=inClass (aY 35) 1
abbrev Hz:Stmt:=inClass (aY 66) 5
abbrev O8:Stmt:=inClass (aY 35) 2
abbrev Mh:Stmt:=inClass (aY 35) 3
abbrev LR:Stmt:=inClass (aY 35) 4
abbrev Jl:Stmt:=inClass (aY 66) 6
abbrev Uq:Stmt:=aY 32
abbrev Xp:Stmt:=aY 31
abbrev MF:Stmt:=inClass (aY 34) 2
abbrev IV:Stmt:=inClass (aY 34) 3
abbrev LK:Stmt:=inClass (aY 66) 7
abbrev JH:Stmt:=inClass (aY 66) 8
abbrev Mf:Stmt:=inClass (aY 35) 8
abbrev Cr:Stmt:=inClass (aY 35) 9
abbrev Jd:Stmt:=inClass (aY 66) 9
abbrev JQ:Stmt:=inClass (aY 66) 10
abbrev Mw:Stmt:=inClass (aY 66) 11
abbrev Uz:Stmt:=aY 60
abbrev CV:Stmt:=inClass (aY 66) 24
abbrev Ds:Stmt:=inClass (aY 50) 10
abbrev Gy:Stmt:=inClass (aY 50) 8
abbrev GZ:Stmt:=inClass (aY 66) 12
abbrev IW:Stmt:=inClass (aY 50) 9
abbrev Jp:Stmt:=inClass (aY 66) 13
abbrev Cp:Stmt:=inClass (aY 55) 6
abbrev Nk:Stmt:=inClass (aY 35) 7
abbrev Dt:Stmt:=inClass (aY 66) 14
abbrev Ra:Stmt:=aY 40
abbrev aeU:Stmt:=aY 39
abbrev M8:Stmt:=inClass (aY 66) 16
abbrev aeB:Stmt:=aY 91
abbrev aeS:Stmt:=aY 71
abbrev Yv:Stmt:=aY 73
abbrev aiF:Stmt:=aY 74
abbrev afX:Stmt:=aY 75
abbrev af2:Stmt:=aY 92
abbrev Pn:Stmt:=inClass (aY 34) 4
abbrev FP:Stmt:=inClass (aY 66) 17
abbrev Du:Stmt:=inClass (aY 55) 1
abbrev JD:Stmt:=inClass (aY 66) 32
abbrev acU:Stmt:=aY 77
abbrev agc:Stmt:=aY 84
abbrev Yo:Stmt:=aY 85
abbrev Yw:Stmt:=aY 86
abbrev acw:Stmt:=aY 82
abbrev Um:Stmt:=aY 87
abbrev aix:Stmt:=aY 78
abbrev aio:Stmt:=aY 79
abbrev Z5:Stmt:=aY 80
abbrev JM:Stmt:=aY 81
abbrev Vj:Stmt:=aY 83
abbrev acq:Stmt:=aY 68
abbrev acd:Stmt:=aY 69
abbrev ZJ:Stmt:=aY 97
abbrev abo:Stmt:=aY 42
abbrev QS:Stmt:=aY 61
abbrev Ht:Stmt:=inClass (aY 66) 25
abbrev Nf:Stmt:=aY 95
abbrev Gg:Stmt:=inClass (aY 66) 26
abbrev Mp:Stmt:=aY 96
abbrev acp:Stmt:=aY 98
abbrev acy:Stmt:=aY 99
abbrev ac8:Stmt:=aY 93
abbrev Yt:Stmt:=aY 94
abbrev Qc:Stmt:=aY 100
abbrev Pb:Stmt:=inClass (aY 23) 0
abbrev dM(c m q:Str)(s:Stmt):He.DefD:=⟨(c,some m),m,q,defArgs s,defBody s,defScope s,[],[]⟩
abbrev dF(x:Str)(s:Stmt):He.DefD:=⟨(x,none),x,x,defArgs s,defBody s,defScope s,[],[]⟩
def xsH:List Str:=["Grounds","Rights","Herd","Commons","NoOwner","NoGround","NoRight","HasRight","NoneFree","BadExtra","BadAllowance","Clash","BadEar","Bare","StillThere","Beast","NoBeast","Dead","Unmarked","Deepest","NoPlace","SameOwner","SameGround","Together","Alone","BadDeed","CommonError"]
def tbs:List He.Tab:=[(λK=>He.ga K "SHAPES",["owner","ground","enrol","leave","bring","bear","cut","tear","sell","move","die","unite","part","pass","heir"])]
def nm0:List PySem.Str:=["_wall","CommonError","BadEar","Bare","BadAllowance","BadExtra","NoPlace","Deepest","NoOwner","NoGround","NoBeast","NoRight"]
def nm1:List PySem.Str:=["HasRight","StillThere","Dead","Unmarked","SameOwner","SameGround","Together","Alone","NoneFree","BadDeed","Clash","PLACES"]
def nm2:List PySem.Str:=["GREATEST_DEPTH","BARE_EAR","is_ear","begun","gone_on","deepened","Beast","Herd","SHAPES","GREATEST_PART","fits","part_fits"]
def nm3:List PySem.Str:=["deeper","joint","lacks","apart","meet","torn","GREATEST_ALLOWANCE","Grounds","offspring","first_free","Rights","tidied"]
def nm4:List PySem.Str:=["barring","ask_room","clashing","owners_of","FEWEST_EXTRA","MOST_EXTRA","need_ear","Commons","_law_below","_law_tears","_law_row","_law_near"]
def nm5:List PySem.Str:=["_law_ear_by","_law_mark_by","_law_ref","_law_deed","_law_ear","_law_asked","_law_cut","_law_raw","_law_spoilt","_law_ground_there","_law_whole","_law_like"]
def nm6:List PySem.Str:=["_law_once","_law_rows_of","_law_room_of","_law_ear_kind","_law_cell","_law_begun","_law_word_by","_law_done","_law_play","_law_named","_law_done_so","_law_whose_told"]
def nm7:List PySem.Str:=["_law_gather_told","_law_may_be","_law_right","_law_turns"]
def nm:List PySem.Str:=nm0++nm1++nm2++nm3++nm4++nm5++nm6++nm7
def fa0:List He.Fa:=[.mkr "Grounds",.mkr "Rights",.mkr "Herd",.mkr "Commons",.glo "_law_cell",.glo "_law_row",.glo "_law_ear_by",.glo "_law_ear",.glo "_law_begun",.glo "_law_word_by",.meth "Commons" "need_owner",.meth "Grounds" "many"]
def fa1:List He.Fa:=[.meth "Grounds" "has",.meth "Grounds" "need",.meth "Rights" "marks",.meth "Rights" "has_right",.meth "Commons" "need_right",.meth "Commons" "new_owner",.meth "Rights" "add_right",.glo "torn",.glo "lacks",.glo "offspring",.glo "apart",.glo "meet"]
def fa2:List He.Fa:=[.glo "first_free",.meth "Commons" "first_mark",.meth "Grounds" "together",.meth "Commons" "together",.glo "tidied",.meth "Herd" "all_living",.meth "Herd" "grazing",.meth "Rights" "in_grounds",.meth "Commons" "standing_but",.meth "Commons" "standing",.meth "Grounds" "allowance",.meth "Grounds" "room"]
def fa3:List He.Fa:=[.meth "Commons" "room",.meth "Commons" "new_heir",.meth "Grounds" "add_ground",.meth "Commons" "new_ground",.glo "barring",.glo "joint",.glo "ask_room",.meth "Commons" "ask_ground",.glo "is_ear",.glo "need_ear",.meth "Commons" "enrol",.meth "Rights" "drop"]
def fa4:List He.Fa:=[.meth "Commons" "leave",.meth "Beast" "stand_so",.glo "begun",.mkr "Beast",.meth "Herd" "add_beast",.meth "Commons" "bring",.meth "Herd" "known",.meth "Herd" "living",.meth "Herd" "marked",.meth "Commons" "bear",.glo "deepened",.glo "gone_on"]
def fa5:List He.Fa:=[.meth "Beast" "stand",.meth "Beast" "befall",.meth "Commons" "cut",.meth "Commons" "tear",.meth "Herd" "calves",.meth "Herd" "lead_calves",.meth "Commons" "sell",.meth "Commons" "move",.meth "Commons" "die",.glo "clashing",.meth "Commons" "quarrels",.meth "Grounds" "enclose"]
def fa6:List He.Fa:=[.meth "Grounds" "unite",.meth "Commons" "unite",.meth "Grounds" "part",.meth "Commons" "part",.meth "Rights" "hand_over",.meth "Herd" "owned",.meth "Commons" "pass_on",.glo "part_fits",.glo "fits",.meth "Commons" "do",.glo "_law_done",.glo "_law_near"]
def fa7:List He.Fa:=[.glo "_law_mark_by",.glo "_law_ref",.glo "_law_deed",.glo "_law_play",.meth "Beast" "told",.meth "Commons" "owners",.meth "Rights" "all_rows",.meth "Commons" "look",.glo "_law_asked",.glo "_law_once",.glo "_law_rows_of",.glo "_law_room_of"]
def fa8:List He.Fa:=[.glo "_law_whole",.glo "_law_ear_kind",.glo "_law_cut",.glo "_law_raw",.glo "_law_spoilt",.glo "_law_ground_there",.glo "_law_like",.glo "_law_below",.glo "_law_tears",.glo "_law_may_be",.glo "deeper",.glo "owners_of"]
def fa9:List He.Fa:=[.meth "Commons" "whose",.glo "_law_whose_told",.meth "Commons" "gather",.glo "_law_gather_told",.glo "_law_right",.glo "_law_turns",.glo "_law_named",.glo "_law_done_so",.glo "law",.glo "Grounds",.glo "Rights",.glo "Herd"]
def apj:List He.Fa:=[.glo "Commons",.glo "NoOwner",.exc "NoOwner",.glo "NoGround",.exc "NoGround",.glo "NoRight",.exc "NoRight",.glo "HasRight",.exc "HasRight",.glo "NoneFree",.exc "NoneFree",.glo "BadExtra"]
def ape:List He.Fa:=[.exc "BadExtra",.glo "BadAllowance",.exc "BadAllowance",.glo "Clash",.glo "BadEar",.exc "BadEar",.glo "Bare",.exc "Bare",.glo "StillThere",.exc "StillThere",.glo "Beast",.glo "NoBeast"]
def aoR:List He.Fa:=[.exc "NoBeast",.glo "Dead",.exc "Dead",.glo "Unmarked",.exc "Unmarked",.glo "Deepest",.exc "Deepest",.glo "NoPlace",.exc "NoPlace",.glo "SameOwner",.exc "SameOwner",.glo "SameGround"]
def aoX:List He.Fa:=[.exc "SameGround",.glo "Together",.exc "Together",.glo "Alone",.exc "Alone",.glo "BadDeed",.exc "BadDeed",.glo "CommonError",.exc "CommonError",.glo "SHAPES",.int "GREATEST_DEPTH" 9,.int "FEWEST_EXTRA" 1]
def apg:List He.Fa:=[.int "MOST_EXTRA" 3,.int "GREATEST_ALLOWANCE" 9,.glo "PLACES",.glo "BARE_EAR",.int "GREATEST_PART" 999999999,.free "len",.free "range",.free "abs",.free "tuple",.free "max",.free "min",.free "sum"]
def apC:List He.Fa:=[.free "zip",.free "any",.free "list",.free "sorted",.free "set",.free "enumerate",.free "all",.free "isinstance",.free "int",.free "bool",.free "str"]
def fa:List He.Fa:=fa0++fa1++fa2++fa3++fa4++fa5++fa6++fa7++fa8++fa9++apj++ape++aoR++aoX++apg++apC
def fn0:List He.DefD:=[dM "Grounds" "__init__" "Grounds.__init__" JF,dM "Rights" "__init__" "Rights.__init__" Mq,dM "Herd" "__init__" "Herd.__init__" Rb,dM "Commons" "__init__" "Commons.__init__" Je,dF "_law_cell" agI,dF "_law_row" s_row,dF "_law_ear_by" aby,dF "_law_ear" ait,dF "_law_begun" QM,dF "_law_word_by" XR,dM "Commons" "need_owner" "Commons.need_owner" zL,dM "Grounds" "many" "Grounds.many" Iz]
def fn1:List He.DefD:=[dM "Grounds" "has" "Grounds.has" Mx,dM "Grounds" "need" "Grounds.need" JW,dM "Rights" "marks" "Rights.marks" Ji,dM "Rights" "has_right" "Rights.has_right" Ck,dM "Commons" "need_right" "Commons.need_right" zM,dM "Commons" "new_owner" "Commons.new_owner" Ad,dM "Rights" "add_right" "Rights.add_right" Cj,dF "torn" agC,dF "lacks" ac9,dF "offspring" Q8,dF "apart" acN,dF "meet" afO]
def fn2:List He.DefD:=[dF "first_free" N7,dM "Commons" "first_mark" "Commons.first_mark" zH,dM "Grounds" "together" "Grounds.together" CW,dM "Commons" "together" "Commons.together" CK,dF "tidied" aaO,dM "Herd" "all_living" "Herd.all_living" Dz,dM "Herd" "grazing" "Herd.grazing" JG,dM "Rights" "in_grounds" "Rights.in_grounds" Ab,dM "Commons" "standing_but" "Commons.standing_but" xO,dM "Commons" "standing" "Commons.standing" Cm,dM "Grounds" "allowance" "Grounds.allowance" Aa,dM "Grounds" "room" "Grounds.room" JT]
def fn3:List He.DefD:=[dM "Commons" "room" "Commons.room" JL,dM "Commons" "new_heir" "Commons.new_heir" CP,dM "Grounds" "add_ground" "Grounds.add_ground" zG,dM "Commons" "new_ground" "Commons.new_ground" zq,dF "barring" Xv,dF "joint" acR,dF "ask_room" T5,dM "Commons" "ask_ground" "Commons.ask_ground" zN,dF "is_ear" ZS,dF "need_ear" S9,dM "Commons" "enrol" "Commons.enrol" HX,dM "Rights" "drop" "Rights.drop" Mz]
def fn4:List He.DefD:=[dM "Commons" "leave" "Commons.leave" GX,dM "Beast" "stand_so" "Beast.stand_so" Fg,dF "begun" ade,dM "Beast" "__init__" "Beast.__init__" Om,dM "Herd" "add_beast" "Herd.add_beast" Fb,dM "Commons" "bring" "Commons.bring" Hz,dM "Herd" "known" "Herd.known" O8,dM "Herd" "living" "Herd.living" Mh,dM "Herd" "marked" "Herd.marked" LR,dM "Commons" "bear" "Commons.bear" Jl,dF "deepened" Uq,dF "gone_on" Xp]
def fn5:List He.DefD:=[dM "Beast" "stand" "Beast.stand" MF,dM "Beast" "befall" "Beast.befall" IV,dM "Commons" "cut" "Commons.cut" LK,dM "Commons" "tear" "Commons.tear" JH,dM "Herd" "calves" "Herd.calves" Mf,dM "Herd" "lead_calves" "Herd.lead_calves" Cr,dM "Commons" "sell" "Commons.sell" Jd,dM "Commons" "move" "Commons.move" JQ,dM "Commons" "die" "Commons.die" Mw,dF "clashing" Uz,dM "Commons" "quarrels" "Commons.quarrels" CV,dM "Grounds" "enclose" "Grounds.enclose" Ds]
def fn6:List He.DefD:=[dM "Grounds" "unite" "Grounds.unite" Gy,dM "Commons" "unite" "Commons.unite" GZ,dM "Grounds" "part" "Grounds.part" IW,dM "Commons" "part" "Commons.part" Jp,dM "Rights" "hand_over" "Rights.hand_over" Cp,dM "Herd" "owned" "Herd.owned" Nk,dM "Commons" "pass_on" "Commons.pass_on" Dt,dF "part_fits" Ra,dF "fits" aeU,dM "Commons" "do" "Commons.do" M8,dF "_law_done" aeB,dF "_law_near" aeS]
def fn7:List He.DefD:=[dF "_law_mark_by" Yv,dF "_law_ref" aiF,dF "_law_deed" afX,dF "_law_play" af2,dM "Beast" "told" "Beast.told" Pn,dM "Commons" "owners" "Commons.owners" FP,dM "Rights" "all_rows" "Rights.all_rows" Du,dM "Commons" "look" "Commons.look" JD,dF "_law_asked" acU,dF "_law_once" agc,dF "_law_rows_of" Yo,dF "_law_room_of" Yw]
def fn8:List He.DefD:=[dF "_law_whole" acw,dF "_law_ear_kind" Um,dF "_law_cut" aix,dF "_law_raw" aio,dF "_law_spoilt" Z5,dF "_law_ground_there" JM,dF "_law_like" Vj,dF "_law_below" acq,dF "_law_tears" acd,dF "_law_may_be" ZJ,dF "deeper" abo,dF "owners_of" QS]
def fn9:List He.DefD:=[dM "Commons" "whose" "Commons.whose" Ht,dF "_law_whose_told" Nf,dM "Commons" "gather" "Commons.gather" Gg,dF "_law_gather_told" Mp,dF "_law_right" acp,dF "_law_turns" acy,dF "_law_named" ac8,dF "_law_done_so" Yt,dF "law" Qc,dM "Clash" "__init__" "Clash.__init__" Pb]
def fn:List He.DefD:=fn0++fn1++fn2++fn3++fn4++fn5++fn6++fn7++fn8++fn9
def exB(K:atw):Bool:=true&&Oz K lN&&xmB K xmH&&(X5.all λp=>xsH.contains p.1&&Vn K p.1 p.2)&&ag9 K "SHAPES" Ay&&He.tupB K "PLACES" [.str "lt",.str "lf",.str "lh",.str "rt",.str "rf",.str "rh"]&&He.tupB K "BARE_EAR" [.int 0,.int 0,.int 0,.int 0,.int 0,.int 0]
def ad0:List Addr:=[3,31,44,56,68,80,92,104,116,128,140,152,164,176,188,200,212,224,236,248,260,272,291,294]
def ad1:List Addr:=[295,300,307,314,319,364,447,452,472,479,484,489,494,501,508,513,596,605,610,670,681,686,693,698]
def ad2:List Addr:=[703,710,967,978,983,990,997,1002,1009,1016,1023,1030,1037,1044,1051,1058,1065,1072,1079,1086,1091,1096,1103,1110]
def ad3:List Addr:=[1117,1124,1131,1138,1145,1152,1159,1166,1173,1180,1187,1194,30,43,55,67,79,91,103,115,127,139,151,163]
def ad4:List Addr:=[175,187,199,211,223,235,247,259,271,290,299,306,313,318,363,446,453,454,455,456,457,458,459,460]
def ad5:List Addr:=[461,462,463,464,465,466,467,471,478,483,488,493,500,507,512,595,604,609,669,680,685,692,697,702]
def ad6:List Addr:=[709,966,977,982,989,996,1001,1008,1015,1022,1029,1036,1043,1050,1057,1064,1071,1078,1085,1090,1095,1102,1109,1116]
def ad7:List Addr:=[1123,1130,1137,1144,1151,1158,1165,1172,1179,1186,1193,29,32,42,54,66,78,90,102,114,126,138,150,162]
def ad8:List Addr:=[174,186,198,210,222,234,246,258,270,288,289,333,340,347,354,361,362,365,366,382,389,396,403,410]
def ad9:List Addr:=[415,420,425,430,437,444,445,448,449,527,534,541,548,555,562,569,574,581,586,593,594,597,598,624]
def aps:List Addr:=[631,638,643,650,657,662,667,668,671,672,724,731,738,745,750,757,764,771,778,785,792,799,806,813]
def aoN:List Addr:=[818,825,832,839,846,853,860,867,872,879,886,893,898,905,912,917,924,931,936,943,950,957,964,965]
def apd:List Addr:=[968,969,287,332,339,346,353,360,381,388,395,402,409,414,419,424,429,436,443,526,533,540,547,554]
def ao2:List Addr:=[561,568,573,580,585,592,623,630,637,642,649,656,661,666,723,730,737,744,749,756,763,770,777,784]
def apk:List Addr:=[791,798,805,812,817,824,831,838,845,852,859,866,871,878,885,892,897,904,911,916,923,930,935,942]
def ao0:List Addr:=[949,956,963]
def ad:List Addr:=ad0++ad1++ad2++ad3++ad4++ad5++ad6++ad7++ad8++ad9++aps++aoN++apd++ao2++apk++ao0
abbrev R:PySem.W.OpenRow:=PySem.W.OpenLaw.row PySem.Challenge.rw_earmarks_k48_seen_and_gathered
abbrev hkE:PySem.W.Hook:=adK ad fa fn tbs exB
def obE(s:PySem.W.SharedT):He.AlX:=adQ ad fa fn tbs exB (HandSHeadRun.getT s)
theorem amR(s:PySem.W.SharedT):obE s=hkE.obs s.abs:=ajk (HandSHeadRun.getT_eq s)
abbrev wR(w:World)(b:Bool):World:=w.withFollow "special-get-raises" b
theorem aot(w:World):ahr R (PySem.W.view R.prog [100]) ad exB 40000 nm (wR w false):=λos=>by kernel_rfl
theorem anP(w:World):agO R ad [] fn tbs 40000 (wR w false):=λos=>by kernel_rfl
theorem zzf(w:World):agO R ad fa [] [] 40000 (wR w false):=λos=>by kernel_rfl
theorem runAt(w:World):ahr R (PySem.W.view R.prog [100]) ad exB 40000 nm (wR w true):=λos=>by kernel_rfl
theorem anZ(w:World):agO R ad [] fn tbs 40000 (wR w true):=λos=>by kernel_rfl
theorem zzt(w:World):agO R ad fa [] [] 40000 (wR w true):=λos=>by kernel_rfl
theorem run(w:World):HandSHeadRun.RunEq R (PySem.W.view R.prog [100]) hkE obE 40000 nm w:=PySem.W.byRow2 "special-get-raises" (P:=λw=>HandSHeadRun.RunEq R (PySem.W.view R.prog [100]) hkE obE 40000 nm w) (λw=>X6 (aot w) (anP w) (zzf w)) (λw=>X6 (runAt w) (anZ w) (zzt w)) w
end Pr
namespace Ear
open PySem PySem.Spec PyProof.Rows L2 Evl RZ
section
variable{X:Cx}{C:Addr}{bmB:List Value}{B newId initId:String}
theorem ahJ{x:Str}{p pos:Pos}(F:ExcBaseFacts B newId initId bmB)(q:PySem.W.excIn X.K C bmB newId=true)(gC:X.mg x=some (.ref C))(kC:PySem.W.keepIn X.K (.ref C)=true)(r:Raises X (.ref C))(hg:Gl X x)
  (hn:(x==("__debug__" : Str))=false:=by decide):PMk X (.Call (.Name x p) [] [] pos) (λ_ H Q=>Q (.ref C) none H):=by
 intro pins s σ H Q I h;refine wpAny_Call_Name_kw (ld_glob I hg gC ?_ hn);refine PySem.W.callWith_K0 I.kIn kC ?_;show wpAny _ _ (call (.ref C) []) _ _ _;obtain⟨bm,N,nm,qn,bs,hdct,sn,sub,ab,col,dd,k0,k1,k2,k3,k5,mN,hC,hN,hni,T⟩:=exc_obj I.kIn q;refine wpAny_call_exc_subT F T hC hN hni (λh' e hm=>?_) (auo _);exact mk_of I hm r h (I.hok.gone hm.new)
end
theorem exm_one{K:atw}{S:Addr}(h1:PySem.W.subIn K (.ref S) (.type "BaseException")=some true)(h2:PySem.W.isClsIn K S=true)(h3:PySem.W.typeIn K (.ref S)=some (.type "type"))(h4:PySem.W.subIn K (.ref S) (.ref S)=some true) :
  PySem.W.exmOne K (.ref S) (.ref S)=some true:=by
 have e1:(PySem.W.subIn K (.ref S) (.type "BaseException")==some true)=true:=by rw[h1]<;>rfl
 have e2:((PySem.W.clsIn K S).isSome&&PySem.W.typeIn K (.ref S)==some (.type "type"))=true:=by rw[h3,atx];exact⟨h2,rfl⟩
 show(if (PySem.W.subIn K (.ref S) (.type "BaseException")==some true)=true then(if ((PySem.W.clsIn K S).isSome&&PySem.W.typeIn K (.ref S)==some (.type "type"))=true then PySem.W.subIn K (.ref S) (.ref S) else none) else none)=some true
 rw[if_pos e1,if_pos e2];exact h4
def aoL(xs:List Int):Prop:=xs.length=6/\∀x∈xs,0<=x/\x<=9
section
variable{K:atw}{σ:L2.St}{H:Hp}{te tl:TE}{tt:TT}{vs:List Nat}
def EvS(te:TE)(σ:L2.St)(H:Hp)(P:V->Hp->Prop):Prop:=∀H1,Ex H H1->∀Q:VK,(∀v H2,Ex H1 H2->P v H2->Q v H2)->te σ H1 Q
end
section
variable{K:atw}{σ:L2.St}{H H':Hp}{te ta tb:TE}{t:TT}{P R:V->Hp->Prop}{v:V}
theorem EvS.mono(e:Ex H H')(h:EvS te σ H P):EvS te σ H' P:=λH1 a Q q=>h H1 (e.trans a) Q q
theorem EvS.imp(h:EvS te σ H P)(k:∀v H',P v H'->R v H'):EvS te σ H R:=λH1 e Q q=>h H1 e Q λv H2 e2 p=>q v H2 e2 (k v H2 p)
end
end Ear
namespace Ear
open PySem PySem.Spec PyProof.Rows L2 Evl RZ
def fY{α:Type}(R:V->α->Prop)(ws:List V)(L:List α):Prop:=ws.length=L.length/\∀(i:Nat) (v:V) (x:α),ws[i]?=some v->L[i]?=some x->R v x
theorem fY.imp{α:Type}{R S:V->α->Prop}{ws:List V}{L:List α}(h:fY R ws L)(k:∀v x,R v x->S v x):fY S ws L:=⟨h.1,λi v x a b=>k v x (h.2 i v x a b)⟩
theorem fY.nil{α:Type}{R:V->α->Prop}:fY R [] []:=⟨rfl,λi v x a _=>by simp at a⟩
theorem fY.snoc{α:Type}{R:V->α->Prop}{ws:List V}{L:List α}{v:V}{x:α}(h:fY R ws L)(k:R v x):fY R (ws++[v]) (L++[x]):=by
 refine⟨by rw[auj,auj,h.1];rfl,λi u y a b=>?_⟩;by_cases hi:i<ws.length
 .rw[atN hi]at a;rw[atN (by rw[<-h.1];exact hi)]at b;exact h.2 i u y a b
 .rw[atZ (by omega)]at a;rw[atZ (by rw[<-h.1];omega),<-h.1]at b;have hj:i-ws.length=0:=by
   have:=(aty.mp a).1;simp only[atQ,List.length_nil]at this;omega
  rw[hj]at a b;cases a;cases b;exact k
def Ld(H:Hp)(v:V)(l:List Int):Prop:=∃h:Addr,v=.ref h/\H h=some (.tup (l.map V.int))
theorem Ld.mono{H H':Hp}(e:Ex H H'){v:V}{l:List Int}(h:Ld H v l):Ld H' v l:=by obtain⟨a,e1,h1⟩:=h;exact⟨a,e1,e _ _ h1⟩
theorem Ld.upd{H:Hp}{D:Addr}{acc:List V}{o:HO}(hD:H D=some (.lst acc)){v:V}{l:List Int}(h:Ld H v l):Ld (upd H D o) v l:=by obtain⟨a,e1,h1⟩:=h;refine⟨a,e1,?_⟩;rw[upd_ne (λz=>by rw[z,hD]at h1;cases h1)];exact h1
abbrev Rw:Type:=Int×List Int
def PL(H:Hp)(v:V)(r:Rw):Prop:=∃t m:Addr,v=.ref t/\H t=some (.tup [.int r.1,.ref m])/\H m=some (.tup (r.2.map V.int))
theorem PL.mono{H H':Hp}(e:Ex H H'){v:V}{r:Rw}(h:PL H v r):PL H' v r:=by obtain⟨t,m,e1,h1,h2⟩:=h;exact⟨t,m,e1,e _ _ h1,e _ _ h2⟩
theorem PL.upd{H:Hp}{D:Addr}{acc:List V}{o:HO}(hD:H D=some (.lst acc)){v:V}{r:Rw}(h:PL H v r):PL (upd H D o) v r:=by
 obtain⟨t,m,e1,h1,h2⟩:=h;refine⟨t,m,e1,?_,?_⟩
 .rw[upd_ne (λz=>by rw[z,hD]at h1;cases h1)];exact h1
 .rw[upd_ne (λz=>by rw[z,hD]at h2;cases h2)];exact h2
def an5(r:Rw):Prop:=1<=r.1/\aoL r.2
structure Tab(R:List Rw):Prop where
 len:R.length<=128
 ok:∀r∈R,an5 r
 few:∃D:List Rw,D.length<=64/\∀r∈R,r∈D
theorem Tab.sub{R S:List Rw}(h:Tab R)(hs:∀r∈S,r∈R)(hl:S.length<=128):Tab S:=by obtain⟨D,d1,d2⟩:=h.few;exact⟨hl,λr hr=>h.ok r (hs r hr),D,d1,λr hr=>d2 r (hs r hr)⟩
theorem fY.get{α:Type}{R:V->α->Prop}{ws:List V}{L:List α}(h:fY R ws L){i:Nat}{v:V}(g:ws[i]?=some v):∃x,L[i]?=some x/\R v x:=by
 have hi:=(aty.mp g).1;have hi':i<L.length:=by rw[<-h.1];exact hi
 exact⟨L[i],atz hi',h.2 i v _ g (atz hi')⟩
theorem fY.mem{α:Type}{R:V->α->Prop}{ws:List V}{L:List α}(h:fY R ws L){v:V}(m:v∈ws):∃x,x∈L/\R v x:=by obtain⟨i,hi,e⟩:=List.getElem_of_mem m;obtain⟨x,g,r⟩:=h.get (aty.mpr ⟨hi,e⟩);exact⟨x,atG g,r⟩
theorem fY.take{α:Type}{R:V->α->Prop}{ws:List V}{L:List α}(h:fY R ws L)(n:Nat):fY R (ws.take n) (L.take n):=by
 refine⟨by rw[List.length_take,List.length_take,h.1],λi v x a b=>?_⟩;rw[List.getElem?_take]at a b;by_cases c:i<n
 .rw[if_pos c]at a b;exact h.2 i v x a b
 .rw[if_neg c]at a;cases a
theorem fY.drop{α:Type}{R:V->α->Prop}{ws:List V}{L:List α}(h:fY R ws L)(n:Nat):fY R (ws.drop n) (L.drop n):=by refine⟨by rw[auV,auV,h.1],λi v x a b=>?_⟩;rw[List.getElem?_drop]at a b;exact h.2 _ v x a b
section
variable{X:Cx}
def ahk(xs:List V)(ds:List PyData)(x:V)(d:PyData):Prop:=∃i:Nat,xs[i]?=some x/\ds[i]?=some d
@[irreducible]def Ky (K:atw):List V->Hp->VK->Prop:=λvs H Q=>∃(a:Addr) (xs:List V) (ds:List PyData),vs=[V.ref a]/\SqL K H a xs/\DpAll K H xs ds/\PySem.W.AllAlike ds/\PySem.W.Sortable ds/\(∀d∈ds,d.depth<=60)/\
 ∀(ys:List V) (p:Addr),fY (ahk xs ds) ys (ds.mergeSort (PySem.W.dataLe false id))->H p=none->Q (.ref p) (upd H p (.lst ys))
theorem aaP:∀(xs:List V) (ds:List PyData) (its:List Value) (P:Value->PyData->Prop),Vals xs its->PySem.W.EachIs P its ds->
  PySem.W.EachIs (λv d=>∃(i:Nat) (x:V),RelV x v/\xs[i]?=some x/\ds[i]?=some d) its ds
 |[],_,_,_,.nil,.nil=>.nil
 |_::_,[],_,_,.cons _ _,k=>nomatch k
 |x::xs,d::ds,u::us,P,.cons r t,.cons _ k=>.cons ⟨0,x,r,rfl,rfl⟩ ((aaP xs ds us P t k).mono λv d ⟨i,y,a,b,c⟩=>⟨i+1,y,a,b,c⟩)
theorem Yl{xs:List V}{ds:List PyData}:∀(out:List Value) (L:List PyData),PySem.W.EachIs (λv d=>∃(i:Nat) (x:V),RelV x v/\xs[i]?=some x/\ds[i]?=some d) out L->∃ys,Vals ys out/\fY (ahk xs ds) ys L
 |[],[],.nil=>⟨[],.nil,fY.nil⟩
 |v::out,d::L,.cons ⟨i,x,r,a,b⟩ k=>by
  obtain⟨ys,h1,h2⟩:=Yl out L k;refine⟨x::ys,.cons r h1,by rw[atQ,atQ,h2.1],λj u y g1 g2=>?_⟩;cases j with
  |zero=>
   cases g1;cases g2;exact⟨i,a,b⟩
  |succ j=>exact h2.2 j u y g1 g2
theorem adZ(hu:X.A.units+65<cLine):CallR X (.builtin "sorted") (Ky X.K):=by
 intro pins s σ H vs us Q I r h;unfold Ky at h;obtain⟨a,xs,ds,rfl,hs,hd,hal,hk,hz,q⟩:=h;obtain⟨u,rfl,ru⟩:=vals1 r
 obtain rfl:u=Value.ref a:=ru
 obtain⟨its,rv,hl,hsz⟩:=I.list hs;obtain⟨as,hr⟩:=Dp.readsAll I ds xs its hd rv;have er:PySem.W.EachIs (λv d=>∃as,Reads s.heap v (id d) as) its ds:=PySem.W.readsAll_each id (by rw[List.map_id];exact hr);have hn:=SeqAt.ReadsAll.length ds its as hr;have hl2:=rv.length;refine PySem.W.sorted_data (enc:=id) hl.isList (aaP xs ds its _ rv er) er (by rw[List.map_id];exact hal) (by rw[List.map_id];exact hk) (by omega) (λd m=>?_) λout hlen hout=>?_
 .have:=hz d m;show X.A.units+2+d.depth<cLine;omega
 .obtain⟨ys,v1,v2⟩:=Yl out _ hout;obtain⟨ep,he'⟩:=PyProof.Rows.sortedAll_at s.heap its out.toArray;have hy:ys.length=ds.length:=by
   rw[v2.1,List.length_mergeSort]
  refine⟨.ref _,upd H (s.heap.objs.size+1) (.lst ys),I.laid (t':=s.toks) (λ_ _=>PyProof.Rows.sortedAll_old) (Nat.le_succ _) ⟨by omega,out,ep,v1,by simpa using he'⟩,rfl,q ys _ v2 (I.hok.fresh (Nat.le_succ _))⟩
end
@[irreducible]def T6 (K:atw):R2:=λx y H Q=>∃d e:PyData,Dp K H x d/\Dp K H y e/\PySem.W.alike d e=true/\d≠.none/\d.depth<=60/\Q (.bl (PySem.W.dataLt d e)) H
theorem ahz{X:Cx}(hu:X.A.units+65<cLine):OpR X (compareOp .Lt) (T6 X.K):=by intro pins s σ H x y v u Q I rx ry h;unfold T6 at h;obtain⟨d,e,hd,he,ha,hn,hz,q⟩:=h;obtain⟨as,r1⟩:=Dp.reads I d x v hd rx;obtain⟨bs,r2⟩:=Dp.reads I e y u he ry;exact PySem.W.lt_data r1 r2 ha hn (by omega) ⟨.bl _,H,I,rfl,q⟩
def EvR(te:TE)(σ:L2.St)(H:Hp)(P:List V->Hp->Prop):Prop:=∀H1,Ex H H1->∀Q:VK,(∀p H2 us,Ex H1 H2->H2 p=some (.lst us)->P us H2->Q (.ref p) H2)->te σ H1 Q
def EvM(te:TE)(σ:L2.St)(H:Hp)(P:List V->Hp->Prop):Prop:=∀H1,Ex H H1->∀Q:VK,(∀p H2 us,H1 p=none->Ex H1 H2->H2 p=some (.lst us)->P us H2->Q (.ref p) H2)->te σ H1 Q
structure amK{α:Type}(Rel:Hp->V->α->Prop):Prop where
 mono:∀{H H':Hp} {v:V} {x:α},Ex H H'->Rel H v x->Rel H' v x
 upd:∀{H:Hp} {D:Addr} {acc:List V} {o:HO} {v:V} {x:α},H D=some (.lst acc)->Rel H v x->Rel (upd H D o) v x
theorem fY.mono{α:Type}{Rel:Hp->V->α->Prop}(S:amK Rel){H H':Hp}(e:Ex H H'){ws:List V}{L:List α}(h:fY (Rel H) ws L):fY (Rel H') ws L:=h.imp λ_ _ r=>S.mono e r
theorem fY.upd{α:Type}{Rel:Hp->V->α->Prop}(S:amK Rel){H:Hp}{D:Addr}{acc:List V}{o:HO}(hD:H D=some (.lst acc)){ws:List V}{L:List α}(h:fY (Rel H) ws L):fY (Rel (upd H D o)) ws L:=h.imp λ_ _ r=>S.upd hD r
section
variable{K:atw}{σ:L2.St}{H:Hp}{te tl:TE}{tt:TT}{vs:List Nat}{α:Type}
theorem EvM.r{P:List V->Hp->Prop}(h:EvM te σ H P):EvR te σ H P:=λH1 e Q q=>h H1 e Q λp H2 us _ a b c=>q p H2 us a b c
theorem EvM.imp{P R:List V->Hp->Prop}(h:EvM te σ H P)(k:∀us H',P us H'->R us H'):EvM te σ H R:=λH1 e Q q=>h H1 e Q λp H2 us n a b c=>q p H2 us n a b (k us H2 c)
end
theorem aaQ:∀a b:List Int,PyData.eqvAll (a.map PyData.int) (b.map PyData.int)=decide (a=b)
 |[],[]=>by rw[auG,PyData.eqvAll];rfl
 |[],y::ys=>by rw[auG,atE,PyData.eqvAll];rfl
 |x::xs,[]=>by rw[auG,atE,PyData.eqvAll];rfl
 |x::xs,y::ys=>by
  rw[atE,atE,PyData.eqvAll,aaQ xs ys,PyData.eqv,auI];simp
def dT(l:List Int):PyData:=.tuple (l.map PyData.int)
theorem lay_ints:∀l:List Int,PyData.canLayAll0 (l.map PyData.int)=true/\PyData.depthAll (l.map PyData.int)=0
 |[]=>⟨by rw[auG,PyData.canLayAll0],by rw[auG,PyData.depthAll]⟩
 |x::xs=>by
  have ih:=lay_ints xs;refine⟨?_,?_⟩
  .rw[atE,PyData.canLayAll0,PyData.canLay0,ih.1];rfl
  .rw[atE,PyData.depthAll,PyData.depth,ih.2];rfl
def rD(r:Rw):PyData:=.tuple [.int r.1,dT r.2]
theorem afy(r:Rw):(rD r).canLay0=true/\(rD r).depth=2:=by
 have h:=lay_ints r.2;unfold rD dT;refine⟨?_,?_⟩
 .rw[PyData.canLay0,PyData.canLayAll0,PyData.canLayAll0,PyData.canLayAll0,PyData.canLay0,PyData.canLay0,h.1];rfl
 .rw[PyData.depth,PyData.depthAll,PyData.depthAll,PyData.depthAll,PyData.depth,PyData.depth,h.2];rfl
def rk(r:Rw):List Int:=r.1::r.2
theorem agt:PySem.W.rowLt [] []=false:=PyProof.Rows.lex_irrefl _
theorem aiN(l m:List Int):PySem.W.rowLt [dT l] [dT m]=decide (l<m):=by
 have al:PySem.W.alike (dT l) (dT m)=true:=by unfold dT;rw[PySem.W.alike];exact PySem.W.alike_ints l m
 have ev:PyData.eqv (dT l) (dT m)=decide (l=m):=by unfold dT;rw[PyData.eqv,aaQ]
 have h:PySem.W.rowLt [dT l] [dT m]=if PyData.eqv (dT l) (dT m)=true then PySem.W.rowLt [] [] else PySem.W.dataLt (dT l) (dT m):=PySem.W.dataLt_cons al [] []
 rw[h,ev,agt];by_cases c:l=m
 .rw[if_pos (decide_eq_true c),c];exact(decide_eq_false (List.lt_irrefl _)).symm
 .rw[if_neg (by rw[au1];exact c)];show PySem.W.dataLt (.tuple (l.map PyData.int)) (.tuple (m.map PyData.int))=_;rw[PySem.W.dataLt_tuple];exact PySem.W.dataLt_ints l m
theorem abR(x y:Int)(ds es:List PyData)(l m:List Int)(h:PySem.W.rowLt ds es=decide (l<m)):PySem.W.rowLt (.int x::ds) (.int y::es)=decide (x::l<y::m):=by
 have al:PySem.W.alike (.int x) (.int y)=true:=by rw[PySem.W.alike]
 have h2:PySem.W.rowLt (.int x::ds) (.int y::es)=if PyData.eqv (.int x) (.int y)=true then PySem.W.rowLt ds es else PySem.W.dataLt (.int x) (.int y):=PySem.W.dataLt_cons al ds es
 rw[h2,h,PySem.W.dataLt_int,PyData.eqv];by_cases c:x=y
 .subst c;rw[if_pos (by simp),auI,au1,au1,List.cons_lt_cons_iff];constructor
  .exact λk=>Or.inr ⟨rfl,k⟩
  .rintro(k|k)
   .omega
   .exact k.2
 .rw[if_neg (by simpa using c),auI,au1,au1,List.cons_lt_cons_iff];constructor
  .exact Or.inl
  .rintro(k|k)
   .exact k
   .exact absurd k.1 c
theorem amM(a b:Rw):PySem.W.dataLt (rD a) (rD b)=decide (rk a<rk b):=by unfold rD;rw[PySem.W.dataLt_tuple];exact abR _ _ _ _ _ _ (aiN a.2 b.2)
theorem Yh(a b:Rw):PySem.W.alike (rD a) (rD b)=true:=by unfold rD dT;rw[PySem.W.alike,PySem.W.alikeAll,PySem.W.alikeAll,PySem.W.alike,PySem.W.alike,PySem.W.alike_ints,PySem.W.alikeAll];rfl
theorem fY.map{α β:Type}{P:V->β->Prop}(f:α->β){ws:List V}{L:List α}(h:fY (λv x=>P v (f x)) ws L):fY P ws (L.map f):=by refine⟨by rw[atJ,h.1],λi v x a b=>?_⟩;rw[atR]at b;obtain⟨y,hy,e⟩:=aun.mp b;rw[<-e];exact h.2 i v y a hy
theorem Zx{a b:Rw}(h:rk a=rk b):a=b:=by unfold rk at h;injection h with h1 h2;exact Prod.ext h1 h2
def Fv(S:List Rw):Prop:=S.Pairwise λa b=>rk a<rk b
theorem aeD:∀{S T:List Rw},Fv S->Fv T->(∀r,r∈S↔r∈T)->S=T
 |[],[],_,_,_=>rfl
 |[],t::T,_,_,h=>absurd ((h t).mpr atD) (by simp)
 |s::S,[],_,_,h=>absurd ((h s).mp atD) (by simp)
 |s::S,t::T,hs,ht,h=>by
  obtain⟨hs1,hs2⟩:=List.pairwise_cons.mp hs;obtain⟨ht1,ht2⟩:=List.pairwise_cons.mp ht;have e:s=t:=by
   rcases atO.mp ((h s).mp atD) with e|m
   .exact e
   .rcases atO.mp ((h t).mpr atD) with e2|m2
    .exact e2.symm
    .exact absurd (ht1 s m) (List.lt_asymm (hs1 t m2))
  subst e;have hn:∀{L:List Rw},(∀r∈L,rk s<rk r)->s∉L:=λhL m=>List.lt_irrefl _ (hL s m);rw[aeD hs2 ht2 λr=>?_];constructor
  .intro m;rcases atO.mp ((h r).mp (atA _ m)) with e|m2
   .rw[e]at m;exact absurd m (hn hs1)
   .exact m2
  .intro m;rcases atO.mp ((h r).mpr (atA _ m)) with e|m2
   .rw[e]at m;exact absurd m (hn ht1)
   .exact m2
theorem Nv(a b:Rw):PySem.W.dataLe false rD a b=decide (rk a<=rk b):=by
 show(!PySem.W.dataLt (rD b) (rD a))=_
 rw[amM,auI,atV,decide_eq_false_iff_not,au1];exact List.not_lt
theorem aeO{α β:Type}{R:α->β->Prop}{as cs:List α}(p:as.Perm cs):∀{bs:List β},PySem.W.EachIs R as bs->∃ds,ds.Perm bs/\PySem.W.EachIs R cs ds:=by
 induction p with
 |nil=>
  intro bs h;cases h;exact⟨[],List.Perm.refl _,.nil⟩
 |cons x _ ih=>
  intro bs h;cases h with
  |cons r t=>
   obtain⟨ds,h1,h2⟩:=ih t;exact⟨_::ds,h1.cons _,.cons r h2⟩
 |swap x y l=>
  intro bs h;cases h with
  |cons r t=>
   cases t with
   |cons r2 t2=>exact⟨_,List.Perm.swap _ _ _,.cons r2 (.cons r t2)⟩
 |trans _ _ ih1 ih2=>
  intro bs h;obtain⟨ds,a1,a2⟩:=ih1 h;obtain⟨es,b1,b2⟩:=ih2 a2;exact⟨es,b1.trans a1,b2⟩
section
variable{P:Program}{w:World}{A:Around}{E:Value->Shared->Prop}{s:Shared}
theorem QK{β:Type}{a:Addr}{es:Array (Int×Value)}{ep:Nat}{t:SetTable}{enc:β->PyData}{bs:List β}{R:Value->β->Prop}{Q:Value->Shared->Prop}(hh:A.handled=none)(ha:SetAt s.heap a es ep t)(hf:t.fits es.size=true)(hsz:es.size<scanBound)(hr:Ris t.place.toList)
  (hl:w.params.followText "set-order"=true\/t.led=true) (e:PySem.W.EachIs (λv b=>R v b/\∃as,Reads s.heap v (enc b) as) (es.toList.map (·.2)) bs) (hal:PySem.W.AllAlike (bs.map enc)) (hk:PySem.W.Sortable (bs.map enc)) (hu:∀b∈bs,A.units+2+(enc b).depth<cLine)
  (hQ:∀(s':Shared) (p:Addr) (out:List Value) (c:Nat) (cs:List β),(∀b o,s.heap.get? b=some o->s'.heap.get? b=some o)->s'.gens=s.gens->s'.os=s.os->s.heap.objs.size<=p->s'.heap.get? p=some (seqObj "list" out.toArray c)->
   cs.Perm bs->PySem.W.EachIs R out (cs.mergeSort (PySem.W.dataLe false enc))->Q (.ref p) s') :
  wpAny (model P w) A (call (.builtin "sorted") [.ref a]) Q E s:=by
 refine Calls.call_function_entry kind_sorted plain_sorted entry_sorted (args_sorted1 _) ?_;unfold Builtin.«sorted»;refine wpAny_bind (m:=checkCount "sorted" 1 1 _) (wpAny_pure ?_)
 refine wpAny_bind (collect_set (A:=A.in1) hh ha hf hsz hr hl λt1 vals kept grown g1 o1 pm=>?_);obtain⟨cs,pc,ec⟩:=aeO pm.symm e;have lc:vals.length=cs.length:=ec.length;have lb:cs.length=bs.length:=pc.length_eq;have lz:vals.length<=sizeLine:=by rw[pm.length_eq,atJ,auh,sizeLine_eq];unfold scanBound at hsz;omega
 refine wpAny_bind (wpAny_newList ?_ lz);have here:(t1.heap.push (seqObj "list" vals.toArray 0)).get? t1.heap.objs.size=some (seqObj "list" vals.toArray 0):=Heap.get?_push_size _ rfl
 have stays:∀b o,s.heap.get? b=some o->(t1.heap.push (seqObj "list" vals.toArray 0)).get? b=some o:=λb o q=>Heap.get?_push_of_some _ (kept b o q)
 have al:PySem.W.AllAlike (cs.map enc):=λd hd d' hd'=>hal d ((pc.map enc).mem_iff.mp hd) d' ((pc.map enc).mem_iff.mp hd');have sk:PySem.W.Sortable (cs.map enc):=by
  rcases hk with k|k
  .exact .inl λd hd=>k d ((pc.map enc).mem_iff.mp hd)
  .exact .inr λd hd=>k d ((pc.map enc).mem_iff.mp hd)
 refine wpAny_bind (wpAny_holding (PySem.W.list_sort_data (s:={ t1 with heap:=t1.heap.push (seqObj "list" vals.toArray 0) }) (enc:=enc) here (ec.mono λv b h=>h.1) (ec.mono λv b ⟨_,as,r⟩=>⟨as,PySem.W.reads_keeps stays r,λm=>?rd⟩) al sk (by omega) (λb hb=>?un) λout lo eo=>?fin))
 case rd=>
  obtain⟨o,q⟩:=PyProof.On.reads_mem_get r _ m;have hlt:t1.heap.objs.size<s.heap.objs.size:=Heap.lt_size q;exact absurd grown (Nat.not_le_of_lt hlt)
 case fin=>
  obtain⟨c,hc⟩:=sortedHeap_at (vs:=vals) (out:=out.toArray) here;refine wpAny_pure ⟨_,rfl,hQ _ t1.heap.objs.size out c cs (λb o q=>?_) g1 o1 grown hc pc eo⟩;have hlt:=Heap.lt_size (kept b o q)
  show(sortedHeap (t1.heap.push (seqObj "list" vals.toArray 0)) t1.heap.objs.size vals out.toArray).get? b=some o
  rw[sortedHeap_old (auf hlt) (by rw[size_push'];exact auD hlt)];exact stays b o q
 case un=>
  have:=hu b (pc.mem_iff.mp hb);show A.in1.units+1+_<_;have e1:A.in1.units=A.units+1:=rfl;omega
end
@[irreducible]def Qu (w:World):List V->Hp->VK->Prop:=λvs H Q=>∃(a:Addr) (S:Int->Bool) (n:Nat),vs=[V.ref a]/\H a=some (SetO w a S n)/\
 ∀(ns:List Int) (p:Addr),ns.Pairwise (· < ·)->(∀k:Int,k∈ns↔S k=true)->ns.length=n->H p=none->Q (.ref p) (upd H p (.lst (ns.map V.int)))
theorem Xm:∀(out:List Value) (ns:List Int),PySem.W.EachIs (λv (k:Int)=>∃tk,v=Value.int k tk) out ns->Vals (ns.map V.int) out
 |[],[],.nil=>.nil
 |_::out,k::ns,.cons ⟨tk,e⟩ t=>by
  subst e;exact .cons ⟨tk,rfl⟩ (Xm out ns t)
theorem ajL{ns:List Int}(h:ns.Pairwise λa b=>(PySem.W.dataLe false (λk:Int=>PyData.int k)) a b=true)(nd:ns.Nodup):ns.Pairwise (· < ·):=by refine List.Pairwise.imp₂ (λa b h1 h2=>?_) h nd;rw[PySem.W.dataLe_int,au1]at h1;omega
section
variable{X:Cx}
theorem afZ(hu:X.A.units+65<cLine)(hc:X.calm=true):CallR X (.builtin "sorted") (Qu X.w):=by
 intro pins s σ H vs us Q I r h;unfold Qu at h;obtain⟨a,S,n,rfl,ha,q⟩:=h;obtain⟨o,es,ep,t,ho,hex,hd,g,nd,hm,hb,hf,hn,hr,hl⟩:=setO_get I ha;rw[Vals.ref1 r];have ev:∀l:List (Int×Value),(∀e∈l,GoodE e)->PySem.W.EachIs (λv (k:Int)=>(∃tk,v=Value.int k tk)/\∃as,Reads s.heap v (PyData.int k) as) (l.map (·.2)) (l.map keyOf):=by
  intro l
  induction l with
  |nil=>exact λ_=>.nil
  |cons e l ih=>
   intro hg;obtain⟨k,tk,h1,h2⟩:=hg e atD;have ek:keyOf e=k:=by unfold keyOf;rw[h1]
   refine .cons ?_ (ih λx hx=>hg x (atA _ hx));rw[ek];exact⟨⟨tk,h1⟩,[],by show Reads s.heap e.2 (PyData.int k) [];rw[h1];exact .int k tk⟩
 refine QK (enc:=λk:Int=>PyData.int k) (I.ok.hd hc) ⟨o,ho,hex.1,hd⟩ hf hb hr hl (ev es.toList g) (auW λx y=>by rw[PySem.W.alike]) (PySem.W.Sortable.others λx=>⟨(λz=>by cases z),(λxs z=>by cases z)⟩) (λk _=>by rw[PyData.depth];omega) λs' p out c cs k g' o' hp hg pc eo=>?_;have mp:=auM cs (PySem.W.dataLe false (λk:Int=>PyData.int k));have ndm:(cs.mergeSort (PySem.W.dataLe false (λk:Int=>PyData.int k))).Nodup:=(mp.trans pc).nodup_iff.mpr nd;have srt:=auu (le:=PySem.W.dataLe false (λk:Int=>PyData.int k)) (λa b c h1 h2=>by rw[PySem.W.dataLe_int,au1]at *;omega) (λa b=>by rw[PySem.W.dataLe_int,auB,au1,au1];omega) cs;generalize cs.mergeSort (PySem.W.dataLe false (λk:Int=>PyData.int k))=ns at mp ndm srt eo;have hv:Vals (ns.map V.int) out:=Xm out ns eo;have lns:ns.length=n:=by rw[mp.length_eq,pc.length_eq,atJ,auh,hn]
 have hlen:(ns.map V.int).length<=sizeLine:=by rw[atJ,lns,<-hn,sizeLine_eq];unfold scanBound at hb;omega
 have hfr:H p=none:=I.hok.fresh hp;have J:Inv X pins σ (upd H p (.lst (ns.map V.int))) { s with heap:=s'.heap,gens:=s'.gens,drawn:=s'.drawn,toks:=s'.toks }:=
  I.call (ch:=[]) (Un.laid k hp hfr) (I.hok.laid k hp ⟨hlen,out,c,hv,hg⟩) (by rw[g'];exact I.bare) (λ_ z=>nomatch z)
 have es':s'={ s with heap:=s'.heap,gens:=s'.gens,drawn:=s'.drawn,toks:=s'.toks }:=by cases s';cases s;cases o';rfl
 rw[es'];exact⟨.ref p,_,J,rfl,q ns p (ajL srt ndm) (λk=>by rw[(mp.trans pc).mem_iff,hm]) lns hfr⟩
def al3(w:World)(D:Addr)(vs:List Nat)(g:TG)(tt:TT)(te:TE)(σ:L2.St)(Nx:Hp->Prop)(x:V)(H:Hp):Prop:=
 g x (wipe σ vs) H λσ2 H2=>wipe σ2 vs=wipe σ vs/\tt σ2 H2 λb H3=>if b=true then te σ2 H3 λy H4=>∃(k:Int) (S:Int->Bool) (n:Nat),y=.int k/\H4 D=some (SetO w D S n)/\n+1<scanBound/\Nx (upd H4 D (SetO w D (λj=>S j || decide (j=k)) (if S k=true then n else n+1))) else Nx H3
def alB(w:World)(wi:TI)(g:TG)(tt:TT)(te:TE)(vs:List Nat):TE:=λσ H Q=>wi σ H λJ H1=>∀D,H1 D=none->∃W:Nat->Nat->Hp->Prop,(∃m,W 0 m (upd H1 D (SetO w D (λ_=>false) 0)))/\
 ∀i m H,W i m H->(J.stop i H/\Q (.ref D) H)\/(J.go i H/\∃Nx:Hp->Prop,(∀H',Nx H'->∃m',m'<m/\W (i+1) m' H')/\∀x H',J.yld i H x H'->al3 w D vs g tt te σ Nx x H')
theorem add_int{pins:List (Addr×Obj)}{σ:L2.St}{H:Hp}{s:Shared}{E:Value->Shared->Prop}{D:Addr}{S:Int->Bool}{n:Nat}{k:Int}{v:Value}{Q:Value->Shared->Prop}(I:Inv X pins σ H s)(hD:H D=some (SetO X.w D S n))(room:n+1<scanBound)(rv:RelV (.int k) v)
  (q:∀t,Inv X pins σ (upd H D (SetO X.w D (λj=>S j || decide (j=k)) (if S k=true then n else n+1))) t->Q .none t):wpAny (model X.prog X.w) X.A (call (.builtin "set.add") [.ref D,v]) Q E s:=by
 obtain⟨tk,rfl⟩:=rv;refine setR_add (setO_get I hD) room λh' sb new=>q _ (I.write (e:=D) (t':=s.toks+1) (by rw[hD];trivial) (.inl rfl) (λb u hb hu=>(sb.2 b hb).trans hu) ?_ (setO_new new));have ⟨o,_,_,_,ho,_⟩:=new;exact⟨o,ho⟩
theorem al5{elt tg iter:Expr}{ifs:List Expr}{scope:Scope}{own:List (PySem.Str×Nat)}{pos:Pos}{wi:TI}{g:TG}{tt:TT}{te:TE}(hc:X.calm=true)(hN:X.N.Nodup)(hi:PI X tg iter wi)(ok:BlkOk X.N X.env.scope scope own)
  (hg:∀(t:Shared) (G:Hp) (C:Addr) (cl:List (PySem.Str×Addr)) (fp:List Addr),PG (X.blk t G scope (compEnvC scope cl C X.env) fp) tg g) (ht:∀(t:Shared) (G:Hp) (C:Addr) (cl:List (PySem.Str×Addr)) (fp:List Addr),PTs (X.blk t G scope (compEnvC scope cl C X.env) fp) ifs tt)
  (he:∀(t:Shared) (G:Hp) (C:Addr) (cl:List (PySem.Str×Addr)) (fp:List Addr),PE (X.blk t G scope (compEnvC scope cl C X.env) fp) elt te) (hs:∀x,foldedSetIterable iter X.env x=pure x:=by intro _;rfl) :
  PE X (.SetComp elt [⟨tg,iter,ifs,0⟩] scope pos) (alB X.w wi g tt te (own.map (·.2))):=by
 refine⟨λpins s σ H Q I h=>?_⟩;rw[PpSet.eval_SetComp];have cells:∀y∈scope.names,y.2=.free->∃c,X.env.cells.lookup y.1=some c:=λy hy e=>(ok.free y hy e).elim (λk=>I.ok.has _ (.inl k)) (λk=>I.ok.has _ (.inr k));refine wpAny_comprehension_free rfl hs (closure_ok cells) ok.kind (λy hy e=>by rw[ok.uniq y hy,e]) (thn (hi.run pins s σ H _ I h) λ_ _ hx=>thn hx λitv t0 h0=>?_);obtain⟨it,fp,tn,J,G0,rfl,I0,T,st0,f0,q⟩:=h0;refine PpSet.newSet_ok (newEnv_comp ?_)
 -- the new set,at D
 obtain⟨D,hD⟩:∃D,D=t0.heap.objs.size:=⟨_,rfl⟩;rw[<-hD];obtain⟨W,⟨m0,w0⟩,turn⟩:=q D (I0.hok.fresh (Nat.le_of_eq hD.symm));obtain⟨ob,hob⟩:∃ob:Obj,ob={ cls:=.type "set",dict:=none,data:=.set #[] 0 (.fresh 0 0 (!X.w.params.followText "set-order")) }:=⟨_,rfl⟩
 rw[<-hob];obtain⟨t1,ht1⟩:∃t1:Shared,t1={ t0 with heap:=t0.heap.push ob }:=⟨_,rfl⟩;obtain⟨G1,hG1⟩:∃G1,G1=upd G0 D (SetO X.w D (λ_=>false) 0):=⟨_,rfl⟩;rw[<-hG1]at w0;have grow:∀b o,t0.heap.get? b=some o->t1.heap.get? b=some o:=λb o e=>by rw[ht1];exact Heap.get?_push_of_some _ e
 have I1:Inv X pins σ G1 t1:=by rw[ht1,hG1];refine I0.laid (t':=t0.toks) (λb o e=>Heap.get?_push_of_some _ e) (Nat.le_of_eq hD.symm) ?_;rw[hD,hob];exact setO_new (setR_fresh X.w)
 have small:∀b∈fp,b<t0.heap.objs.size:=λb hb=>by
  obtain⟨o,e,_⟩:=T.obj _ _ st0 b hb;exact Heap.lt_size e
 have f1:∀b∈fp,FpOk X pins G1 b/\b<t1.heap.objs.size:=λb hb=>by
  have hlt:=small b hb;refine⟨⟨?_,(f0 b hb).2⟩,by rw[ht1];show b<(t0.heap.push ob).objs.size;rw[Heap.size_push];exact auD hlt⟩;rw[hG1,upd_ne (by rw[hD];exact auf hlt)];exact(f0 b hb).1
 have st1:tn 0 t1.heap:=T.keep _ _ _ st0 λb _ o e=>grow b o e;have I2:=block_start I1 ok hN f1;have pg:=hg t1 G1 t1.heap.objs.size (cellsFrom (t1.heap.objs.size+1) scope.names (cloFrom X.env.cells scope.names [])) fp;have pt:=ht t1 G1 t1.heap.objs.size (cellsFrom (t1.heap.objs.size+1) scope.names (cloFrom X.env.cells scope.names [])) fp;have pe:=he t1 G1 t1.heap.objs.size (cellsFrom (t1.heap.objs.size+1) scope.names (cloFrom X.env.cells scope.names [])) fp;have none1:∀b∈fp,G1 b=none:=λb hb=>(f1 b hb).1.1;rw[show({ t0 with heap:=t0.heap.push ob }:Shared)=t1 from ht1.symm];obtain⟨ce,hce⟩:∃ce,ce=compEnvC scope (cellsFrom (t1.heap.objs.size+1) scope.names (cloFrom X.env.cells scope.names [])) t1.heap.objs.size X.env:=⟨_,rfl⟩;rw[<-hce]at I2 pg pt pe;have cL:ce.locals=t1.heap.objs.size:=by rw[hce];rfl
 obtain⟨t2,ht2⟩:∃t2:Shared,t2={ t1 with heap:=pushCells (t1.heap.push { cls:=.type "dict",data:=.dict #[] }) scope.names }:=⟨_,rfl⟩
 rw[<-ht2]at I2;have st2:tn 0 t2.heap:=T.keep _ _ _ st1 λb _ o e=>by rw[ht2];exact pushCells_keeps _ _ _ _ (Heap.get?_push_of_some _ e)
 have still:∀{σ':L2.St} {G':Hp} {t':Shared},Inv (X.blk t1 G1 scope ce fp) [] σ' G' t'->(∀b∈fp,G' b=none)->∀b∈fp,FpOk (X.blk t1 G1 scope ce fp) [] G' b:=λI' hn b hb=>
  ⟨hn b hb,(I'.ok.exf b hb).1,I'.ok.exfs b hb,.inl hb,λx c e=>(I'.ok.exf b hb).2 x c e,λp hp=>absurd (show p∈([]:List (Addr×Obj))++[] from hp) (by simp)⟩
 have loop:codeAny (model X.prog X.w) X.A (.compLoop (.SetComp elt [⟨tg,iter,ifs,0⟩] scope pos) 0 (.ref it) (.ref D) ce) (compPost (model X.prog X.w) X.A X.xe none (EP X pins σ Q) (.ref D) t1.heap.objs.size) t2:=by
  refine PpSet.compLoopS_any (λn t'=>∃i G',Inv (X.blk t1 G1 scope ce fp) [] (wipe σ (own.map (·.2))) G' t'/\tn i t'.heap/\(∀b∈fp,G' b=none)/\W i n G') ?_ m0 ⟨0,G1,I2,st2,none1,w0⟩;rintro n t3 ⟨i,G3,I3,st3,n3,w3⟩;rcases turn i n G3 w3 with⟨stop,fin⟩|⟨go,Nx,hNx,step⟩
  .refine thnF (T.done (X.blk t1 G1 scope ce fp) rfl rfl rfl hc i [] t3 _ G3 (λ_ _=>False) I3 (still I3 n3) st3 stop) λr t4 ⟨hr,I4⟩=>?_;subst hr;have I5:Inv X pins σ G3 t4:=I1.call' (ch:=fp) I4.os I4.base I4.hok I4.bare λb hb=>⟨(f1 b hb).1.2.2.2.1,(f1 b hb).1.2.1,(f1 b hb).1.2.2.2.2.1,(f1 b hb).1.2.2.2.2.2⟩;have nC:G3 t1.heap.objs.size=none:=by rw[<-cL];exact I4.free
   obtain⟨m,hn,_⟩:=I4.loc;have hn':t4.heap.Ns t1.heap.objs.size m:=by rw[<-cL];exact hn
   obtain⟨a0,a1,_,a3,a4,a5⟩:=I1.fpOk (at6 _) nC;exact⟨m,hn',λh'' sb=>⟨.ref D,G3,I5.turned (t':=t4.toks) (λb o hb e=>(sb.2 b hb).trans e) a0 a1 a3 a4 a5,rfl,fin⟩⟩
  .refine thnF (T.item (X.blk t1 G1 scope ce fp) rfl rfl rfl hc i [] t3 _ G3 (λ_ _=>False) I3 (still I3 n3) st3 go) λr t4 ⟨u,hr,h4⟩=>?_;subst hr;refine thnF h4 λ_ t5 ⟨x,G5,I5,r5,y5,st5,n5⟩=>?_;refine thnF (pg.run _ t5 _ G5 x u _ (I5.pinned (still I5 n5) (T.obj _ _ st5)) r5 (step x G5 y5)) λ_ t6 ⟨σ6,G6,I6,hw6,q6⟩=>?_;refine thnF (pt.run _ t6 σ6 G6 _ I6 q6) λb t7 ⟨G7,I7,q7⟩=>?_;have over:∀{t':Shared} {G':Hp},Inv (X.blk t1 G1 scope ce fp) ([]++pinsAt fp t5.heap) σ6 G' t'->Nx G'->∃m,m<n/\∃i G',Inv (X.blk t1 G1 scope ce fp) [] (wipe σ (own.map (·.2))) G' t'/\tn i t'.heap/\(∀b∈fp,G' b=none)/\W i m G':=λ{t' G'} I' nx=>by
    obtain⟨m',hm,w'⟩:=hNx G' nx;have pin:∀b∈fp,∀o,t5.heap.get? b=some o->t'.heap.get? b=some o/\G' b=none:=λb hb o e=>
     let z:=I'.pin (b,o) (aul _ (aul _ (mem_pinsAt hb e)))
     ⟨z.1,z.2.1⟩
    refine⟨m',hm,i+1,G',(I'.unpinned (pins:=[])).weak (by rw[<-hw6,wipe_length]) (λj v e=>?_),T.keep _ _ _ st5 λb hb o e=>(pin b hb o e).1,λb hb=>?_,w'⟩
    .rw[<-hw6]at e;exact(wipe_some e).1
    .obtain⟨o,e,_⟩:=T.obj _ _ st5 b hb;exact(pin b hb o e).2
   cases b with
   |false=>
    simp only[aud,if_false]at q7 |-
    exact over I7 q7
   |true=>
    simp only[if_true]at q7 |-
    refine thnF (pe.run _ t7 σ6 G7 _ I7 q7) λz t8 ⟨yv,G8,I8,r8,k,S,c,ey,hD8,hz8,nx⟩=>?_;subst ey;exact add_int (X:=X.blk t1 G1 scope ce fp) I8 hD8 hz8 r8 λt9 I9=>over I9 nx
 have done:=PpSet.codeAny_compStart_set loop (T.self X.A 0 _ _ _ st2 loop);rw[hce,ht2]at done;exact done
end
section
variable{P:Program}{w:World}{A:Around}{E:Value->Shared->Prop}{s:Shared}
def nk(r:Rw):NestedKey:=.tup [.num r.1,.tup (r.2.map .num)]
theorem aap:∀a b:List Int,a.map NestedKey.num=b.map NestedKey.num->a=b
 |[],[],_=>rfl
 |[],_::_,h=>by cases h
 |_::_,[],h=>by cases h
 |x::a,y::b,h=>by
  rw[atE,atE]at h;injection h with h1 h2;injection h1 with h1;rw[h1,aap a b h2]
theorem agz{a b:Rw}(h:nk a=nk b):a=b:=by unfold nk at h;injection h with h;injection h with h1 h;injection h with h2 _;injection h1 with h1;injection h2 with h2;exact Prod.ext h1 (aap _ _ h2)
theorem U7:∀l:List Int,NestedKey.depthAll (l.map .num)=0
 |[]=>by rw[auG,NestedKey.depthAll]
 |x::l=>by
  rw[atE,NestedKey.depthAll,NestedKey.depth,U7 l];rfl
theorem ahQ(r:Rw):(nk r).depth=2:=by unfold nk;rw[NestedKey.depth,NestedKey.depthAll,NestedKey.depthAll,NestedKey.depthAll,NestedKey.depth,NestedKey.depth,U7];rfl
def qF(P:Program)(w:World):HeapKind P w Rw where
 is:=λh r a=>(nestedKind P w).is h (nk r) a
 hash:=λr=>(nestedKind P w).hash (nk r)
 draws:=λr=>(nestedKind P w).draws (nk r)
 room:=(nestedKind P w).room
 inj:=λhx hy=>agz ((nestedKind P w).inj hx hy)
 keeps:=λx ho hd hs=>(nestedKind P w).keeps x ho hd hs
 pyHash:=λhu hk h=>(nestedKind P w).pyHash hu hk h
 eqBool:=λ{A E s x y a b Q} hu hx hy h=>(nestedKind P w).eqBool hu hx hy (by
  have e:decide (nk x=nk y)=decide (x=y):=by rw[decide_eq_decide];exact⟨agz,λh=>by rw[h]⟩
  rw[e];exact h)
 quiet:=λhk h=>(nestedKind P w).quiet hk h
abbrev RI(h:Heap)(r:Rw)(a:Addr):Prop:=NestedIs h (nk r) (.ref a)/\(nk r).depth<=8
theorem WT{h h':Heap}{r:Rw}{a:Addr}(x:RI h r a)(k:∀c o,h.get? c=some o->h'.get? c=some o):RI h' r a:=⟨NestedIs.at (λb o _ _ e _=>k b o e) _ _ x.1,x.2⟩
theorem aaE{h h':Heap}{r:Rw}{a d:Addr}{o:Obj}{es:Array (Int×Value)}{ep:Nat}{t:SetTable}(x:RI h r a)(ho:h.get? d=some o)(hd:o.data=.set es ep t)(sb:Heap.SameBut d h h'):RI h' r a:=by
 refine⟨NestedIs.at (λb ob vs n hb hc=>(sb.2 b λe=>?_).trans hb) _ _ x.1,x.2⟩;subst e
 obtain rfl:ob=o:=atY (hb.symm.trans ho)
 rw[hd]at hc;cases hc
theorem K9{h:Heap}{i:Int}{v:Value}(x:NestedIs h (.num i) v)(n:Nat):ofAClassStatement n v=pure false/\hashByValue n v=pure true:=by
 cases x with
 |bool _=>cases n<;>exact⟨rfl,rfl⟩
 |int _ t=>cases n<;>exact⟨rfl,rfl⟩
theorem Zz{h:Heap}:∀(l:List Int) (vs:List Value),NestedAll h (l.map .num) vs->∀v∈vs,∃i,NestedIs h (.num i) v
 |[],_,x,v,hv=>by
  cases x;cases hv
 |i::l,_,x,v,hv=>by
  rw[atE]at x;cases x with
  |cons x1 x2=>
   rcases atO.mp hv with e|hv
   .exact⟨i,by rw[e];exact x1⟩
   .exact Zz l _ x2 v hv
theorem acH{n:Nat}{a:Addr}{o:Obj}{vs:Array Value}{m:Nat}(ho:s.heap.get? a=some o)(hc:o.cls=.type "tuple")(hd:o.data=.seq vs m)(hq:∀v∈vs.toList,∀(E:Value->Shared->Prop) (Q:Bool->Shared->Prop),Q false s->wpAny (model P w) A (ofAClassStatement n v) Q E s){Q:Bool->Shared->Prop}(q:Q false s) :
  wpAny (model P w) A (ofAClassStatement (n+1) (.ref a)) Q E s:=by
 have hT:s.TypeIs (.ref a) "tuple":=⟨o,ho,hc⟩
 unfold ofAClassStatement;refine wpAny_bind (wpAny_typeOf hT ?_)
 dsimp only
 have eq1:(("tuple" : String)=="tuple")=true:=by decide
 simp only[eq1,if_true,Bool.not_true,aud,if_false]
 try refine wpAny_bind (wpAny_pure ?_)
 try simp only[Bool.not_true,aud,if_false]
 refine wpAny_bind (wpAny_seqItems ho hd ?_)
 dsimp only
 refine wpAny_bind ?_;rw[<-Array.forIn_toList];refine wpAny_forIn_list _ (λleft r u=>r.1=none/\u=s/\∀v∈left,v∈vs.toList) _ ?_ ?_ _ _ ⟨rfl,rfl,λv hv=>hv⟩
 .rintro v left r u ⟨hr,rfl,hall⟩;refine wpAny_bind (hq v (hall v atD) _ _ ?_);simp only[aud,if_false];exact wpAny_pure ⟨rfl,rfl,λy hy=>hall y (atA _ hy)⟩
 .rintro⟨r1,r2⟩ u ⟨hr,rfl,_⟩;simp only at hr;subst hr;exact wpAny_pure q
theorem aa7{n:Nat}{a:Addr}{o:Obj}{vs:Array Value}{m:Nat}(ho:s.heap.get? a=some o)(hc:o.cls=.type "tuple")(hd:o.data=.seq vs m)(hq:∀v∈vs.toList,∀(E:Value->Shared->Prop) (Q:Bool->Shared->Prop),Q true s->wpAny (model P w) A (hashByValue n v) Q E s){Q:Bool->Shared->Prop}(q:Q true s) :
  wpAny (model P w) A (hashByValue (n+1) (.ref a)) Q E s:=by
 have hT:s.TypeIs (.ref a) "tuple":=⟨o,ho,hc⟩
 unfold hashByValue;refine wpAny_bind (wpAny_specialOf hT PySem.F.slot_tuple_hash.lookup ?_);show wpAny _ _ (seqItems? (.ref a) >>= _) _ _ s;refine wpAny_bind (wpAny_seqItems ho hd ?_);refine wpAny_bind ?_;show wpAny _ _ (forIn vs _ _) _ _ s;rw[<-Array.forIn_toList];refine wpAny_forIn_list _ (λleft r u=>r.1=none/\u=s/\∀v∈left,v∈vs.toList) _ ?_ ?_ _ _ ⟨rfl,rfl,λv hv=>hv⟩
 .rintro v left r u ⟨hr,rfl,hall⟩;refine wpAny_bind (hq v (hall v atD) _ _ ?_);simp only[Bool.not_true,aud,if_false];exact wpAny_pure ⟨rfl,rfl,λy hy=>hall y (atA _ hy)⟩
 .rintro⟨r1,r2⟩ u ⟨hr,rfl,_⟩;simp only at hr;subst hr;exact wpAny_pure q
theorem Kw{r:Rw}{a:Addr}(x:RI s.heap r a):(∀{Q:Bool->Shared->Prop},Q false s->wpAny (model P w) A (ofAClassStatement 8 (.ref a)) Q E s)/\∀{Q:Bool->Shared->Prop},Q true s->wpAny (model P w) A (hashByValue 8 (.ref a)) Q E s:=by
 obtain⟨x,_⟩:=x;unfold nk at x;cases x with
 | @tup _ o vs m _ ho hc hd x=>
  have items:∀v∈vs.toList,(∃i,NestedIs s.heap (.num i) v)\/∃b,v=.ref b/\∃o us k,s.heap.get? b=some o/\o.cls=.type "tuple"/\o.data=.seq us k/\∀u∈us.toList,∃i,NestedIs s.heap (.num i) u:=by
   generalize vs.toList=l at x;cases x with
   |cons x1 x=>
    cases x with
    |cons x2 x=>
     cases x;intro v hv;rcases atO.mp hv with e|hv
     .exact Or.inl ⟨_,by rw[e];exact x1⟩
     .have e:=atF.mp hv;cases x2 with
      |tup k1 k2 k3 k4=>exact Or.inr ⟨_,e,_,_,_,k1,k2,k3,Zz _ _ k4⟩
  refine⟨λq=>acH ho hc hd (λv hv E' Q' q'=>?_) q,λq=>aa7 ho hc hd (λv hv E' Q' q'=>?_) q⟩
  .rcases items v hv with⟨i,y⟩|⟨b,rfl,o',us,k,k1,k2,k3,k4⟩
   .rw[(K9 y 7).1];exact wpAny_pure q'
   .refine acH k1 k2 k3 (λu hu E2 Q2 q2=>?_) q';obtain⟨i,y⟩:=k4 u hu;rw[(K9 y 6).1];exact wpAny_pure q2
  .rcases items v hv with⟨i,y⟩|⟨b,rfl,o',us,k,k1,k2,k3,k4⟩
   .rw[(K9 y 7).2];exact wpAny_pure q'
   .refine aa7 k1 k2 k3 (λu hu E2 Q2 q2=>?_) q';obtain⟨i,y⟩:=k4 u hu;rw[(K9 y 6).2];exact wpAny_pure q2
end
abbrev Ent:Type:=Addr×Rw
section
variable{P:Program}{w:World}{A:Around}{E:Value->Shared->Prop}{s:Shared}
def ents(hf:Rw->Int)(L:List Ent):List (Int×Value):=L.map λp=>(hf p.2,Value.ref p.1)
structure tD(hf:Rw->Int)(w:World)(h:Heap)(a:Addr)(L:List Ent)(es:Array (Int×Value))(ep:Nat)(t:SetTable):Prop where
 ob:∃o,h.get? a=some o/\o.ExactSet/\o.data=.set es ep t
 en:es.toList=ents hf L
 tab:TabOk t (L.map λp=>hf p.2)
 nd:(L.map Prod.snd).Nodup
 ky:∀p∈L,RI h p.2 p.1
 pl:t.plain=true
 ld:w.params.followText "set-order"=true\/t.led=true
 free:L.length*5<t.mask*3
 few:L.length<=76
variable{hf:Rw->Int}{a:Addr}{L:List Ent}{es:Array (Int×Value)}{ep:Nat}{t:SetTable}
theorem Bo(h:es.toList=ents hf L):es.size=L.length:=by rw[<-auh,h];exact atJ _
theorem Qq(h:es.toList=ents hf L){i:Nat}{p:Ent}(g:L[i]?=some p):es[i]?=some (hf p.2,Value.ref p.1):=by rw[<-aut,h];unfold ents;rw[atR,g];rfl
theorem fits_of(h1:t.place.size=es.size)(h2:t.dummies=#[])(h3:es.size<=t.mask):t.fits es.size=true:=by unfold SetTable.fits SetTable.fill;rw[h2,atx,beq_iff_eq,au1];exact⟨h1,by show t.place.size+0<=t.mask;omega⟩
theorem tD.fits(R:tD hf w s.heap a L es ep t):t.fits es.size=true:=by have l1:=Bo R.en;have l2:=R.tab.sz;rw[atJ]at l2;have l3:=R.free;exact fits_of (by omega) R.tab.dm (by omega)
theorem tD.sound(R:tD hf w s.heap a L es ep t):¬t.gaveWay=true:=by unfold SetTable.gaveWay;rw[mask_odd R.tab.mok];decide
theorem amV{r:Rw}{b:Addr}{Q:Bool->Shared->Prop}(hx:RI s.heap r b){ys:List Value}(hy:∀y∈ys,∃q c,y=Value.ref c/\RI s.heap q c)(q:Q false s):wpAny (model P w) A (searchCouldBeSeen (.ref b) ys) Q E s:=by
 unfold searchCouldBeSeen;refine wpAny_bind ?_;refine wpAny_forIn_list _ (λleft r u=>r.1=none/\u=s/\∀y∈left,∃q c,y=Value.ref c/\RI s.heap q c) _ ?_ ?_ _ _ ⟨rfl,rfl,hy⟩
 .rintro v left r u ⟨hr,rfl,hall⟩;obtain⟨q',c,rfl,hc⟩:=hall v atD;have more:∀y∈left,∃q c,y=Value.ref c/\RI u.heap q c:=λy m=>hall y (atA _ m)
  dsimp only
  by_cases hv:(b==c || (carriedByValue (.ref b)&&carriedByValue (.ref c)))=true
  .exact wp_if_pos hv (wpAny_pure ⟨rfl,rfl,more⟩)
  .refine wp_if_neg hv ?_;refine wpAny_bind ((qF P w).quiet hx ?_);simp only[Bool.not_true,aud,if_false];refine wpAny_bind ((qF P w).quiet hc ?_);simp only[Bool.not_true,aud,if_false];refine wpAny_bind ((Kw hx).1 ?_);simp only[aud,if_false];refine wpAny_bind ((Kw hc).1 ?_);simp only[aud,if_false];exact wpAny_pure ⟨rfl,rfl,more⟩
 .rintro⟨r1,r2⟩ u ⟨hr,rfl,_⟩;simp only at hr;subst hr;exact wpAny_pure q
abbrev wj(m:Nat)(h:Int)(c:Nat):SetTable.Probe:=nth m (runAt m (SetTable.bits h%(m+1)) (SetTable.bits h)) c
theorem abZ(m:Nat)(h:Int)(c:Nat):(wj m h c).dummy=none:=by
 have all:∀(n:Nat) (p:SetTable.Probe),p.dummy=none->(nth m p n).dummy=none:=by
  intro n
  induction n with
  |zero=>exact λp k=>k
  |succ n ih=>
   intro p k;refine ih (adv m p) ?_;unfold adv
   split<;>exact k
 exact all c _ rfl
theorem Yb(m:Nat)(h:Int)(c d:Nat):nth m (wj m h c) d=wj m h (c+d):=(nth_add m c _ d).symm
theorem seek(R:tD hf w s.heap a L es ep t){x:Addr}{r:Rw}(hx:RI s.heap r x){h:Int}(hh:hf r=h)(hu:(qF P w).room A){N:Nat}(hN:N<10*SetTable.turns t.mask)(out:way t.mask (h) N∉t.place.toList)(inn:∀c,c<N->way t.mask (h) c∈t.place.toList){Q:SetFound->Shared->Prop}
  (yes:r∈L.map Prod.snd->Q (.there none) s) (no:r∉L.map Prod.snd->Q (.free (way t.mask (h) N) false) s) :
  ∀(f c:Nat) (st:Option SetTable.Probe),st.getD (t.probeStart (h))=wj t.mask (h) c->c<=N->N-c<f->
   (∀(i:Nat) (p:Ent),L[i]?=some p->p.2=r->∃d,c<=d/\d<N/\t.place.toList[i]?=some (way t.mask (h) d))->
   wpAny (model P w) A (setSearchFrom a (.ref x) (h) true f st) Q E s:=by
 intro f
 induction f with
 |zero=>exact λ_ _ _ _ hfl _=>absurd hfl (Nat.not_lt_zero _)
 |succ f ih=>
  intro c st hst hc hfl left;obtain⟨o,ho,hex,hd⟩:=R.ob;rw[setSearchFrom_succ];refine wpAny_bind (wpAny_setState_of ho hd R.fits ?_)
  dsimp only
  refine wp_if_neg R.sound ?_
  try refine wpAny_bind (wpAny_pure ?_)
  have jAt:∀d,(nth t.mask (wj t.mask h c) d).j=way t.mask h (c+d):=λd=>congrArg SetTable.Probe.j (Yb t.mask h c d);have hashOf:∀(i:Nat) (p:Ent),L[i]?=some p->(es[i]?.map (·.1)).getD 0=hf p.2:=λi p g=>by
   rw[Qq R.en g];rfl
  have spec:=go_spec t R.tab.ris R.tab.dm (λi=>(es[i]?.map (·.1)).getD 0) h (10*SetTable.turns t.mask) (N-c) (wj t.mask h c) (abZ _ _ _) (by omega) (λd hdn=>by rw[jAt];exact inn (c+d) (by omega)) (by rw[jAt,auX hc];exact out);rcases spec with⟨d,i,hdn,hi,hhi,hno,hpr⟩|⟨hno,hpr⟩
  .have hpr':t.probe (λi=>(es[i]?.map (·.1)).getD 0) h (st.getD (t.probeStart h))=some (.candidate (way t.mask h (c+d)) i (wj t.mask h (c+(d+1)))):=by
    rw[hst,<-jAt,<-Yb];exact hpr
   rw[hpr']
   dsimp only
   rw[jAt]at hi;have hil:i<L.length:=by have k1:=(aty.mp hi).1;have k2:=R.tab.sz;rw[atJ]at k2;rw[auh]at k1;omega
   obtain⟨p,hp⟩:∃p,L[i]?=some p:=⟨_,atz hil⟩;have pm:=atG hp;have go:wpAny (model P w) A (searchRest a (.ref x) h true f es t (way t.mask h (c+d)) i (wj t.mask h (c+(d+1)))) Q E s:=by
    unfold searchRest;rw[Qq R.en hp]
    dsimp only
    refine wpAny_bind (wpAny_holding ((qF P w).eqBool hu (R.ky p pm) hx ?_));refine wpAny_bind (wpAny_setState_of ho hd R.fits ?_)
    dsimp only
    by_cases same:p.2=r
    .exact wp_if_pos (by simp[same]) (wpAny_pure (yes (atM.mpr ⟨p,pm,same⟩)))
    .refine wp_if_neg (by simp[same]) ?_
     try refine wpAny_bind (wpAny_pure ?_)
     rw[sameMem]
     dsimp only
     have live:t.slot (way t.mask h (c+d))=.live i:=slot_live R.tab.ris hi;simp only[if_true,live,Qq R.en hp];refine wpAny_bind (wpAny_isSame_ref_self (wpAny_bind (wpAny_pure ?_)));simp only[if_true];refine wp_if_neg (by simp[same]) ?_;refine ih (c+(d+1)) _ rfl (by omega) (by omega) λi0 p0 g0 e0=>?_;obtain⟨d0,a1,a2,a3⟩:=left i0 p0 g0 e0;refine⟨d0,?_,a2,a3⟩;by_cases c1:d0<c+d
     .exact absurd ((hashOf i0 p0 g0).trans ((congrArg hf e0).trans hh)) (hno (d0-c) i0 (by omega) (by rw[jAt,auX a1];exact a3))
     .by_cases c2:d0=c+d
      .rw[c2]at a3;have live0:=slot_live R.tab.ris a3;rw[live]at live0;injection live0 with ei;rw[<-ei,hp]at g0;exact absurd ((congrArg Prod.snd (atY g0)).trans e0) same
      .omega
   by_cases hl:t.led=true
   .refine wp_if_neg (by simp[hl]) ?_
    try refine wpAny_bind (wpAny_pure ?_)
    exact go
   .refine wp_if_pos (by simp[hl]) ?_;refine wpAny_bind (amV hx (λy hy=>?_) ?_)
    .obtain⟨e,he,ee⟩:=atM.mp hy;have h1:e∈es/\e.1=h:=by simpa using he
     have h2:e∈es.toList:=by simpa using h1.1
     rw[R.en]at h2;obtain⟨p2,hp2,e2⟩:=atM.mp h2;exact⟨p2.2,p2.1,by rw[<-ee,<-e2],R.ky p2 hp2⟩
    .refine wp_if_neg (by decide) ?_
     try refine wpAny_bind (wpAny_pure ?_)
     exact go
  .have hpr':t.probe (λi=>(es[i]?.map (·.1)).getD 0) h (st.getD (t.probeStart h))=some (.empty (way t.mask h N) none):=by
    have e2:way t.mask h N=(nth t.mask (wj t.mask h c) (N-c)).j:=by rw[jAt,auX hc]
    rw[hst,e2];exact hpr
   rw[hpr']
   dsimp only
   refine wpAny_pure (no λhm=>?_);obtain⟨p0,m0,e0⟩:=atM.mp hm;obtain⟨i0,hi0,e1⟩:=List.getElem_of_mem m0;have g0:L[i0]?=some p0:=by rw[atz hi0,e1]
   obtain⟨d0,a1,a2,a3⟩:=left i0 p0 g0 e0;exact hno (d0-c) i0 (by omega) (by rw[jAt,auX a1];exact a3) ((hashOf i0 p0 g0).trans ((congrArg hf e0).trans hh))
theorem look(R:tD hf w s.heap a L es ep t){x:Addr}{r:Rw}(hx:RI s.heap r x)(hu:(qF P w).room A){Q:SetFound->Shared->Prop}(yes:r∈L.map Prod.snd->Q (.there none) s)
  (no:∀N,r∉L.map Prod.snd->way t.mask (hf r) N∉t.place.toList->(∀c,c<N->way t.mask (hf r) c∈t.place.toList)->Q (.free (way t.mask (hf r) N) false) s):wpAny (model P w) A (setSearch a (.ref x) (hf r) true) Q E s:=by
 have hfree:=R.free;obtain⟨N,hN,out,inn⟩:=R.tab.first (by rw[atJ];omega) (hf r);have small:N<100000:=by
  have:10*SetTable.turns t.mask<=1420:=by unfold SetTable.turns;rcases R.tab.mok with e|e|e<;>omega
  omega
 unfold setSearch;refine seek R hx rfl hu hN out inn yes (λhn=>no N hn out inn) 100000 0 none rfl (auo _) (by omega) λi p g e=>?_;have hi:(L.map λp=>hf p.2)[i]?=some (hf r):=by rw[atR,g,<-e];rfl
 have hil:i<t.place.toList.length:=by have k1:=(aty.mp g).1;have k2:=R.tab.sz;rw[atJ]at k2;rw[auh];omega
 obtain⟨c,hc,ec⟩:=R.tab.before out hi (atz hil);exact⟨c,auo _,hc,by rw[atz hil,ec]⟩
end
section
variable{P:Program}{w:World}{A:Around}{E:Value->Shared->Prop}{s:Shared}{hf:Rw->Int}{a:Addr}{L:List Ent}{es:Array (Int×Value)}{ep:Nat}{t:SetTable}
theorem ag6(L:List Ent)(n:Nat)(x:Addr)(r:Rw):ents hf (L.take n++(x,r)::L.drop n)=(ents hf L).take n++(hf r,Value.ref x)::(ents hf L).drop n:=by unfold ents;rw[List.map_append,atE,List.map_take,List.map_drop]
theorem range_all(L:List Ent):(List.range L.length).filterMap (λi=>L[i]?)=L:=by
 have part:∀n,n<=L.length->(List.range n).filterMap (λi=>L[i]?)=L.take n:=by
  intro n
  induction n with
  |zero=>exact λ_=>rfl
  |succ n ih=>
   intro hn;rw[List.range_succ,List.filterMap_append,ih (by omega),List.take_add_one,atz (show n<L.length by omega)];congr 1;rw[List.filterMap_cons_some (atz (show n<L.length by omega))];rfl
 rw[part _ (at6 _),List.take_length]
theorem aeP(h:es.toList=ents hf L){order:Array Nat}(hp:order.toList.Perm (List.range L.length)) :
  ∃M:List Ent,(order.filterMap (es[·]?)).toList=ents hf M/\M.Perm L/\(M.map λp=>hf p.2)=order.toList.map λi=>(es.map (·.1)).getD i 0:=by
 have inside:∀i∈order.toList,i<L.length:=λi hi=>List.mem_range.mp (hp.mem_iff.mp hi);refine⟨order.toList.filterMap (λi=>L[i]?),?_,?_,?_⟩
 .have e1:(order.filterMap (es[·]?)).toList=order.toList.filterMap (λi=>es[i]?):=by
   first | rw[Array.toList_filterMap] | simp
  rw[e1];unfold ents;rw[List.map_filterMap];congr 1;funext i;rw[<-aut,h];unfold ents;rw[atR]
 .have:=hp.filterMap (λi=>L[i]?);rw[range_all]at this;exact this
 .generalize order.toList=l at inside
  induction l with
  |nil=>rfl
  |cons i l ih=>
   have hi:=inside i atD;have e5:(es.map (·.1))[i]?=some (hf (L[i]).2):=by rw[Array.getElem?_map,Qq h (atz hi)];rfl
   rw[List.filterMap_cons_some (atz hi),atE,atE,ih λj hj=>inside j (atA _ hj),Array.getD_eq_getD_getElem?,e5];rfl
theorem anF{o:Obj}(ho:s.heap.get? a=some o)(hex:o.ExactSet)(hd:o.data=.set es ep t)(he:es.toList=ents hf L)(hsz:t.place.size=es.size)(hdm:t.dummies=#[])(hfl:es.size<=t.mask)(nd:(L.map Prod.snd).Nodup)(ky:∀p∈L,RI s.heap p.2 p.1)(pl:t.plain=true)
  (ld:w.params.followText "set-order"=true\/t.led=true) (few:L.length<=76) {wanted M:Nat} (hw:SetTable.sizeAbove wanted-1=M) (hM:MaskOk M) (hw2:SetTable.sizeAbove wanted<=128) (hn:L.length*5<M*3) {Q:Unit->Shared->Prop}
  (q:∀h' K es' ep' t',Heap.SameBut a s.heap h'->tD hf w h' a K es' ep' t'->K.Perm L->Q () { s with heap:=h' }):wpAny (model P w) A (setRelay a wanted) Q E s:=by
 have len:=Bo he;obtain⟨t',order,e,hp,T,em,el,epl,ed⟩:=relaid_ok t (hs:=es.map (·.1)) (wanted:=wanted) hw hM (by rw[Array.size_map,len];omega);rw[Array.size_map,len]at hp;obtain⟨K,k1,k2,k3⟩:=aeP he hp;rw[<-k3]at T;have ks:(order.filterMap (es[·]?)).size=es.size:=by rw[Bo k1,k2.length_eq,len]
 rw[setRelay_eq];refine wpAny_bind (wpAny_setState_of ho hd (fits_of hsz hdm hfl) ?_)
 dsimp only
 refine wp_if_neg (by rw[sizeLine_eq];omega) ?_
 try refine wpAny_bind (wpAny_pure ?_)
 rw[e]
 dsimp only
 refine wpAny_bind ?_;refine wp_if_neg (by rw[ks];simp) ?_
 try refine wpAny_bind (wpAny_pure ?_)
 refine wpAny_pure ?_
 dsimp only
 refine wpAny_storeSet_of ho hd ?_ (by rw[ks,len,sizeLine_eq];omega);have sb:Heap.SameBut a s.heap (s.heap.update a (Obj.putSet (order.filterMap (es[·]?)) t')):=Heap.SameBut.update ..;refine q _ K (order.filterMap (es[·]?)) (ep+1) t' sb ⟨⟨_,store_at ho hd,⟨hex.1,hex.2.1,hex.2.2⟩,rfl⟩,k1,T,(k2.map Prod.snd).nodup_iff.mpr nd,λp hp=>aaE (ky p (k2.mem_iff.mp hp)) ho hd sb,by rw[epl];exact pl,by rw[el];exact ld,?_,by rw[k2.length_eq];exact few⟩ k2;rw[k2.length_eq,em];exact hn
theorem ane(R:tD hf w s.heap a L es ep t){x:Addr}{r:Rw}(hx:RI s.heap r x)(hu:(qF P w).room A)(hfew:r∉L.map Prod.snd->L.length+1<=76){Q:Bool->Shared->Prop}
  (q:∀b h' K es' ep' t',Heap.SameBut a s.heap h'->tD hf w h' a K es' ep' t'->(r∈L.map Prod.snd->K=L)->(r∉L.map Prod.snd->K.Perm ((x,r)::L))->Q b { s with heap:=h' }):wpAny (model P w) A (setAddHashed a (.ref x) (hf r)) Q E s:=by
 obtain⟨o,ho,hex,hd⟩:=R.ob;have len:=Bo R.en;have hfree:=R.free;unfold setAddHashed;refine wpAny_holding ?_;rw[show(100000:Nat)=99999+1 from rfl,setAddHashedIn_succ];refine wpAny_bind (wpAny_setState_of ho hd R.fits ?_)
 dsimp only
 refine wp_if_neg (by simp[byScan,Value.scannable]) ?_
 try refine wpAny_bind (wpAny_pure ?_)
 refine wpAny_bind (look R hx hu (λhm=>?_) λN hm out inn=>?_)
 .dsimp only
  exact wpAny_pure (q false s.heap L es ep t (Heap.SameBut.refl a s.heap) R (λ_=>rfl) λz=>absurd hm z)
 have few1:=hfew hm
 dsimp only
 refine wpAny_bind (wpAny_setState_of ho hd R.fits ?_)
 dsimp only
 obtain⟨q1,q2,q3,q4,q5,q6,q7,q8,q9⟩:=R.tab.put out inn;have pl1:(t.put (way t.mask (hf r) N)).1.plain=true:=by rw[q6];exact R.pl
 generalize hpt:t.put (way t.mask (hf r) N)=pt at q1 q3 q4 q5 q6 q7 q8 q9 pl1 |-
 obtain⟨t1,n⟩:=pt
 dsimp only at q1 q3 q4 q5 q6 q7 q8 q9 pl1 |-
 subst q1
 first
  |(refine wpAny_bind ?_;refine wp_if_pos pl1 ?_;refine(Kw hx).2 ?_)
  |refine wp_if_pos pl1 (wpAny_bind ((Kw hx).2 ?_))
 simp only[if_true];have ein:(SetTable.insertAt es (SetTable.below t.place (way t.mask (hf r) N)) (hf r,Value.ref x)).toList=ents hf (L.take (SetTable.below t.place (way t.mask (hf r) N))++(x,r)::L.drop (SetTable.below t.place (way t.mask (hf r) N))):=by rw[SetTable.toList_insertAt,ag6,R.en]
 generalize hnn:SetTable.below t.place (way t.mask (hf r) N)=n at q2 q3 ein |-
 have pm:=put_perm L n (x,r);have hs1:(L.take n++(x,r)::L.drop n).map (λp=>hf p.2)=(L.map λp=>hf p.2).take n++hf r::(L.map λp=>hf p.2).drop n:=by rw[List.map_append,atE,List.map_take,List.map_drop]
 rw[<-hs1]at q3;have nd1:((L.take n++(x,r)::L.drop n).map Prod.snd).Nodup:=by refine(pm.map Prod.snd).nodup_iff.mpr ?_;rw[atE];exact auC.mpr ⟨hm,R.nd⟩
 have len1:(SetTable.insertAt es n (hf r,Value.ref x)).size=L.length+1:=by rw[Bo ein,pm.length_eq];rfl
 generalize SetTable.insertAt es n (hf r,Value.ref x)=es1 at ein len1 |-
 have lenM:(L.take n++(x,r)::L.drop n).length=L.length+1:=pm.length_eq;generalize L.take n++(x,r)::L.drop n=M at pm q3 nd1 ein lenM;refine wpAny_bind (wpAny_storeSet_of ho hd ?_ (by rw[len1,sizeLine_eq];omega));have sb:Heap.SameBut a s.heap (s.heap.update a (Obj.putSet es1 t1)):=Heap.SameBut.update ..;have ho1:=store_at (es':=es1) (t':=t1) ho hd;generalize s.heap.update a (Obj.putSet es1 t1)=h1 at sb ho1 |-
 have ky1:∀p∈M,RI h1 p.2 p.1:=λp hp=>by
  rcases atO.mp (pm.mem_iff.mp hp) with e|m
  .rw[e];exact aaE hx ho hd sb
  .exact aaE (R.ky p m) ho hd sb
 have ld1:w.params.followText "set-order"=true\/t1.led=true:=by rw[q5];exact R.ld
 have full:t1.tooFull=true↔(L.length+1)*5 ≥ t1.mask*3:=by unfold SetTable.tooFull;rw[au1,q9,atJ]
 by_cases hfu:t1.tooFull=true
 .first
   |(refine wpAny_bind ?_;refine wp_if_pos (by simp[hfu]) ?_)
   |(refine wp_if_pos (by simp[hfu]) ?_;refine wpAny_bind ?_)
  have over:=full.mp hfu;rw[len];have psz:t1.place.size=es1.size:=by have:=q3.sz;rw[atJ,lenM]at this;rw[this,len1]
  have which:(t.mask=7/\L.length=4)\/(t.mask=31/\L.length=18):=by
   rcases R.tab.mok with e|e|e
   .rw[q4,e]at over;rw[e]at hfree;exact Or.inl ⟨e,by omega⟩
   .rw[q4,e]at over;rw[e]at hfree;exact Or.inr ⟨e,by omega⟩
   .rw[q4,e]at over;omega
  have go:∀m,SetTable.sizeAbove (SetTable.grown (L.length+1))-1=m->MaskOk m->SetTable.sizeAbove (SetTable.grown (L.length+1))<=128->(L.length+1)*5<m*3->
    wpAny (model P w) A (setRelay a (SetTable.grown (L.length+1))) (λ_ u=>wpAny (model P w) A (pure true) Q E u) E { s with heap:=h1 }:=λm g1 g2 g3 g4=>
   anF (s:={ s with heap:=h1 }) ho1 ⟨hex.1,hex.2.1,hex.2.2⟩ rfl ein psz q3.dm (by rw[len1,q4];rcases which with⟨e,e2⟩|⟨e,e2⟩<;>omega) nd1 ky1 pl1 ld1 (by rw[lenM];exact few1) g1 g2 g3 (by rw[lenM];exact g4)
    λh2 K es2 ep2 t2 sb2 R2 pm2=>wpAny_pure (q true h2 K es2 ep2 t2 (sb.trans sb2) R2 (λz=>absurd z hm) λ_=>pm2.trans pm)
  rcases which with⟨_,e2⟩|⟨_,e2⟩
  .exact go 31 (by rw[e2,size_20]) (.inr (.inl rfl)) (by rw[e2,size_20];decide) (by omega)
  .exact go 127 (by rw[e2,size_76]) (.inr (.inr rfl)) (by rw[e2,size_76];decide) (by omega)
 .first
   |refine wp_if_neg (by simp[hfu]) ?_
   |(refine wpAny_bind ?_;refine wp_if_neg (by simp[hfu]) ?_;refine wpAny_pure ?_)
  have under:¬(L.length+1)*5 ≥ t1.mask*3:=λz=>hfu (full.mpr z);exact wpAny_pure (q true h1 M es1 (ep+1) t1 sb ⟨⟨_,ho1,⟨hex.1,hex.2.1,hex.2.2⟩,rfl⟩,ein,q3,nd1,ky1,pl1,ld1,by rw[lenM];omega,by rw[lenM];exact few1⟩ (λz=>absurd z hm) λ_=>pm)
end
theorem Gf{α:Type}[DecidableEq α]:∀(l D:List α),l.Nodup->(∀x∈l,x∈D)->l.length<=D.length
 |[],_,_,_=>auo _
 |x::l,D,hn,hs=>by
  obtain⟨h1,h2⟩:=auC.mp hn;have mx:=hs x atD;have ih:=Gf l (D.erase x) h2 λy hy=>(List.mem_erase_of_ne (λe=>h1 (by rw[<-e];exact hy))).2 (hs y (atA _ hy));have e:=List.length_erase_of_mem mx;have hp:=List.length_pos_of_mem mx;rw[atQ];omega
structure Has(ks:List Ent)(i:Nat)(L:List Ent):Prop where
 sub:∀p∈L,p∈ks.take i
 all:∀p∈ks.take i,p.2∈L.map Prod.snd
theorem HF{α:Type}{l:List α}{i:Nat}{x:α}(h:l[i]?=some x):l.take (i+1)=l.take i++[x]:=by rw[List.take_add_one,h];rfl
theorem Has.next{ks L K:List Ent}{i:Nat}{x:Ent}(g:Has ks i L)(h:ks[i]?=some x)(h1:x.2∈L.map Prod.snd->K=L)(h2:x.2∉L.map Prod.snd->K.Perm (x::L)):Has ks (i+1) K:=by
 by_cases c:x.2∈L.map Prod.snd
 .rw[h1 c];refine⟨λp hp=>?_,λp hp=>?_⟩
  .rw[HF h];exact aui _ (g.sub p hp)
  .rw[HF h]at hp;rcases atL.mp hp with m|m
   .exact g.all p m
   .rw[atF.mp m];exact c
 .have pm:=h2 c;refine⟨λp hp=>?_,λp hp=>?_⟩
  .rw[HF h];rcases atO.mp (pm.mem_iff.mp hp) with e|m
   .exact aul _ (atF.mpr e)
   .exact aui _ (g.sub p m)
  .rw[(pm.map Prod.snd).mem_iff,atE];rw[HF h]at hp;rcases atL.mp hp with m|m
   .exact atA _ (g.all p m)
   .rw[atF.mp m];exact atD
def Bu(w:World):Obj:={ cls:=.type "set",dict:=none,data:=.set #[] 0 (.fresh 0 0 (!w.params.followText "set-order")) }
section
variable{P:Program}{w:World}{A:Around}{E:Value->Shared->Prop}{s:Shared}{hf:Rw->Int}
theorem tD.stay{h h':Heap}{a:Addr}{L:List Ent}{es:Array (Int×Value)}{ep:Nat}{t:SetTable}(R:tD hf w h a L es ep t)(ha:∀o,h.get? a=some o->h'.get? a=some o)(hk:∀p∈L,RI h' p.2 p.1):tD hf w h' a L es ep t:=by obtain⟨o,ho,r⟩:=R.ob;exact⟨⟨o,ha o ho,r⟩,R.en,R.tab,R.nd,hk,R.pl,R.ld,R.free,R.few⟩
theorem ahs{h:Heap}{a:Addr}(ho:h.get? a=some (Bu w)):tD hf w h a [] #[] 0 (.fresh 0 0 (!w.params.followText "set-order")):=by
 refine⟨⟨_,ho,⟨rfl,rfl,rfl⟩,rfl⟩,rfl,⟨List.Pairwise.nil,rfl,rfl,.inl rfl,λx hx=>(by cases hx),λi h j hi=>(by simp at hi)⟩,auS,λp hp=>(by cases hp),rfl,?_,(show 0*5<7*3 by decide),auo _⟩;show _\/(!w.params.followText "set-order")=true
 cases w.params.followText "set-order"
 .exact .inr rfl
 .exact .inl rfl
theorem ajF(hhf:∀r,(qF P w).hash r=hf r){I:Addr}{fp wr:List Addr}{G:Array GenState->Array GenState->Prop}{n:Nat}{Pv:Nat->Value->Prop}{St:Nat->Shared->Prop}{R:Result->Shared->Prop}(W:WalksS P w A.in1 I fp wr G n Pv St)(S:Addr)(hSf:S∉fp)(ks:List Ent)(hn:n=ks.length)
  (D:List Rw) (hD:D.length<=76) (hkD:∀p∈ks,p.2∈D) (hval:∀i v,Pv i v->∃p,ks[i]?=some p/\v=.ref p.1) (h0:Heap) (hk:∀p∈ks,RI h0 p.2 p.1) (hS0:h0.get? S=none) (hw0:∀b∈wr,h0.get? b=none) (hu:(qF P w).room A.in1) :
  ∀(m i:Nat) (s:Shared),n-i=m->i<=n->St i s->(∀b o,h0.get? b=some o->s.heap.get? b=some o)->(∃L es ep t,tD hf w s.heap S L es ep t/\Has ks i L)->
   (∀u L es ep t,Moved (S::wr) G s u->tD hf w u.heap S L es ep t->Has ks n L->(∀b o,h0.get? b=some o->u.heap.get? b=some o)->R (.ok (.ret .none)) u)->
   codeAny (model P w) A (.builtin "set.update.loop" ⟨[.ref S,.ref I],[]⟩) R s:=by
 have Sw:S∉wr:=λh=>hSf (W.sub _ h);have wS:∀b∈wr,b∈S::wr:=λb hb=>atA _ hb;have old:∀{s u:Shared},Moved wr G s u->(∀b o,h0.get? b=some o->s.heap.get? b=some o)->∀b o,h0.get? b=some o->u.heap.get? b=some o:=λhm hkp b o e=>hm.heap b o (λhb=>by rw[hw0 b hb]at e;cases e) (hkp b o e);intro m
 induction m with
 |zero=>
  intro i s hm0 hi hst hkp ⟨L,es,ep,t,hS,g⟩ hR
  obtain rfl:i=n:=by omega
  refine codeAny_builtin PyProof.Rows.F.entry_set_update_loop ?_;rw[Around.under_plainId PyProof.Rows.F.plain_set_update_loop _];refine wpAny_bind (W.done s _ _ hst λu hm=>?_);have kept:=old hm hkp;exact wpAny_pure (hR u L es ep t (hm.mono wS) (hS.stay (λo e=>hm.heap S o Sw e) λp hp=>WT (hk p (auL (g.sub p hp))) kept) g kept)
 |succ m ih=>
  intro i s hm0 hi hst hkp ⟨L,es,ep,t,hS,g⟩ hR;have hlt:i<n:=by omega
  refine codeAny_builtin PyProof.Rows.F.entry_set_update_loop ?_;rw[Around.under_plainId PyProof.Rows.F.plain_set_update_loop _];refine wpAny_bind (W.item i s _ _ hlt hst λv u hP hst' hm=>?_);obtain⟨p,hp,rfl⟩:=hval i v hP;have kept:=old hm hkp;have hS':tD hf w u.heap S L es ep t:=hS.stay (λo e=>hm.heap S o Sw e) λq hq=>WT (hk q (auL (g.sub q hq))) kept;have hx:RI u.heap p.2 p.1:=WT (hk p (atG hp)) kept;refine wpAny_bind (wpAny_holding ?_);unfold setAdd;refine wpAny_holding ?_;refine wpAny_bind ((qF P w).pyHash hu hx ?_);rw[hhf];have inD:∀y∈L.map Prod.snd,y∈D:=λy hy=>by
   obtain⟨q,hq,e⟩:=atM.mp hy;rw[<-e];exact hkD q (auL (g.sub q hq))
  refine ane (s:={ u with toks:=u.toks+(qF P w).draws p.2 }) hS' hx hu (λhnew=>?_) λb h' K es' ep' t' sb hS2 c1 c2=>?_
  .have:=Gf (p.2::L.map Prod.snd) D (auC.mpr ⟨hnew,hS.nd⟩) λy hy=>by
    rcases atO.mp hy with e|hy
    .rw[e];exact hkD p (atG hp)
    .exact inD y hy
   rw[atQ,atJ]at this;omega
  have kept2:∀b o,h0.get? b=some o->h'.get? b=some o:=λb o e=>(sb.2 b (λz=>by rw[z,hS0]at e;cases e)).trans (kept b o e);refine wpAny_pure ⟨plainId_quiet PyProof.Rows.F.plain_set_update_loop _,ih (i+1) _ (by omega) hlt (W.frame _ u _ _ hst' (Nat.le_add_right _ _) λb hb o e=>?_) kept2 ⟨K,es',ep',t',hS2,g.next hp c1 c2⟩ λv L2 es2 ep2 t2 hm2 hS3 g3 k3=>?_⟩
  .rw[sb.2 b (λh:b=S=>hSf (by rw[<-h];exact hb))];exact e
  .refine hR v L2 es2 ep2 t2 (Moved.trans W.gtrans ((hm.mono wS).then_heap (Nat.le_add_right _ _) λb o hb e=>?_) hm2) hS3 g3 k3;rw[sb.2 b (λh:b=S=>hb (by rw[h];exact atD))];exact e
set_option maxHeartbeats 4000000 in
theorem abV(hhf:∀r,(qF P w).hash r=hf r){l:Addr}{items:Array Value}(ks:List Ent)(D:List Rw)(hD:D.length<=76)(hkD:∀p∈ks,p.2∈D){Q:Value->Shared->Prop}(hh:A.handled=none)(hl:s.heap.IsList l items)(hit:items.toList=ks.map λp=>Value.ref p.1)
  (hk:∀p∈ks,RI s.heap p.2 p.1) (hu:A.units+3+8<cLine)
  (h:∀(h':Heap) (tk:Nat) L es ep t,tD hf w h' s.heap.objs.size L es ep t->Has ks ks.length L->(∀b o,s.heap.get? b=some o->h'.get? b=some o)->Q (.ref s.heap.objs.size) { s with heap:=h',toks:=tk }) :
  wpAny (model P w) A (call (.type "set") [.ref l]) Q E s:=by
 have isz:items.size=ks.length:=by rw[<-auh,hit,atJ]
 obtain⟨cc,tl,hmro⟩:=PySem.F.called_set.mro;have hmade:=PySem.F.called_set.made;have hsub:=PySem.F.called_set.sub;refine wpAny_call (codeAny_of_tree ?_);show wpAny _ _ (callAny (.type "set") _) _ _ _
 refine wpAny_pure ⟨Code.quiet_builtin _ (by decide +kernel),codeAny_builtin PySem.F.entry_type_call ?_⟩;rw[Around.under_plain (weight_type_call_type "set" [.ref l] []) rfl]
 have nt:=PySem.F.called_set.notType;have cr:=PySem.F.called_set.canCreate;have hct:=PySem.F.typeCall_set_1 (.ref l)
 (repeat (any_goals first | assumption | wp_step))
 refine codeAny_mono (code_set_led1 (.ref l) (E:=E) (Q₁:=λv u=>v=.ref s.heap.objs.size/\u={ s with heap:=s.heap.push (Bu w) }) ⟨rfl,rfl⟩) λr u hr=>?_;cases r with
 |error e=>exact hr
 |ok fl=>
  cases fl with
  |ret v=>
   obtain⟨rfl,rfl⟩:=hr;have hS:(s.heap.push (Bu w)).get? s.heap.objs.size=some (Bu w):=Heap.get?_push_size _ rfl;have hT:Shared.TypeIs { s with heap:=s.heap.push (Bu w) } (.ref s.heap.objs.size) "set":=⟨_,hS,rfl⟩
   have hli:=PySem.F.called_set.init.lookup;have hbi:=PySem.F.called_set.init.bind (.ref s.heap.objs.size)
   (repeat (any_goals first | assumption | wp_step))
   refine codeAny_mono (codeAny_call_builtin (R:=wants (λr u=>r=.none/\∃h' tk L es ep t,u={ s with heap:=h',toks:=tk }/\tD hf w h' s.heap.objs.size L es ep t/\Has ks ks.length L/\∀b o,s.heap.get? b=some o->h'.get? b=some o) E) PySem.F.called_set.init.plain PySem.F.entry_set_init (check_set_init_1 hT ?_)) λr₂ u₂ hr₂=>?_
   .obtain⟨ol,hol,hcl,nl,hdl⟩:=hl;obtain⟨ocls,odict,odata,oslots⟩:=ol;simp only at hcl hdl;subst hcl;subst hdl;have hol':(s.heap.push (Bu w)).get? l=some { cls:=.type "list",dict:=odict,data:=.seq items nl,slots:=oslots }:=Heap.get?_push_of_some _ hol
    have sl1:=PySem.F.sub_list_set;have sl2:=PySem.F.sub_list_frozenset;have nd:(Value.type "list"==Value.type "dict")=false:=by decide
    have hl1:(s.heap.push (Bu w)).IsList l items:=⟨_,hol',rfl,nl,rfl⟩;unfold Builtin.«set.__init__» noKeywords Builtin.Frozenset.updateFrom;generalize hPI:pyIter=PI
    wp_walk
    subst hPI;refine wpAny_pyIter_list hl1 ?_;refine wpAny_bind (wpAny_runValue ?_);have lS:l<s.heap.objs.size:=Heap.lt_size hol;have h3:A.in1.in1.in1.handled=none:=by simp[hh]
    have sz1:(s.heap.push (Bu w)).objs.size=s.heap.objs.size+1:=Heap.size_push ..;have lI:l≠(s.heap.push (Bu w)).objs.size:=by rw[sz1];exact auf (auD lS)
    have Sf:s.heap.objs.size∉[(s.heap.push (Bu w)).objs.size,l]:=by rw[sz1];simp only[atO,auc,or_false,not_or];exact⟨auf (Nat.lt_succ_self _),Nat.ne_of_gt lS⟩
    have hval:∀(i:Nat) (v:Value),items[i]?=some v->∃p,ks[i]?=some p/\v=.ref p.1:=λi v hv=>by
     rw[<-aut,hit,atR]at hv;obtain⟨p,g1,g2⟩:=aun.mp hv;exact⟨p,g1,g2.symm⟩
    have fresh:∀b,s.heap.objs.size<=b->s.heap.get? b=none:=λb hb=>by
     cases q:s.heap.get? b with
     |none=>rfl
     |some o=>exact absurd (Heap.lt_size q) (Nat.not_lt_of_le hb)
    refine ajF hhf ((Walks.list h3 _ l lI items).toS) s.heap.objs.size Sf ks isz D hD hkD hval s.heap hk (fresh _ (at6 _)) (λb hb=>fresh b (by rw[atF.mp hb,sz1];exact Nat.le_succ _)) hu (items.size-0) 0 _ (by omega) (auo _)
     ⟨⟨_,Heap.get?_push_size _ rfl,rfl,rfl⟩,(hl1.push _)⟩ (λb o e=>Heap.get?_push_of_some _ (Heap.get?_push_of_some _ e)) ⟨[],#[],0,_,ahs (Heap.get?_push_of_some _ hS),⟨λp hp=>(by cases hp),λp hp=>(by simp at hp)⟩⟩ λu L es ep t hm hS' g' kp=>?_
    obtain⟨h',g2,d',tk',os'⟩:=u;have eg:g2=s.gens:=hm.gens;have ed:d'=s.drawn:=hm.drawn;have eo:os'=s.os:=hm.os;subst eg;subst ed;subst eo;refine wpAny_pure ?_;rw[isz]at g';exact wpAny_pure ⟨rfl,h',tk',L,es,ep,t,rfl,hS',g',kp⟩
   .cases r₂ with
    |error e=>exact hr₂
    |ok fl₂=>
     cases fl₂ with
     |ret r=>
      obtain⟨rfl,h',tk,L,es,ep,t,rfl,hS',g',hk'⟩:=hr₂
      (repeat (any_goals first | assumption | wp_step))
      exact h _ _ _ _ _ _ hS' g' hk'
     |_=>exact hr₂.elim
  |_=>exact hr.elim
end
def aer(w:World)(h:Heap)(a:Addr)(L:List Ent):Prop:=∃(hf:Rw->Int) (es:Array (Int×Value)) (ep:Nat) (t:SetTable),(∃o,h.get? a=some o/\o.ExactSet/\o.data=.set es ep t)/\es.toList=ents hf L/\t.fits es.size=true/\Ris t.place.toList/\(w.params.followText "set-order"=true\/t.led=true)
def Px(w:World)(a:Addr)(L:List Ent):HO:=.ext λh=>aer w h a L
section
variable{X:Cx}
theorem XC{P:Program}{w:World}{h:Heap}:∀(l:List Int) (us:List Value),Vals (l.map V.int) us->NestedAll h (l.map .num) us
 |[],_,.nil=>.nil
 |i::l,_,.cons r t=>by
  obtain⟨tk,rfl⟩:=r;exact .cons (.int i tk) (XC (P:=P) (w:=w) l _ t)
theorem Xc:∀{ks:List Ent} {us:List Value},Vals (ks.map λp=>V.ref p.1) us->us=ks.map λp=>Value.ref p.1
 |[],_,.nil=>rfl
 |p::ks,_,.cons r t=>by
  cases r;rw[Xc t];rfl
theorem Yn{L:List Ent}:∀(out:List Value) (M:List Rw),PySem.W.EachIs (λv (r:Rw)=>∃p∈L,v=Value.ref p.1/\r=p.2) out M->∃ys:List V,Vals ys out/\fY (λv (r:Rw)=>∃p∈L,v=V.ref p.1/\r=p.2) ys M
 |[],[],.nil=>⟨[],.nil,fY.nil⟩
 |_::out,_::M,.cons ⟨p,hp,e1,e2⟩ k=>by
  obtain⟨ys,h1,h2⟩:=Yn out M k;subst e1 e2;refine⟨.ref p.1::ys,.cons rfl h1,by rw[atQ,atQ,h2.1],λj u y g1 g2=>?_⟩;cases j with
  |zero=>
   cases g1;cases g2;exact⟨p,hp,rfl,rfl⟩
  |succ j=>exact h2.2 j u y g1 g2
end
def gF(da dc:Addr):List (Str×V):=putF ("circles" : Str) (.ref dc) (putF ("allowances" : Str) (.ref da) [])
structure agT(C:Addr)(H:Hp)(p da dc:Addr)(al:List Int)(ci:List (List Int)):Prop where
 ob:∃dx,H p=some (.ins C dx (gF da dc))
 la:H da=some (.lst (al.map V.int))
 lc:∃us,H dc=some (.lst us)/\fY (Ld H) us ci
 ne:da≠dc
theorem agT.mono{C:Addr}{H H':Hp}(e:Ex H H'){p da dc:Addr}{al:List Int}{ci:List (List Int)}(g:agT C H p da dc al ci):agT C H' p da dc al ci:=by obtain⟨⟨dx,ob⟩,la,⟨us,h1,h2⟩,ne⟩:=g;exact⟨⟨dx,e _ _ ob⟩,e _ _ la,⟨us,e _ _ h1,h2.imp λ_ _ r=>r.mono e⟩,ne⟩
end Ear
namespace Rf
open PySem PySem.Spec PyProof.Rows L2 Evl
abbrev obj(h:Nat):Dat:=PyData.dict [(PyData.none,PyData.int (Int.ofNat h))]
inductive jN where
 |dat (d:Dat)|lst (n:Nat) (xs:List Dat)|dic (n:Bool) (kvs:List (Dat×Dat))
structure aX where
 f:Str->Option Addr
 fl:Str->List Str
 w:World
instance:CoeFun aX λ_=>Str->Option Addr:=⟨aX.f⟩
structure Inst where
 cls:Str
 fs:List (Str×jN)
abbrev Mo:=List Inst
inductive Cell where
 |dat (d:Dat)|mut (xs:List Dat)
abbrev Env:=List (Option Cell)
structure eX where
 cls:Str
 fs:List (Str×Dat)
inductive Out(α:Type) where
 |ok (a:α)|exc (x:eX)|bad
inductive bG(α:Type) where
 |ok (a:α) (M:Mo)|exc (x:eX) (M:Mo)|bad
inductive vh where
 |next (Z:Env) (M:Mo)|ret (d:Dat) (M:Mo)|brk (Z:Env) (M:Mo)|cont (Z:Env) (M:Mo)|exc (x:eX) (Z:Env) (M:Mo)|bad
structure Gh where
 tbl:List Addr
 ow:Addr->Option (Nat×Str)
 Lc:Addr->Prop
 Lo:Addr->Prop
def Gh.W(g:Gh)(a:Addr):Prop:=a∈g.tbl\/g.ow a≠none
def Gh.A(g:Gh)(a:Addr):Prop:=g.W a\/g.Lc a\/g.Lo a
def KQ:HO->Prop
 |.tup _=>False
 |.frz _ _=>False
 |_=>True
def aoY(K:atw)(a:Addr)(xs:List V):Prop:=∃(o:Obj) (its:Array Value) (n:Nat),K.lookup a=some o/\o.cls=.type "list"/\o.dict=none/\o.data=.seq its n/\its.size<=sizeLine/\Vals xs its.toList
def S7(K:atw)(g:Gh)(H:Hp)(a:Addr)(xs:List V):Prop:=(Rd H a (.lst xs)/\¬g.A a)\/aoY K a xs
theorem S7.sq{K:atw}{g:Gh}{H:Hp}{a:Addr}{xs:List V}(h:S7 K g H a xs):SqL K H a xs:=h.elim (λz=>.inl z.1) .inr
mutual
inductive Rep(K:atw)(g:Gh)(H:Hp):V->Dat->Prop
 |non:Rep K g H .non .none
 |bl (b:Bool):Rep K g H (.bl b) (.bool b)
 |int (i:Int):Rep K g H (.int i) (.int i)
 |str (x:Str):Rep K g H (.str x) (.str x)
 |tup {a:Addr} {xs:List V} {ds:List Dat}:SqT K H a xs->aQ K g H xs ds->Rep K g H (.ref a) (.tuple ds)
 |lst {a:Addr} {xs:List V} {ds:List Dat}:S7 K g H a xs->aQ K g H xs ds->Rep K g H (.ref a) (.list ds)
 |obj {a:Addr} {h:Nat}:g.tbl[h]?=some a->Rep K g H (.ref a) (obj h)
inductive aQ(K:atw)(g:Gh)(H:Hp):List V->List Dat->Prop
 |nil:aQ K g H [] []
 |cons {v:V} {vs:List V} {d:Dat} {ds:List Dat}:Rep K g H v d->aQ K g H vs ds->aQ K g H (v::vs) (d::ds)
end
structure Kd(g:Gh)(H:Hp):Prop where
 ob:∀a,g.A a->∃o,H a=some o/\KQ o
 lo:∀a,g.Lo a->¬g.W a
 lc:∀a,g.Lc a->¬g.W a/\¬g.Lo a
structure Gr(q:Bool)(g g':Gh)(H H':Hp):Prop where
 keep:∀a o,H a=some o->¬g.W a->¬g.Lo a->H' a=some o
 keepW:q=true->∀a o,H a=some o->g.W a->H' a=some o
 dom:∀a,H' a=none->H a=none
 tbl:∃more,g'.tbl=g.tbl++more
 W:∀a,g.W a->g'.W a
 nW:∀a,g'.W a->g.W a\/H a=none
 qg:q=true->g'.tbl=g.tbl/\g'.ow=g.ow
 Lc:g'.Lc=g.Lc
 Lo:∀a,g.Lo a->g'.Lo a
 nLo:∀a,g'.Lo a->g.Lo a\/H a=none
section
variable{K:atw}{q:Bool}{g g' g2:Gh}{H H' H2:Hp}{v:V}{d:Dat}
theorem Gr.refl:Gr q g g H H:=⟨λ_ _ h _ _=>h,λ_ _ _ h _=>h,λ_ h=>h,⟨[],by simp⟩,λ_ h=>h,λ_ h=>.inl h,λ_=>⟨rfl,rfl⟩,rfl,λ_ h=>h,λ_ h=>.inl h⟩
theorem FT(e:Ex H H'):∀a,H' a=none->H a=none:=λa h=>by
 cases h1:H a with
 |none=>rfl
 |some o=>
  rw[e a o h1]at h;cases h
theorem Gr.ex(e:Ex H H'):Gr q g g H H':=⟨λa o h _ _=>e a o h,λ_ a o h _=>e a o h,FT e,⟨[],by simp⟩,λ_ h=>h,λ_ h=>.inl h,λ_=>⟨rfl,rfl⟩,rfl,λ_ h=>h,λ_ h=>.inl h⟩
theorem Gr.trans(a:Gr q g g' H H')(b:Gr q g' g2 H' H2):Gr q g g2 H H2 where
 keep:=λx o h nw nl=>by
  have h1:=a.keep x o h nw nl;refine b.keep x o h1 (λz=>?_) (λz=>?_)
  .rcases a.nW x z with z|z
   .exact nw z
   .rw[h]at z;cases z
  .rcases a.nLo x z with z|z
   .exact nl z
   .rw[h]at z;cases z
 keepW:=λhq x o h w=>b.keepW hq x o (a.keepW hq x o h w) (a.W x w)
 dom:=λx h=>a.dom x (b.dom x h)
 tbl:=by obtain⟨m1,e1⟩:=a.tbl;obtain⟨m2,e2⟩:=b.tbl;exact⟨m1++m2,by rw[e2,e1,List.append_assoc]⟩
 W:=λx h=>b.W x (a.W x h)
 nW:=λx h=>by
  rcases b.nW x h with z|z
  .exact a.nW x z
  .exact .inr (a.dom x z)
 qg:=λhq=>by
  obtain⟨e1,e2⟩:=a.qg hq;obtain⟨f1,f2⟩:=b.qg hq;exact⟨f1.trans e1,f2.trans e2⟩
 Lc:=b.Lc.trans a.Lc
 Lo:=λx h=>b.Lo x (a.Lo x h)
 nLo:=λx h=>by
  rcases b.nLo x h with z|z
  .exact a.nLo x z
  .exact .inr (a.dom x z)
theorem Gr.loud(a:Gr q g g' H H'):Gr false g g' H H':=⟨a.keep,(λh=>nomatch h),a.dom,a.tbl,a.W,a.nW,(λh=>nomatch h),a.Lc,a.Lo,a.nLo⟩
theorem Gr.nA(r:Gr q g g' H H'){a:Addr}{o:HO}(h:H a=some o)(n:¬g.A a):¬g'.A a:=λz=>by
 rcases z with z|z|z
 .rcases r.nW a z with z|z
  .exact n (.inl z)
  .rw[h]at z;cases z
 .rw[r.Lc]at z;exact n (.inr (.inl z))
 .rcases r.nLo a z with z|z
  .exact n (.inr (.inr z))
  .rw[h]at z;cases z
theorem Gr.rd(r:Gr q g g' H H'){a:Addr}{o:HO}(h:Rd H a o)(n:¬g.A a):Rd H' a o/\¬g'.A a:=by
 rcases h with h|⟨z,h⟩
 .exact⟨.inl (r.keep a _ h (λw=>n (.inl w)) λw=>n (.inr (.inr w))),r.nA h n⟩
 .exact⟨.inr ⟨z,r.keep a _ h (λw=>n (.inl w)) λw=>n (.inr (.inr w))⟩,r.nA h n⟩
theorem Kd.tup(k:Kd g H){a:Addr}{xs:List V}(h:Rd H a (.tup xs)):¬g.A a:=λz=>by
 obtain⟨o,e,m⟩:=k.ob a z;rcases h with h|⟨y,h⟩<;>(rw[h]at e;cases e;exact m)
theorem Gr.sqT(r:Gr q g g' H H')(k:Kd g H){a:Addr}{xs:List V}(h:SqT K H a xs):SqT K H' a xs:=by
 rcases h with h|h
 .exact .inl (r.rd h (k.tup h)).1
 .exact .inr h
theorem Gr.ls(r:Gr q g g' H H'){a:Addr}{xs:List V}(h:S7 K g H a xs):S7 K g' H' a xs:=by
 rcases h with⟨h,n⟩|h
 .exact .inl (r.rd h n)
 .exact .inr h
theorem Gr.tb(r:Gr q g g' H H'){h:Nat}{a:Addr}(e:g.tbl[h]?=some a):g'.tbl[h]?=some a:=by obtain⟨m,em⟩:=r.tbl;rw[em,atN (aty.mp e).1];exact e
mutual
theorem Rep.gr(r:Gr q g g' H H')(k:Kd g H):∀{v:V} {d:Dat},Rep K g H v d->Rep K g' H' v d
 |_,_,.non=>.non
 |_,_,.bl b=>.bl b
 |_,_,.int i=>.int i
 |_,_,.str x=>.str x
 |_,_,.tup h t=>.tup (r.sqT k h) (aQ.gr r k t)
 |_,_,.lst h t=>.lst (r.ls h) (aQ.gr r k t)
 |_,_,.obj h=>.obj (r.tb h)
theorem aQ.gr(r:Gr q g g' H H')(k:Kd g H):∀{vs:List V} {ds:List Dat},aQ K g H vs ds->aQ K g' H' vs ds
 |_,_,.nil=>.nil
 |_,_,.cons h t=>.cons (Rep.gr r k h) (aQ.gr r k t)
end
mutual
theorem Rep.less(e:g'.tbl=g.tbl)(n:∀a,g'.A a->g.A a):∀{v:V} {d:Dat},Rep K g H v d->Rep K g' H v d
 |_,_,.non=>.non
 |_,_,.bl b=>.bl b
 |_,_,.int i=>.int i
 |_,_,.str x=>.str x
 |_,_,.tup h t=>.tup h (aQ.less e n t)
 |_,_,.lst h t=>.lst (h.elim (λz=>.inl ⟨z.1,λy=>z.2 (n _ y)⟩) .inr) (aQ.less e n t)
 |_,_,.obj h=>.obj (by rw[e];exact h)
theorem aQ.less(e:g'.tbl=g.tbl)(n:∀a,g'.A a->g.A a):∀{vs:List V} {ds:List Dat},aQ K g H vs ds->aQ K g' H vs ds
 |_,_,.nil=>.nil
 |_,_,.cons h t=>.cons (Rep.less e n h) (aQ.less e n t)
end
mutual
def lf:Dat->Bool
 |.list _=>false
 |.tuple ds=>lfs ds
 |.dict _=>true
 |.none=>true
 |.bool _=>true
 |.int _=>true
 |.str _=>true
def lfs:List Dat->Bool
 |[]=>true
 |d::ds=>lf d&&lfs ds
end
mutual
theorem Rep.free(e:g'.tbl=g.tbl):∀{v:V} {d:Dat},lf d=true->Rep K g H v d->Rep K g' H v d
 |_,_,_,.non=>.non
 |_,_,_,.bl b=>.bl b
 |_,_,_,.int i=>.int i
 |_,_,_,.str x=>.str x
 |_,_,f,.tup h t=>.tup h (aQ.free e (by rw[lf]at f;exact f) t)
 |_,_,f,.lst h t=>by rw[lf]at f;cases f
 |_,_,_,.obj h=>.obj (by rw[e];exact h)
theorem aQ.free(e:g'.tbl=g.tbl):∀{vs:List V} {ds:List Dat},lfs ds=true->aQ K g H vs ds->aQ K g' H vs ds
 |_,_,_,.nil=>.nil
 |_,_,f,.cons h t=>.cons (Rep.free e (by rw[lfs,atx]at f;exact f.1) h) (aQ.free e (by rw[lfs,atx]at f;exact f.2) t)
end
theorem aQ.length:∀{vs:List V} {ds:List Dat},aQ K g H vs ds->vs.length=ds.length
 |_,_,.nil=>rfl
 |_,_,.cons _ t=>congrArg (· + 1) t.length
theorem aQ.get:∀{vs:List V} {ds:List Dat} {i:Nat} {d:Dat},aQ K g H vs ds->ds[i]?=some d->∃v,vs[i]?=some v/\Rep K g H v d
 |_,_,_,_,.nil,e=>by simp at e
 |_,_,0,_,.cons h _,e=>by simp at e;subst e;exact⟨_,rfl,h⟩
 |_,_,i+1,_,.cons _ t,e=>by simpa using t.get (i:=i) (by simpa using e)
theorem aQ.get':∀{vs:List V} {ds:List Dat} {i:Nat} {v:V},aQ K g H vs ds->vs[i]?=some v->∃d,ds[i]?=some d/\Rep K g H v d
 |_,_,_,_,.nil,e=>by simp at e
 |_,_,0,_,.cons h _,e=>by simp at e;subst e;exact⟨_,rfl,h⟩
 |_,_,i+1,_,.cons _ t,e=>by simpa using t.get' (i:=i) (by simpa using e)
theorem aQ.append:∀{vs ws:List V} {ds es:List Dat},aQ K g H vs ds->aQ K g H ws es->aQ K g H (vs++ws) (ds++es)
 |_,_,_,_,.nil,t=>t
 |_,_,_,_,.cons h r,t=>.cons h (r.append t)
theorem aQ.take:∀{vs:List V} {ds:List Dat} (n:Nat),aQ K g H vs ds->aQ K g H (vs.take n) (ds.take n)
 |_,_,0,_=>.nil
 |_,_,_+1,.nil=>.nil
 |_,_,n+1,.cons h t=>.cons h (t.take n)
theorem aQ.drop:∀{vs:List V} {ds:List Dat} (n:Nat),aQ K g H vs ds->aQ K g H (vs.drop n) (ds.drop n)
 |_,_,0,t=>t
 |_,_,_+1,.nil=>.nil
 |_,_,n+1,.cons _ t=>t.drop n
theorem aQ.set{v:V}{d:Dat}(r:Rep K g H v d):∀{vs:List V} {ds:List Dat} (i:Nat),aQ K g H vs ds->aQ K g H (vs.set i v) (ds.set i d)
 |_,_,_,.nil=>.nil
 |_,_,0,.cons _ t=>.cons r t
 |_,_,i+1,.cons h t=>.cons h (t.set r i)
theorem Gr.upd{l:Addr}{o o':HO}(k:Kd g H)(h:H l=some o)(w:(g.W l/\q=false)\/g.Lo l):Gr q g g H (L2.upd H l o') where
 keep:=λa u e nw nl=>by
  rw[upd_ne (λz=>by subst z;exact w.elim (λw=>nw w.1) nl)];exact e
 keepW:=λhq a u e wa=>by
  rcases w with w|w
  .rw[hq]at w;cases w.2
  .rw[upd_ne (λz=>by subst z;exact k.lo _ w wa)];exact e
 dom:=λa e=>by
  by_cases z:a=l
  .subst z;rw[au7]at e;cases e
  .rw[upd_ne z]at e;exact e
 tbl:=⟨[],by simp⟩
 W:=λ_ h=>h
 nW:=λ_ h=>.inl h
 qg:=λ_=>⟨rfl,rfl⟩
 Lc:=rfl
 Lo:=λ_ h=>h
 nLo:=λ_ h=>.inl h
theorem Kd.ex(k:Kd g H)(e:Ex H H'):Kd g H':=⟨λa z=>let ⟨o,h,m⟩:=k.ob a z;⟨o,e a o h,m⟩,k.lo,k.lc⟩
theorem Kd.upd(k:Kd g H){l:Addr}{o:HO}(m:KQ o):Kd g (L2.upd H l o):=⟨λa z=>by
 by_cases e:a=l
 .subst e;exact⟨o,au7,m⟩
 .rw[upd_ne e];exact k.ob a z,k.lo,k.lc⟩
theorem Rep.ex(e:Ex H H')(k:Kd g H)(h:Rep K g H v d):Rep K g H' v d:=h.gr (Gr.ex (q:=true) e) k
theorem aQ.ex{vs:List V}{ds:List Dat}(e:Ex H H')(k:Kd g H)(h:aQ K g H vs ds):aQ K g H' vs ds:=h.gr (Gr.ex (q:=true) e) k
end
def keyD:Key->Dat
 |.inl i=>.int i
 |.inr x=>.str x
def jr(l:Addr)(o:Obj):HO:=.ext λh=>h.get? l=some o
abbrev pH:Type:=NestedKey×Addr×Value
def agH(w:World)(x:pH):DictEntry:=⟨x.1.hash w,.ref x.2.1,x.2.2⟩
structure m7(w:World)(l:Addr)(o:Obj)(xs:List pH):Prop where
 sys:(l==sysModules)=false
 ex:o.ExactDict
 ent:∃es ep,o.data=.dict es ep/\es.toList=xs.map (agH w)
 nd:(xs.map (·.1)).Nodup
 len:xs.length<=sizeLine
 dep:∀x∈xs,x.1.depth<=8
def j7(K:atw)(ak:aX)(g:Gh)(H:Hp)(l:Addr):Bool->List (Dat×Dat)->Prop
 |false,kvs=>∃kv:List (Key×V),H l=some (.dK kv)/\kvs.map (·.1)=kv.map (λp=>keyD p.1)/\aQ K g H (kv.map (·.2)) (kvs.map (·.2))
 |true,kvs=>∃(o:Obj) (xs:List pH) (vs:List V),H l=some (jr l o)/\m7 ak.w l o xs/\kvs.map (·.1)=xs.map (λx=>x.1.data)/\aQ K g H (xs.map λx=>V.ref x.2.1) (kvs.map (·.1))/\Vals vs (xs.map (·.2.2))/\aQ K g H vs (kvs.map (·.2))
def eU(K:atw)(ak:aX)(g:Gh)(H:Hp)(h:Nat)(f:Str)(v:V):jN->Prop
 |.dat d=>Rep K g H v d
 |.lst n xs=>∃l us,v=.ref l/\H l=some (.lst us)/\g.ow l=some (h,f)/\aQ K g H us xs/\g.tbl[n]?=some l
 |.dic n kvs=>∃l,v=.ref l/\g.ow l=some (h,f)/\j7 K ak g H l n kvs
inductive cU(K:atw)(ak:aX)(g:Gh)(H:Hp)(h:Nat):List (Str×V)->List (Str×jN)->Prop
 |nil:cU K ak g H h [] []
 |cons {f:Str} {v:V} {fl:jN} {fs:List (Str×V)} {gs:List (Str×jN)}:eU K ak g H h f v fl->cU K ak g H h fs gs->cU K ak g H h ((f,v)::fs) ((f,fl)::gs)
structure gW(K:atw)(ak:aX)(g:Gh)(H:Hp)(M:Mo):Prop where
 len:g.tbl.length=M.length
 inj:∀(h k:Nat) (a:Addr),g.tbl[h]?=some a->g.tbl[k]?=some a->h=k
 ins:∀(h:Nat) (a:Addr) (i:Inst),g.tbl[h]?=some a->M[h]?=some i->i.cls≠""->∃C dx fs,ak i.cls=some C/\H a=some (.ins C dx fs)/\cU K ak g H h fs i.fs
 nd:∀(h:Nat) (i:Inst),M[h]?=some i->(i.fs.map (·.1)).Nodup
 fd:∀(h:Nat) (i:Inst),M[h]?=some i->∀f∈i.fs.map (·.1),f∈ak.fl i.cls
 tw:∀(h:Nat) (a:Addr) (i:Inst),g.tbl[h]?=some a->M[h]?=some i->i.cls≠""->g.ow a=none
 dm:∀(h:Nat) (i:Inst),M[h]?=some i->i.cls=""->i.fs=[]
 nc:ak ""=none
structure SInv(K:atw)(ak:aX)(σ:L2.St)(H:Hp)(g:Gh)(Z:Env)(M:Mo):Prop where
 kd:Kd g H
 wok:gW K ak g H M
 len:σ.length=Z.length
 dat:∀(i:Nat) (d:Dat),Z[i]?=some (some (.dat d))->∃v,σ[i]?=some (some v)/\Rep K g H v d
 own:∀(i:Nat) (xs:List Dat),Z[i]?=some (some (.mut xs))->∃l us,σ[i]?=some (some (.ref l))/\H l=some (.lst us)/\g.Lo l/\aQ K g H us xs
 sep:∀(i j:Nat) (xs ys:List Dat) (l:Addr),i≠j->Z[i]?=some (some (.mut xs))->Z[j]?=some (some (.mut ys))->σ[i]?=some (some (.ref l))->σ[j]?≠some (some (.ref l))
section
variable{K:atw}{ak:aX}{q:Bool}{g g' g2:Gh}{H H' H2:Hp}{v:V}{d:Dat}{σ:L2.St}{Z:Env}{M:Mo}
theorem j7.ex{l:Addr}:∀{n:Bool} {kvs:List (Dat×Dat)} (e:Ex H H') (k:Kd g H) (h:j7 K ak g H l n kvs),j7 K ak g H' l n kvs
 |false,_,e,k,⟨kv,h1,h2,h3⟩=>⟨kv,e _ _ h1,h2,h3.ex e k⟩
 |true,_,e,k,⟨o,xs,vs,h1,h2,h3,h4,h5,h6⟩=>⟨o,xs,vs,e _ _ h1,h2,h3,h4.ex e k,h5,h6.ex e k⟩
theorem eU.ex{h:Nat}{f:Str}(e:Ex H H')(k:Kd g H):∀{fl:jN},eU K ak g H h f v fl->eU K ak g H' h f v fl
 |.dat _,r=>Rep.ex e k r
 |.lst _ _,⟨l,us,h1,h2,h3,h4,h5⟩=>⟨l,us,h1,e _ _ h2,h3,h4.ex e k,h5⟩
 |.dic _ _,⟨l,h1,h2,h3⟩=>⟨l,h1,h2,h3.ex e k⟩
theorem cU.ex{h:Nat}(e:Ex H H')(k:Kd g H):∀{fs:List (Str×V)} {gs:List (Str×jN)},cU K ak g H h fs gs->cU K ak g H' h fs gs
 |_,_,.nil=>.nil
 |_,_,.cons r t=>.cons (eU.ex e k r) (cU.ex e k t)
theorem gW.ex(e:Ex H H')(k:Kd g H)(w:gW K ak g H M):gW K ak g H' M:=⟨w.len,w.inj,λh a i ha hi hc=>by
 obtain⟨C,dx,fs,c1,c2,c3⟩:=w.ins h a i ha hi hc;exact⟨C,dx,fs,c1,e _ _ c2,c3.ex e k⟩,w.nd,w.fd,w.tw,w.dm,w.nc⟩
theorem SInv.ex(e:Ex H H')(I:SInv K ak σ H g Z M):SInv K ak σ H' g Z M:=⟨I.kd.ex e,I.wok.ex e I.kd,I.len,λi d h=>by
 obtain⟨v,h1,h2⟩:=I.dat i d h;exact⟨v,h1,h2.ex e I.kd⟩,λi xs h=>by
 obtain⟨l,us,h1,h2,h3,h4⟩:=I.own i xs h;exact⟨l,us,h1,e _ _ h2,h3,h4.ex e I.kd⟩,I.sep⟩
theorem cU.get{h:Nat}{f:Str}{fl:jN}:∀{fs:List (Str×V)} {gs:List (Str×jN)},cU K ak g H h fs gs->gs.lookup f=some fl->∃v,fs.lookup f=some v/\eU K ak g H h f v fl
 |_,_,.nil,e=>nomatch e
 |_,_,.cons (f:=f') (v:=v) (fl:=fl') r t,e=>by
  rw[aub]at e;rw[aub];cases hb:f==f' with
  |true=>
   rw[hb]at e;cases e;have ef:f=f':=by simpa using hb
   subst ef;exact⟨v,rfl,r⟩
  |false=>
   rw[hb]at e;exact t.get e
theorem cU.no{h:Nat}{f:Str}:∀{fs:List (Str×V)} {gs:List (Str×jN)},cU K ak g H h fs gs->gs.lookup f=none->fs.lookup f=none
 |_,_,.nil,_=>rfl
 |_,_,.cons (f:=f') (v:=v) (fl:=fl') r t,e=>by
  rw[aub]at e;rw[aub];cases hb:f==f' with
  |true=>
   rw[hb]at e;cases e
  |false=>
   rw[hb]at e;exact t.no e
end
def Out.bind{α β:Type}(o:Out α)(k:α->Out β):Out β:=
 match o with
 |.ok a=>k a
 |.exc x=>.exc x
 |.bad=>.bad
def Out.sat{α:Type}(o:Out α)(P:α->Prop)(E:eX->Prop):Prop:=
 match o with
 |.ok a=>P a
 |.exc x=>E x
 |.bad=>False
@[simp]theorem Out.Av {α β:Type} (a:α) (k:α->Out β):(Out.ok a).bind k=k a:=rfl
@[simp]theorem Out.ag1 {α β:Type} (x:eX) (k:α->Out β):(Out.exc x:Out α).bind k=.exc x:=rfl
@[simp]theorem Out.aho {α β:Type} (k:α->Out β):(Out.bad:Out α).bind k=.bad:=rfl
theorem Out.sat.bnd{α β:Type}{o:Out α}{k:α->Out β}{P:β->Prop}{E:eX->Prop}(h:(o.bind k).sat P E):o.sat (λa=>(k a).sat P E) E:=by cases o<;>exact h
theorem Out.sat.mono{α:Type}{o:Out α}{P P':α->Prop}{E E':eX->Prop}(h:o.sat P E)(hp:∀a,P a->P' a)(he:∀x,E x->E' x):o.sat P' E':=by
 cases o
 .exact hp _ h
 .exact he _ h
 .exact h
def Out.when{α:Type}(b:Bool)(o:Out α):Out α:=if b=true then o else .bad
@[simp]theorem Out.X4 {α:Type} (o:Out α):Out.when true o=o:=rfl
@[simp]theorem Out.anH {α:Type} (o:Out α):Out.when false o=.bad:=rfl
theorem Out.sat.rC{α:Type}{b:Bool}{o:Out α}{P:α->Prop}{E:eX->Prop}(h:(Out.when b o).sat P E):b=true/\o.sat P E:=by
 cases b
 .exact au0 h
 .exact⟨rfl,h⟩
inductive mX(K:atw)(g:Gh)(H:Hp):List (Str×V)->List (Str×Dat)->Prop
 |nil:mX K g H [] []
 |cons {f:Str} {v:V} {d:Dat} {fs:List (Str×V)} {gs:List (Str×Dat)}:Rep K g H v d->mX K g H fs gs->mX K g H ((f,v)::fs) ((f,d)::gs)
def tR(K:atw)(ak:aX)(g:Gh)(H:Hp)(x:eX)(c:Value)(dd:Option Addr):Prop:=
 ∃C,ak x.cls=some C/\c=.ref C/\((x.fs=[]/\dd=none)\/∃a fs,dd=some a/\H a=some (.xd fs)/\mX K g H fs x.fs)
abbrev QF:=Mo->Env->Out Dat
abbrev QT:=Mo->Env->Out Bool
abbrev QA:=Mo->Env->Out (List Dat)
section
variable(K:atw)(ak:aX)(W:WX)
def sU(g:Gh)(H:Hp)(σ:L2.St)(x:eX):Prop:=∀H' c dd,Ex H H'->tR K ak g H' x c dd->W c dd σ H'
def tQ(f:QF):TE:=λσ H Q=>∃g Z M,SInv K ak σ H g Z M/\(f M Z).sat (λd=>∀v H',Ex H H'->Rep K g H' v d->Q v H') (sU K ak W g H σ)
def jV(f:QT):TT:=λσ H Q=>∃g Z M,SInv K ak σ H g Z M/\(f M Z).sat (λb=>∀H',Ex H H'->Q b H') (sU K ak W g H σ)
def QX(f:QA):TA:=λσ H Q=>∃g Z M,SInv K ak σ H g Z M/\(f M Z).sat (λds=>∀vs H',Ex H H'->aQ K g H' vs ds->Q vs H') (sU K ak W g H σ)
end
section
variable{K:atw}{ak:aX}{W:WX}{g:Gh}{H H1:Hp}{σ:L2.St}{Z:Env}{M:Mo}
theorem sU.ex{x:eX}(e:Ex H H1)(h:sU K ak W g H σ x):sU K ak W g H1 σ x:=λH' c dd e' r=>h H' c dd (e.trans e') r
theorem tQ.go{f:QF}{k:Dat->Prop}{Q:VK}(I:SInv K ak σ H g Z M)(h:(f M Z).sat k (sU K ak W g H σ))(hk:∀d v H',k d->Ex H H'->Rep K g H' v d->Q v H'):tQ K ak W f σ H Q:=
 ⟨g,Z,M,I,h.mono (λd hd v H' e r=>hk d v H' hd e r) λ_ z=>z⟩
theorem jV.go{f:QT}{k:Bool->Prop}{Q:Bool->Hp->Prop}(I:SInv K ak σ H g Z M)(h:(f M Z).sat k (sU K ak W g H σ))(hk:∀b H',k b->Ex H H'->Q b H'):jV K ak W f σ H Q:=
 ⟨g,Z,M,I,h.mono (λd hd H' e=>hk d H' hd e) λ_ z=>z⟩
theorem QX.go{f:QA}{k:List Dat->Prop}{Q:List V->Hp->Prop}(I:SInv K ak σ H g Z M)(h:(f M Z).sat k (sU K ak W g H σ))(hk:∀ds vs H',k ds->Ex H H'->aQ K g H' vs ds->Q vs H'):QX K ak W f σ H Q:=
 ⟨g,Z,M,I,h.mono (λd hd v H' e r=>hk d v H' hd e r) λ_ z=>z⟩
end
def QE(ak:aX)(X:Cx)(W:WX)(e:Expr)(f:QF):Prop:=PE X e (tQ X.K ak W f)
def u6(ak:aX)(X:Cx)(W:WX)(e:Expr)(f:QT):Prop:=PT X e (jV X.K ak W f)
def Gu(ak:aX)(X:Cx)(W:WX)(es:List Expr)(f:QA):Prop:=PA X es (QX X.K ak W f)
theorem PE.weak{X:Cx}{e:Expr}{t t':TE}(h:PE X e t)(k:∀σ H Q,t' σ H Q->t σ H Q):PE X e t':=⟨λpins s σ H Q I q=>h.run pins s σ H Q I (k σ H Q q)⟩
theorem PT.weak{X:Cx}{e:Expr}{t t':TT}(h:PT X e t)(k:∀σ H Q,t' σ H Q->t σ H Q):PT X e t':=⟨λpins s σ H Q I q=>h.run pins s σ H Q I (k σ H Q q)⟩
theorem PA.weak{X:Cx}{e:List Expr}{t t':TA}(h:PA X e t)(k:∀σ H Q,t' σ H Q->t σ H Q):PA X e t':=⟨λpos pins s σ H Q I q=>h.run pos pins s σ H Q I (k σ H Q q)⟩
def aq(i:Nat):QF:=λ_ Z=>match Z[i]? with
 |some (some (.dat d))=>.ok d
 |_=>.bad
def qC(d:Dat):QF:=λ_ _=>.ok d
def aA(o:Dat->Dat->Out Dat)(a b:QF):QF:=λM Z=>(a M Z).bind λx=>(b M Z).bind λy=>o x y
def eE(o:Dat->Out Dat)(a:QF):QF:=λM Z=>(a M Z).bind o
def au:QA:=λ_ _=>.ok []
def aj(a:QF)(r:QA):QA:=λM Z=>(a M Z).bind λx=>(r M Z).bind λxs=>.ok (x::xs)
def bD(r:QA):QF:=λM Z=>(r M Z).bind λxs=>Out.when (decide (xs.length<=100000)) (.ok (.tuple xs))
def xg(r:QA):QF:=λM Z=>(r M Z).bind λxs=>Out.when (decide (xs.length<=100000)) (.ok (.list xs))
section
variable{X:Cx}{ak:aX}{W:WX}{a b:Expr}{fa fb:QF}{pos:Pos}
theorem alo{i:Nat}{x:Str}(hN:X.N[i]?=some x)(hv:Vis X.env.scope x)(hd:(x==("__debug__" : Str))=false)(hcd:(x==("__classdict__" : Str))=false):QE ak X W (.Name x pos) (aq i):=
 PE.weak (pe_var hN hv hd hcd) λσ H Q ⟨g,Z,M,I,h⟩=>by
  unfold aq at h;split at h
  .next d e=>
   obtain⟨v,h1,h2⟩:=I.dat i d e;exact⟨v,h1,h v H (Ex.refl H) h2⟩
  .exact au0 h
theorem aly{i:Int}{j:Nat}:QE ak X W (.Constant (.int i) j pos) (qC (.int i)):=PE.weak pe_int λσ H Q ⟨g,Z,M,I,h⟩=>h _ H (Ex.refl H) (.int i)
theorem alW{x:Str}{j:Nat}:QE ak X W (.Constant (.str x) j pos) (qC (.str x)):=PE.weak pe_str λσ H Q ⟨g,Z,M,I,h⟩=>h _ H (Ex.refl H) (.str x)
theorem anr{x:Bool}{j:Nat}:QE ak X W (.Constant (.bool x) j pos) (qC (.bool x)):=PE.weak pe_bl λσ H Q ⟨g,Z,M,I,h⟩=>h _ H (Ex.refl H) (.bl x)
theorem alU{j:Nat}:QE ak X W (.Constant .none j pos) (qC .none):=PE.weak pe_non λσ H Q ⟨g,Z,M,I,h⟩=>h _ H (Ex.refl H) .non
theorem alY:Gu ak X W [] au:=PA.weak pa_nil λσ H Q ⟨g,Z,M,I,h⟩=>h [] H (Ex.refl H) .nil
theorem ajH{es:List Expr}{fr:QA}(ha:QE ak X W a fa)(hr:Gu ak X W es fr)(hs:starEach (a::es) X.env=(false,eval a X.env)::starEach es X.env):Gu ak X W (a::es) (aj fa fr):=
 PA.weak (pa_cons ha hr hs) λσ H Q ⟨g,Z,M,I,h⟩=>by
  refine tQ.go I h.bnd λd v H1 h1 e1 r1=>?_;refine QX.go (I.ex e1) (h1.bnd.mono (λ_ z=>z) λ_ z=>z.ex e1) λds vs H2 h2 e2 r2=>?_;exact h2 (v::vs) H2 (e1.trans e2) (.cons (r1.ex e2 (I.kd.ex e1)) r2)
theorem amv{es:List Expr}{fr:QA}{k:Nat}(h:Gu ak X W es fr):QE ak X W (.Tuple es k pos) (bD fr):=
 PE.weak (pe_tup h) λσ H Q ⟨g,Z,M,I,h⟩=>by
  refine QX.go I h.bnd λds vs H1 h1 e1 r1=>?_;obtain⟨hz,h1⟩:=h1.rC;have hl:vs.length<=100000:=by rw[r1.length];exact au2 hz
  refine⟨sz_of hl,λp np=>h1 (.ref p) _ (e1.trans (Ex.new np)) (.tup (st_of au7) (r1.ex (Ex.new np) (I.kd.ex e1)))⟩
theorem Kd.fresh{g:Gh}{H:Hp}(k:Kd g H){p:Addr}(n:H p=none):¬g.A p:=λz=>by
 obtain⟨o,e,_⟩:=k.ob p z;rw[n]at e;cases e
theorem am1{es:List Expr}{fr:QA}(h:Gu ak X W es fr):QE ak X W (.List es pos) (xg fr):=
 PE.weak (pe_lst h) λσ H Q ⟨g,Z,M,I,h⟩=>by
  refine QX.go I h.bnd λds vs H1 h1 e1 r1=>?_;obtain⟨hz,h1⟩:=h1.rC;have hl:vs.length<=100000:=by rw[r1.length];exact au2 hz
  refine⟨sz_of hl,λp np=>h1 (.ref p) _ (e1.trans (Ex.new np)) (.lst (.inl ⟨.inl au7,(I.kd.ex e1).fresh np⟩) (r1.ex (Ex.new np) (I.kd.ex e1)))⟩
end
def eZ(K:atw)(g:Gh)(H:Hp)(v:V):Dat->Prop
 |.list ds=>∃a us,v=.ref a/\SqL K H a us/\aQ K g H us ds
 |d=>Rep K g H v d
section
variable{K:atw}{g:Gh}{H H':Hp}{v:V}{d:Dat}
theorem Rep.weak(h:Rep K g H v d):eZ K g H v d:=by
 cases h with
 |lst a t=>exact⟨_,_,rfl,a.sq,t⟩
 |non=>exact .non
 |bl b=>exact .bl b
 |int i=>exact .int i
 |str x=>exact .str x
 |tup a t=>exact .tup a t
 |obj a=>exact .obj a
theorem eZ.ex(e:Ex H H')(k:Kd g H)(h:eZ K g H v d):eZ K g H' v d:=by
 cases d with
 |list ds=>
  obtain⟨a,us,h1,h2,h3⟩:=h;exact⟨a,us,h1,ex_l e h2,h3.ex e k⟩
 |_=>exact Rep.ex e k h
theorem cM{i:Int}(h:eZ K g H v (.int i)):v=.int i:=by cases h;rfl
theorem lE{x:Str}(h:eZ K g H v (.str x)):v=.str x:=by cases h;rfl
theorem Hj{b:Bool}(h:eZ K g H v (.bool b)):v=.bl b:=by cases h;rfl
theorem JX(h:eZ K g H v .none):v=.non:=by cases h;rfl
theorem nJ{ds:List Dat}(h:eZ K g H v (.tuple ds)):∃a us,v=.ref a/\SqT K H a us/\aQ K g H us ds:=by
 cases h with
 |tup a t=>exact⟨_,_,rfl,a,t⟩
theorem jG{ds:List Dat}(h:eZ K g H v (.list ds)):∃a us,v=.ref a/\SqL K H a us/\aQ K g H us ds:=h
theorem Nh{n:Nat}(h:eZ K g H v (obj n)):∃a,v=.ref a/\g.tbl[n]?=some a:=by
 cases h with
 |obj a=>exact⟨_,rfl,a⟩
end
section
variable(K:atw)(ak:aX)(W:WX)
def tW(f:QF):TE:=λσ H Q=>∃g Z M,SInv K ak σ H g Z M/\(f M Z).sat (λd=>∀v H',Ex H H'->eZ K g H' v d->Q v H') (sU K ak W g H σ)
end
theorem tW.go{K:atw}{ak:aX}{W:WX}{g:Gh}{H:Hp}{σ:L2.St}{Z:Env}{M:Mo}{f:QF}{k:Dat->Prop}{Q:VK}(I:SInv K ak σ H g Z M)(h:(f M Z).sat k (sU K ak W g H σ))(hk:∀d v H',k d->Ex H H'->eZ K g H' v d->Q v H'):tW K ak W f σ H Q:=
 ⟨g,Z,M,I,h.mono (λd hd v H' e r=>hk d v H' hd e r) λ_ z=>z⟩
def QW(ak:aX)(X:Cx)(W:WX)(e:Expr)(f:QF):Prop:=PE X e (tW X.K ak W f)
theorem QE.w{ak:aX}{X:Cx}{W:WX}{e:Expr}{f:QF}(h:QE ak X W e f):QW ak X W e f:=
 PE.weak h λσ H Q ⟨g,Z,M,I,z⟩=>⟨g,Z,M,I,z.mono (λ_ k v H' e r=>k v H' e r.weak) λ_ y=>y⟩
def ao(i:Nat):QF:=λ_ Z=>match Z[i]? with
 |some (some (.dat d))=>.ok d
 |some (some (.mut xs))=>.ok (.list xs)
 |_=>.bad
def sV(ak:aX)(K:atw)(W:WX)(o:Dat->Dat->Out Dat)(r:R2):Prop:=∀(σ:L2.St) (g:Gh) (H:Hp) (x y:V) (d e:Dat) (Q:VK),Kd g H->eZ K g H x d->eZ K g H y e->
 (o d e).sat (λz=>∀v H',Ex H H'->Rep K g H' v z->Q v H') (sU K ak W g H σ)->r x y H Q
section
variable{X:Cx}{ak:aX}{W:WX}{a b c:Expr}{fa fb fc:QF}{pos:Pos}
theorem alS{i:Nat}{x:Str}(hN:X.N[i]?=some x)(hv:Vis X.env.scope x)(hd:(x==("__debug__" : Str))=false)(hcd:(x==("__classdict__" : Str))=false):QW ak X W (.Name x pos) (ao i):=
 PE.weak (pe_var hN hv hd hcd) λσ H Q ⟨g,Z,M,I,h⟩=>by
  unfold ao at h;split at h
  .next d e=>
   obtain⟨v,h1,h2⟩:=I.dat i d e;exact⟨v,h1,h v H (Ex.refl H) h2.weak⟩
  .next xs e=>
   obtain⟨l,us,h1,h2,h3,h4⟩:=I.own i xs e;exact⟨.ref l,h1,h _ H (Ex.refl H) ⟨l,us,rfl,sq_of h2,h4⟩⟩
  .exact au0 h
theorem UG{o:Dat->Dat->Out Dat}{r:R2}(ho:sV ak X.K W o r)(σ:L2.St)(H:Hp)(Q:VK)(h:tQ X.K ak W (aA o fa fb) σ H Q):tOp r (tW X.K ak W fa) (tW X.K ak W fb) σ H Q:=by obtain⟨g,Z,M,I,h⟩:=h;refine tW.go I h.bnd λd v H1 h1 e1 r1=>?_;refine tW.go (I.ex e1) (h1.bnd.mono (λ_ z=>z) λ_ z=>z.ex e1) λd2 v2 H2 h2 e2 r2=>?_;refine ho σ g H2 v v2 d d2 Q ((I.kd.ex e1).ex e2) (r1.ex e2 (I.kd.ex e1)) r2 (h2.mono (λz hz u H' e' r'=>hz u H' ((e1.trans e2).trans e') r') λ_ z=>(z.ex e1).ex e2)
theorem amh{op:Operator}{r:R2}{o:Dat->Dat->Out Dat}(hr:OpR X (binaryOp op) r)(ho:sV ak X.K W o r)(ha:QW ak X W a fa)(hb:QW ak X W b fb):QE ak X W (.BinOp a op b pos) (aA o fa fb):=
 PE.weak (pe_op hr ha hb) λσ H Q h=>UG ho σ H Q h
theorem aj6{op:CmpOp}{r:R2}{o:Dat->Dat->Out Dat}(hr:OpR X (compareOp op) r)(ho:sV ak X.K W o r)(ha:QW ak X W a fa)(hb:QW ak X W b fb)(hm:behindInMarks op b=false):QE ak X W (.Compare a [op] [b] pos) (aA o fa fb):=
 PE.weak (pe_cmpR hr ha hb hm) λσ H Q h=>UG ho σ H Q h
end
instance:DecidableRel CMul:=λi j=>by unfold CMul;infer_instance
instance:DecidableRel CDiv:=λi j=>by unfold CDiv;infer_instance
instance:DecidableRel CPow:=λi j=>by unfold CPow;infer_instance
def dZ:Dat->Dat->Out Dat
 |.int i,.int j=>.ok (.int (i+j))
 |.str x,.str y=>Out.when (decide (x.length+y.length<=100000)) (.ok (.str (x++y)))
 |.list xs,.list ys=>Out.when (decide (xs.length+ys.length<=100000)) (.ok (.list (xs++ys)))
 |.tuple xs,.tuple ys=>Out.when (decide (xs.length+ys.length<=100000)) (.ok (.tuple (xs++ys)))
 |_,_=>.bad
def mH:Dat->Dat->Out Dat
 |.int i,.int j=>.ok (.int (i-j))
 |_,_=>.bad
def yw:Dat->Dat->Out Dat
 |.int i,.int j=>Out.when (decide (CMul i j)) (.ok (.int (i*j)))
 |_,_=>.bad
def zW:Dat->Dat->Out Dat
 |.int i,.int j=>Out.when (decide (CDiv i j)) (.ok (.int (i/j)))
 |_,_=>.bad
def jy:Dat->Dat->Out Dat
 |.int i,.int j=>Out.when (decide (0<j)) (.ok (.int (i%j)))
 |_,_=>.bad
def Rg:Dat->Dat->Out Dat
 |.int i,.int j=>Out.when (decide (CPow i j)) (.ok (.int (i^j.toNat)))
 |_,_=>.bad
def rCatS(K:atw):R2:=λx y H Q=>∃l b xs zs,x=.ref l/\y=.ref b/\SqL K H l xs/\SqL K H b zs/\xs.length+zs.length<=sizeLine/\∀p,H p=none->Q (.ref p) (upd H p (.lst (xs++zs)))
theorem ajT{X:Cx}:OpR X (binaryOp .Add) (rCatS X.K):=by
 intro pins s σ H x y v u Q I rx ry h;obtain⟨l,b,xs,zs,rfl,rfl,hH,hB,hz,q⟩:=h;cases rx;cases ry;obtain⟨its,r,⟨⟨c1,d1,da1,s1⟩,n,e,hc,hd,hs⟩,_⟩:=I.list hH;obtain⟨its2,r2,⟨⟨c2,d2,da2,s2⟩,n2,e2,hc2,hd2,hs2⟩,_⟩:=I.list hB;simp only at hc hd hs hc2 hd2 hs2;subst hc hd hs hc2 hd2 hs2;have l1:=r.length;have l2:=r2.length;have ea:its.toArray++its2.toArray=(its++its2).toArray:=by simp
 refine concat_meets ⟨_,e,rfl⟩ ⟨_,e2,rfl⟩ noFill_list_add seq_list_add PySem.F.slot_list_add PySem.F.entry_list_add (PySem.F.args_list_add_2 _ _) (list_addW l b its.toArray its2.toArray n n2 none none s1 s2 (by rw[auR,auR];omega)) ⟨e,e2,?_⟩;rw[ea];exact⟨.ref _,_,I.lnew (t':=s.toks) (r.append r2) (by rw[auj];omega),rfl,q _ I.fresh⟩
def aiu(K:atw):R2:=λx y H Q=>rI0 (λi j=>.int (i+j)) x y H Q\/(∃i j,x=.str i/\y=.str j/\i.length+j.length<=sizeLine/\Q (.str (i++j)) H)\/rCatS K x y H Q\/rCatA K x y H Q
theorem ajD{X:Cx}:OpR X (binaryOp .Add) (aiu X.K):=by
 intro pins s σ H x y v u Q I rx ry h;rcases h with h|h|h|h
 .exact op_add pins s σ H x y v u Q I rx ry h
 .exact op_add_str pins s σ H x y v u Q I rx ry h
 .exact ajT pins s σ H x y v u Q I rx ry h
 .exact op_catA pins s σ H x y v u Q I rx ry h
section
variable{K:atw}{ak:aX}{W:WX}
theorem akG:sV ak K W dZ (aiu K):=λσ g H x y d e Q k rx ry h=>by
 unfold dZ at h;split at h
 .exact .inl ⟨_,_,cM rx,cM ry,h _ H (Ex.refl H) (.int _)⟩
 .obtain⟨hz,h⟩:=h.rC;exact .inr (.inl ⟨_,_,lE rx,lE ry,sz_of (au2 hz),h _ H (Ex.refl H) (.str _)⟩)
 .obtain⟨hz,h⟩:=h.rC;obtain⟨l,us,e1,s1,t1⟩:=jG rx;obtain⟨l2,us2,e2,s2,t2⟩:=jG ry;have hl:=au2 hz;rw[<-t1.length,<-t2.length]at hl;refine .inr (.inr (.inl ⟨l,l2,us,us2,e1,e2,s1,s2,sz_of hl,λp np=>h _ _ (Ex.new np) (.lst (.inl ⟨.inl au7,k.fresh np⟩) ((t1.append t2).ex (Ex.new np) k))⟩))
 .obtain⟨hz,h⟩:=h.rC;obtain⟨l,us,e1,s1,t1⟩:=nJ rx;obtain⟨l2,us2,e2,s2,t2⟩:=nJ ry;have hl:=au2 hz;rw[<-t1.length,<-t2.length]at hl;refine .inr (.inr (.inr ⟨l,l2,us,us2,e1,e2,s1,s2,sz_of hl,λz=>?_,λ_ z=>?_,λ_ _ p np=>h _ _ (Ex.new np) (.tup (st_of au7) ((t1.append t2).ex (Ex.new np) k))⟩))
  .subst z;cases t1;exact h _ H (Ex.refl H) (.tup s2 t2)
  .subst z;cases t2;rw[aur]at h;exact h _ H (Ex.refl H) (.tup s1 t1)
 .exact au0 h
theorem alJ:sV ak K W mH (rI0 λi j=>.int (i-j)):=λσ g H x y d e Q k rx ry h=>by
 unfold mH at h;split at h
 .exact⟨_,_,cM rx,cM ry,h _ H (Ex.refl H) (.int _)⟩
 .exact au0 h
theorem akB:sV ak K W yw (rI CMul λi j=>.int (i*j)):=λσ g H x y d e Q k rx ry h=>by
 unfold yw at h;split at h
 .obtain⟨hz,h⟩:=h.rC;exact⟨_,_,cM rx,cM ry,au2 hz,h _ H (Ex.refl H) (.int _)⟩
 .exact au0 h
theorem amJ:sV ak K W zW (rI CDiv λi j=>.int (i/j)):=λσ g H x y d e Q k rx ry h=>by
 unfold zW at h;split at h
 .obtain⟨hz,h⟩:=h.rC;exact⟨_,_,cM rx,cM ry,au2 hz,h _ H (Ex.refl H) (.int _)⟩
 .exact au0 h
theorem alP:sV ak K W jy (rI (λ_ j=>0<j) λi j=>.int (i%j)):=λσ g H x y d e Q k rx ry h=>by
 unfold jy at h;split at h
 .obtain⟨hz,h⟩:=h.rC;exact⟨_,_,cM rx,cM ry,au2 hz,h _ H (Ex.refl H) (.int _)⟩
 .exact au0 h
theorem amX:sV ak K W Rg (rI CPow λi j=>.int (i^j.toNat)):=λσ g H x y d e Q k rx ry h=>by
 unfold Rg at h;split at h
 .obtain⟨hz,h⟩:=h.rC;exact⟨_,_,cM rx,cM ry,au2 hz,h _ H (Ex.refl H) (.int _)⟩
 .exact au0 h
end
mutual
def okd:Nat->Dat->Bool
 |_,.none=>true
 |_,.bool _=>true
 |_,.int _=>true
 |_,.str x=>PyData.strOk x
 |n+1,.list ds=>lJ n ds
 |n+1,.tuple ds=>lJ n ds
 |0,.list _=>false
 |0,.tuple _=>false
 |_,.dict _=>false
def lJ:Nat->List Dat->Bool
 |_,[]=>true
 |n,d::ds=>okd n d&&lJ n ds
end
mutual
theorem Vl:∀(n:Nat) (d:Dat),okd n d=true->d.canLay0=true/\d.depth<=n
 |n,.none,_=>⟨by simp[PyData.canLay0],by simp[PyData.depth]⟩
 |n,.bool _,_=>⟨by simp[PyData.canLay0],by simp[PyData.depth]⟩
 |n,.int _,_=>⟨by simp[PyData.canLay0],by simp[PyData.depth]⟩
 |n,.str x,h=>⟨by rw[okd]at h;simp[PyData.canLay0,h],by simp[PyData.depth]⟩
 |n+1,.list ds,h=>by
  rw[okd]at h;obtain⟨h1,h2⟩:=RD n ds h;exact⟨by simp[PyData.canLay0,h1],by simp[PyData.depth];omega⟩
 |n+1,.tuple ds,h=>by
  rw[okd]at h;obtain⟨h1,h2⟩:=RD n ds h;exact⟨by simp[PyData.canLay0,h1],by simp[PyData.depth];omega⟩
 |0,.list _,h=>by rw[okd]at h;cases h
 |0,.tuple _,h=>by rw[okd]at h;cases h
 |n,.dict _,h=>by rw[okd]at h;cases h
theorem RD:∀(n:Nat) (ds:List Dat),lJ n ds=true->PyData.canLayAll0 ds=true/\PyData.depthAll ds<=n
 |n,[],_=>⟨by simp[PyData.canLayAll0],by simp[PyData.depthAll]⟩
 |n,d::ds,h=>by
  rw[lJ,atx]at h;obtain⟨h1,h2⟩:=Vl n d h.1;obtain⟨h3,h4⟩:=RD n ds h.2;exact⟨by simp[PyData.canLayAll0,h1,h3],by simp[PyData.depthAll];omega⟩
end
mutual
theorem Rep.dp{K:atw}{g:Gh}{H:Hp}:∀{n:Nat} {v:V} {d:Dat},okd n d=true->Rep K g H v d->Dp K H v d
 |_,_,_,_,.non=>.non
 |_,_,_,_,.bl b=>.bl b
 |_,_,_,_,.int i=>.int i
 |_,_,_,_,.str x=>.str x
 |n+1,_,_,f,.tup h t=>.tup h (aQ.dp (n:=n) (by rw[okd]at f;exact f) t)
 |n+1,_,_,f,.lst h t=>.lst h.sq (aQ.dp (n:=n) (by rw[okd]at f;exact f) t)
 |0,_,_,f,.tup h t=>by rw[okd]at f;cases f
 |0,_,_,f,.lst h t=>by rw[okd]at f;cases f
 |_,_,_,f,.obj h=>by rw[okd]at f;cases f
theorem aQ.dp{K:atw}{g:Gh}{H:Hp}:∀{n:Nat} {vs:List V} {ds:List Dat},lJ n ds=true->aQ K g H vs ds->DpAll K H vs ds
 |_,_,_,_,.nil=>.nil
 |n,_,_,f,.cons h t=>.cons (Rep.dp (n:=n) (by rw[lJ,atx]at f;exact f.1) h) (aQ.dp (n:=n) (by rw[lJ,atx]at f;exact f.2) t)
end
theorem eZ.dp{K:atw}{g:Gh}{H:Hp}{n:Nat}{v:V}{d:Dat}(f:okd n d=true)(h:eZ K g H v d):Dp K H v d:=by
 cases d with
 |list ds=>
  obtain⟨a,us,rfl,h2,h3⟩:=h;cases n with
  |zero=>rw[okd]at f;cases f
  |succ n=>
   rw[okd]at f;exact .lst h2 (h3.dp f)
 |_=>exact Rep.dp f h
theorem DW{n:Nat}{d:Dat}(h:okd n d=true)(hn:n<=64):SeqAt.shaped d=true:=by obtain⟨h1,h2⟩:=Vl n d h;unfold SeqAt.shaped;rw[h1,Bool.true_and];exact decide_eq_true (at3 h2 hn)
def eqB:Dat->Dat->Out Bool
 |.int i,.int j=>.ok (i==j)
 |.str x,.str y=>.ok (x==y)
 |.bool x,.bool y=>.ok (x==y)
 |.none,.none=>.ok true
 |d,e=>Out.when (okd 12 d&&okd 12 e) (.ok (PyData.eqv d e))
def bR(d e:Dat):Out Dat:=(eqB d e).bind λb=>.ok (.bool b)
def vX(d e:Dat):Out Dat:=(eqB d e).bind λb=>.ok (.bool (!b))
def ak8(K:atw):R2:=λx y H Q=>rEq x y H Q\/rEqD K x y H Q
def alV(K:atw):R2:=λx y H Q=>rNe x y H Q\/rNeD K x y H Q
theorem alz{X:Cx}(hu:X.A.units+64<cLine):OpR X (compareOp .Eq) (ak8 X.K):=λpins s σ H x y v u Q I rx ry h=>h.elim (λh=>op_eq pins s σ H x y v u Q I rx ry h) (λh=>op_eqD hu pins s σ H x y v u Q I rx ry h)
theorem alG{X:Cx}(hu:X.A.units+64<cLine):OpR X (compareOp .NotEq) (alV X.K):=λpins s σ H x y v u Q I rx ry h=>h.elim (λh=>op_ne pins s σ H x y v u Q I rx ry h) (λh=>op_neD hu pins s σ H x y v u Q I rx ry h)
section
variable{K:atw}{ak:aX}{W:WX}{g:Gh}{H:Hp}
theorem afH{x y:V}{d e:Dat}{P:Bool->Prop}{E:eX->Prop}(rx:eZ K g H x d)(ry:eZ K g H y e)(h:(eqB d e).sat P E):(scal x y=true/\P (decide (x=y)))\/(∃d e,Dp K H x d/\Dp K H y e/\SeqAt.shaped d=true/\SeqAt.shaped e=true/\P (PyData.eqv d e)):=by
 unfold eqB at h;split at h
 .cases cM rx;cases cM ry;rw[dec_int];exact .inl ⟨rfl,h⟩
 .cases lE rx;cases lE ry;rw[dec_str];exact .inl ⟨rfl,h⟩
 .cases Hj rx;cases Hj ry;rw[dec_bl];exact .inl ⟨rfl,h⟩
 .cases JX rx;cases JX ry;exact .inl ⟨rfl,h⟩
 .obtain⟨hz,h⟩:=h.rC;rw[atx]at hz;exact .inr ⟨_,_,rx.dp hz.1,ry.dp hz.2,DW hz.1 (by decide),DW hz.2 (by decide),h⟩
theorem anx:sV ak K W bR (ak8 K):=λσ g H x y d e Q k rx ry h=>by
 rcases afH rx ry h.bnd with⟨h1,h2⟩|⟨d,e,h1,h2,h3,h4,h5⟩
 .exact .inl ⟨h1,h2 _ H (Ex.refl H) (.bl _)⟩
 .exact .inr ⟨d,e,h1,h2,h3,h4,h5 _ H (Ex.refl H) (.bl _)⟩
theorem anz:sV ak K W vX (alV K):=λσ g H x y d e Q k rx ry h=>by
 rcases afH rx ry h.bnd with⟨h1,h2⟩|⟨d,e,h1,h2,h3,h4,h5⟩
 .exact .inl ⟨h1,h2 _ H (Ex.refl H) (.bl _)⟩
 .exact .inr ⟨d,e,h1,h2,h3,h4,h5 _ H (Ex.refl H) (.bl _)⟩
end
def Q7:Dat->Dat->Out Dat
 |.int i,.int j=>.ok (.bool (decide (i<j)))
 |.tuple ds,.tuple es=>Out.when (okd 12 (.tuple ds)&&okd 12 (.tuple es)&&PySem.W.alike (.tuple ds) (.tuple es)) (.ok (.bool (PySem.W.dataLt (.tuple ds) (.tuple es))))
 |_,_=>.bad
def qP:Dat->Dat->Out Dat
 |.int i,.int j=>.ok (.bool (decide (i<=j)))
 |_,_=>.bad
def Xj:Dat->Dat->Out Dat
 |.int i,.int j=>.ok (.bool (decide (j<i)))
 |_,_=>.bad
def geD:Dat->Dat->Out Dat
 |.int i,.int j=>.ok (.bool (decide (j<=i)))
 |_,_=>.bad
def al9(K:atw):R2:=λx y H Q=>rI0 (λi j=>.bl (decide (i<j))) x y H Q\/Ear.T6 K x y H Q
theorem alA{X:Cx}(hu:X.A.units+65<cLine):OpR X (compareOp .Lt) (al9 X.K):=λpins s σ H x y v u Q I rx ry h=>h.elim (λh=>op_lt pins s σ H x y v u Q I rx ry h) (λh=>Ear.ahz hu pins s σ H x y v u Q I rx ry h)
section
variable{K:atw}{ak:aX}{W:WX}{g:Gh}{H:Hp}
theorem aol:sV ak K W Q7 (al9 K):=λσ g H x y d e Q k rx ry h=>by
 unfold Q7 at h;split at h
 .exact .inl ⟨_,_,cM rx,cM ry,h _ H (Ex.refl H) (.bl _)⟩
 .obtain⟨hz,h⟩:=h.rC;simp only[atx]at hz;refine .inr ?_;unfold Ear.T6;exact⟨_,_,rx.dp hz.1.1,ry.dp hz.1.2,hz.2,(λz=>nomatch z),at3 (Vl _ _ hz.1.1).2 (by decide),h _ H (Ex.refl H) (.bl _)⟩
 .exact au0 h
theorem aor:sV ak K W qP (rI0 λi j=>.bl (decide (i<=j))):=λσ g H x y d e Q k rx ry h=>by
 unfold qP at h;split at h
 .exact⟨_,_,cM rx,cM ry,h _ H (Ex.refl H) (.bl _)⟩
 .exact au0 h
theorem anu:sV ak K W Xj (rI0 λi j=>.bl (decide (j<i))):=λσ g H x y d e Q k rx ry h=>by
 unfold Xj at h;split at h
 .exact⟨_,_,cM rx,cM ry,h _ H (Ex.refl H) (.bl _)⟩
 .exact au0 h
theorem aoo:sV ak K W geD (rI0 λi j=>.bl (decide (j<=i))):=λσ g H x y d e Q k rx ry h=>by
 unfold geD at h;split at h
 .exact⟨_,_,cM rx,cM ry,h _ H (Ex.refl H) (.bl _)⟩
 .exact au0 h
end
def jE(c:Dat):Dat->Bool
 |.none=>match c with
  |.none=>true
  |_=>false
 |.bool b=>match c with
  |.bool b'=>b==b'
  |_=>false
 |_=>false
def scD:Dat->Option V
 |.none=>some .non
 |.bool b=>some (.bl b)
 |_=>none
theorem adh{K:atw}{g:Gh}{H:Hp}{x:V}{d c:Dat}{v:V}(h:eZ K g H x d)(hc:scD c=some v):decide (x=v)=jE c d:=by
 cases c with
 |none=>
  cases hc;cases d with
  |none=>cases JX h;rfl
  |bool b=>cases Hj h;rfl
  |int b=>cases cM h;rfl
  |str b=>cases lE h;rfl
  |list b=>obtain⟨a,us,rfl,_⟩:=jG h;rfl
  |tuple b=>obtain⟨a,us,rfl,_⟩:=nJ h;rfl
  |dict b=>cases h;rfl
 |bool c=>
  cases hc;cases d with
  |none=>cases JX h;rfl
  |bool b=>cases Hj h;exact dec_bl
  |int b=>cases cM h;rfl
  |str b=>cases lE h;rfl
  |list b=>obtain⟨a,us,rfl,_⟩:=jG h;rfl
  |tuple b=>obtain⟨a,us,rfl,_⟩:=nJ h;rfl
  |dict b=>cases h;rfl
 |_=>cases hc
def ZP(neg:Bool)(v:V):R2:=λx y H Q=>y=v/\Q (.bl (neg ^^ decide (x=v))) H
theorem afM{x v:V}{u w:Value}(hv:v=.non\/∃b,v=.bl b)(rx:RelV x u)(rv:RelV v w):(u==w)=decide (x=v):=by
 rcases hv with rfl|⟨b,rfl⟩
 .cases rv;exact rx.none_iff
 .cases rv;rw[auI,beq_iff_eq,au1];constructor
  .rintro rfl;cases x with
   |bl c=>cases rx;rfl
   |non=>cases rx
   |ref _=>cases rx
   |ty _=>cases rx
   |_=>obtain⟨t,z⟩:=rx;cases z
  .rintro rfl;exact rx
theorem Yr{x v:V}{u w:Value}(hv:v=.non\/∃b,v=.bl b)(rx:RelV x u)(rv:RelV v w):plainIs u w=true:=by rcases hv with rfl | ⟨b,rfl⟩<;>(cases rv;cases x<;>first | (cases rx;rfl) | (obtain⟨t,rfl⟩:=rx;rfl))
theorem al6{X:Cx}{v:V}(hv:v=.non\/∃b,v=.bl b):OpR X (compareOp .Is) (ZP false v):=by intro pins s σ H x y u w Q I rx ry h;obtain⟨rfl,q⟩:=h;refine wpAny_is_plain (Yr hv rx ry) ?_;rw[afM hv rx ry];rw[Bool.false_xor]at q;exact⟨.bl _,H,I,rfl,q⟩
theorem af0{X:Cx}{v:V}(hv:v=.non\/∃b,v=.bl b):OpR X (compareOp .IsNot) (ZP true v):=by intro pins s σ H x y u w Q I rx ry h;obtain⟨rfl,q⟩:=h;refine wpAny_isNot_plain (Yr hv rx ry) ?_;rw[afM hv rx ry];rw[Bool.true_xor]at q;exact⟨.bl _,H,I,rfl,q⟩
def vP(neg:Bool)(c:Dat)(a:QF):QF:=λM Z=>(a M Z).bind λd=>.ok (.bool (neg ^^ jE c d))
section
variable{X:Cx}{ak:aX}{W:WX}{a b c:Expr}{fa fb fc:QF}{pos:Pos}
theorem an6{op:CmpOp}{neg:Bool}{d:Dat}{v:V}(hc:scD d=some v)(hr:OpR X (compareOp op) (ZP neg v))(ha:QW ak X W a fa)(hb:PE X b (tC v))(hm:behindInMarks op b=false):QE ak X W (.Compare a [op] [b] pos) (vP neg d fa):=
 PE.weak (pe_cmpR hr ha hb hm) λσ H Q ⟨g,Z,M,I,h⟩=>by
  refine tW.go I h.bnd λe x H1 h1 e1 r1=>?_;refine⟨rfl,?_⟩;rw[adh r1 hc];exact h1 _ H1 e1 (.bl _)
end
def Mj:Dat->Bool
 |.none=>true
 |.bool _=>true
 |.int _=>true
 |.str _=>true
 |_=>false
def inB:Dat->Dat->Out Bool
 |d,.list ds=>Out.when (okd 12 d&&lJ 12 ds) (.ok (ds.any λz=>PyData.eqv z d))
 |d,.tuple ds=>Out.when (Mj d&&ds.all Mj) (.ok (ds.any λz=>PyData.eqv z d))
 |.str x,.str z=>match x.cps.toList with
  |[c]=>.ok (decide (c∈z.cps.toList))
  |_=>.bad
 |_,_=>.bad
def inD(neg:Bool)(d e:Dat):Out Dat:=(inB d e).bind λb=>.ok (.bool (neg ^^ b))
section
variable{K:atw}{g:Gh}{H:Hp}
theorem aai{v:V}{d:Dat}(f:Mj d=true)(h:Rep K g H v d):flatV v=true:=by
 cases h with
 |tup _ _=>cases f
 |lst _ _=>cases f
 |obj _=>cases f
 |_=>rfl
theorem Xg:∀{vs:List V} {ds:List Dat},ds.all Mj=true->aQ K g H vs ds->vs.all flatV=true
 |_,_,_,.nil=>rfl
 |_,_,f,.cons h t=>by
  rw[auk,atx]at f;rw[auk,aai f.1 h,Xg f.2 t];rfl
theorem ajv{v w:V}{d e:Dat}(f1:Mj d=true)(f2:Mj e=true)(h1:Rep K g H v d)(h2:Rep K g H w e):eqV v w=PyData.eqv d e:=by
 cases h1 with
 |tup _ _=>cases f1
 |lst _ _=>cases f1
 |obj _=>cases f1
 |non=>cases h2 with
  |tup _ _=>cases f2
  |lst _ _=>cases f2
  |obj _=>cases f2
  |_=>simp[eqV,PyData.eqv]
 |bl b=>cases h2 with
  |tup _ _=>cases f2
  |lst _ _=>cases f2
  |obj _=>cases f2
  |_=>simp[eqV,PyData.eqv]
 |int b=>cases h2 with
  |tup _ _=>cases f2
  |lst _ _=>cases f2
  |obj _=>cases f2
  |_=>simp[eqV,PyData.eqv]
 |str b=>cases h2 with
  |tup _ _=>cases f2
  |lst _ _=>cases f2
  |obj _=>cases f2
  |_=>simp[eqV,PyData.eqv]
theorem acf{w:V}{e:Dat}(f2:Mj e=true)(h2:Rep K g H w e):∀{vs:List V} {ds:List Dat},ds.all Mj=true->aQ K g H vs ds->inV w vs=ds.any λz=>PyData.eqv z e
 |_,_,_,.nil=>rfl
 |v::vs,d::ds,f,.cons h t=>by
  rw[auk,atx]at f;have ih:=acf f2 h2 f.2 t;unfold inV at ih |-
  rw[auF,auF,ih,ajv f.1 f2 h h2]
theorem akl{v:V}{d:Dat}(f:Mj d=true)(h:eZ K g H v d):Rep K g H v d:=by
 cases d with
 |list _=>cases f
 |_=>exact h
end
def ZC(K:atw)(neg:Bool):R2:=λx y H Q=>(∃d ds,Dp K H x d/\Dp K H y (.list ds)/\SeqAt.shaped d=true/\SeqAt.shaped (.list ds)=true/\Q (.bl (neg ^^ (ds.any λz=>PyData.eqv z d))) H)\/
 (∃p xs,y=.ref p/\(SqL K H p xs\/SqT K H p xs)/\flatV x=true/\xs.all flatV=true/\Q (.bl (neg ^^ inV x xs)) H)\/∃(c:Nat) (z:Str),x=.str ⟨#[c]⟩/\y=.str z/\Q (.bl (neg ^^ decide (c∈z.cps.toList))) H
theorem akV{X:Cx}(hu:X.A.units+65<cLine):OpR X (compareOp .In) (ZC X.K false):=λpins s σ H x y v u Q I rx ry h=>by
 unfold ZC at h;simp only[Bool.false_xor]at h;rcases h with⟨d,ds,h⟩|⟨p,xs,h⟩|h
 .exact op_inD hu pins s σ H x y v u Q I rx ry ⟨d,ds,h⟩
 .exact op_in_seq pins s σ H x y v u Q I rx ry ⟨p,xs,h⟩
 .exact op_in_sign pins s σ H x y v u Q I rx ry h
theorem af8{X:Cx}(hu:X.A.units+65<cLine):OpR X (compareOp .NotIn) (ZC X.K true):=λpins s σ H x y v u Q I rx ry h=>by
 unfold ZC at h;simp only[Bool.true_xor]at h;rcases h with⟨d,ds,h⟩|⟨p,xs,h⟩|h
 .exact op_notInD hu pins s σ H x y v u Q I rx ry ⟨d,ds,h⟩
 .exact op_notIn_seq pins s σ H x y v u Q I rx ry ⟨p,xs,h⟩
 .exact op_notIn_sign pins s σ H x y v u Q I rx ry h
theorem ais{K:atw}{ak:aX}{W:WX}{neg:Bool}:sV ak K W (inD neg) (ZC K neg):=λσ g H x y d e Q k rx ry h=>by
 replace h:=Out.sat.bnd h
 unfold inB at h;split at h
 .next ds=>
  obtain⟨hz,h⟩:=h.rC;rw[atx]at hz;have e2:okd 13 (.list ds)=true:=by rw[okd];exact hz.2
  exact .inl ⟨_,ds,rx.dp hz.1,ry.dp e2,DW hz.1 (by decide),DW e2 (by decide),h _ H (Ex.refl H) (.bl _)⟩
 .next ds=>
  obtain⟨hz,h⟩:=h.rC;rw[atx]at hz;obtain⟨p,us,rfl,h1,h2⟩:=nJ ry;have rx':=akl hz.1 rx;refine .inr (.inl ⟨p,us,rfl,.inr h1,aai hz.1 rx',Xg hz.2 h2,?_⟩);rw[acf hz.1 rx' hz.2 h2];exact h _ H (Ex.refl H) (.bl _)
 .next xs z=>
  split at h
  .next c e=>
   refine .inr (.inr ⟨c,z,?_,lE ry,h _ H (Ex.refl H) (.bl _)⟩);rw[lE rx];congr 1;have:xs.cps=#[c]:=by apply Array.toList_inj.mp;rw[e]
   cases xs;simp only at this;rw[this]
  .exact au0 h
 .exact au0 h
def Rv:Dat->Out Dat
 |.int i=>.ok (.int (-i))
 |_=>.bad
def KN:Dat->Out Bool
 |.none=>.ok false
 |.bool b=>.ok b
 |.int i=>.ok (i != 0)
 |.str x=>Out.when (decide (x.length<=100000)) (.ok (!x.cps.toList.isEmpty))
 |.list ds=>.ok (!ds.isEmpty)
 |.tuple ds=>.ok (!ds.isEmpty)
 |_=>.bad
def fB(a:QF):QT:=λM Z=>(a M Z).bind KN
def Dr:Dat->Out Bool
 |.bool b=>.ok b
 |_=>.bad
def aW(a:QF):QT:=λM Z=>(a M Z).bind Dr
def iW(a:QT):QT:=λM Z=>(a M Z).bind λb=>.ok (!b)
def gH(a b:QT):QT:=λM Z=>(a M Z).bind λx=>if x=true then b M Z else .ok false
def Ag(a b:QT):QT:=λM Z=>(a M Z).bind λx=>if x=true then .ok true else b M Z
def Ut(a:QT):QF:=λM Z=>(a M Z).bind λb=>.ok (.bool b)
def O2(t:QT)(a b:QF):QF:=λM Z=>(t M Z).bind λx=>if x=true then a M Z else b M Z
theorem U8{K:atw}{g:Gh}{H:Hp}{us:List V}{ds:List Dat}(h:aQ K g H us ds):(!ds.isEmpty)=!us.isEmpty:=by cases h<;>rfl
section
variable{X:Cx}{ak:aX}{W:WX}{a b c:Expr}{fa fb fc:QF}{ta tb:QT}{pos:Pos}
theorem ame(ha:QW ak X W a fa):QE ak X W (.UnaryOp .USub a pos) (eE Rv fa):=
 PE.weak (pe_un un_neg ha) λσ H Q ⟨g,Z,M,I,h⟩=>by
  refine tW.go I h.bnd λd v H1 h1 e1 r1=>?_;unfold Rv at h1;split at h1
  .exact⟨_,cM r1,h1 _ H1 e1 (.int _)⟩
  .exact au0 h1
theorem akI{g:Gh}{H:Hp}{v:V}{d:Dat}{P:Bool->Prop}{E:eX->Prop}(r:eZ X.K g H v d)(h:(KN d).sat P E):∃k,TruV X.K v H k/\P k:=by
 unfold KN at h;split at h
 .cases JX r;exact⟨_,rfl,h⟩
 .cases Hj r;exact⟨_,rfl,h⟩
 .cases cM r;exact⟨_,rfl,h⟩
 .next x=>
  obtain⟨hz,h⟩:=h.rC;cases lE r;refine⟨_,⟨sz_of (au2 hz),?_⟩,h⟩;have e:x.length=x.cps.toList.length:=by rw[auh];rfl
  rw[e];cases x.cps.toList with
  |nil=>rfl
  |cons y ys=>
   refine Eq.symm (bne_iff_ne.mpr ?_);simp;omega
 .obtain⟨p,us,rfl,h1,h2⟩:=jG r;rw[U8 h2]at h;exact⟨_,.inl ⟨us,h1,rfl⟩,h⟩
 .obtain⟨p,us,rfl,h1,h2⟩:=nJ r;rw[U8 h2]at h;exact⟨_,.inr (.inl ⟨us,h1,rfl⟩),h⟩
 .exact au0 h
theorem ak6(ha:QW ak X W a fa)(he:∀whole,isTrue a X.env whole=(do let v <-whole;standAt a.pos;holding [v] (truthy v))):u6 ak X W a (fB fa):=
 PT.weak (pt_truth ha he) λσ H Q ⟨g,Z,M,I,h⟩=>by
  refine tW.go I h.bnd λd v H1 h1 e1 r1=>?_;obtain⟨k,h2,h3⟩:=akI r1 h1;exact⟨k,h2,h3 H1 e1⟩
theorem GP{g:Gh}{H:Hp}{v:V}{d:Dat}{P:Bool->Prop}{E:eX->Prop}(r:eZ X.K g H v d)(h:(Dr d).sat P E):∃k,v=.bl k/\P k:=by
 unfold Dr at h;split at h
 .cases Hj r;exact⟨_,rfl,h⟩
 .exact au0 h
theorem amS{op:CmpOp}{r:R2}{o:Dat->Dat->Out Dat}(hr:OpR X (compareOp op) r)(ho:sV ak X.K W o r)(ha:QW ak X W a fa)(hb:QW ak X W b fb)(hm:behindInMarks op b=false):u6 ak X W (.Compare a [op] [b] pos) (aW (aA o fa fb)):=
 PT.weak (pt_cmpR hr ha hb hm) λσ H Q ⟨g,Z,M,I,h⟩=>by
  refine UG ho σ H _ ⟨g,Z,M,I,h.bnd.mono (λd h1 v H' e' r'=>?_) λ_ z=>z⟩;obtain⟨k,h2,h3⟩:=GP r'.weak h1;exact⟨k,h2,h3 H' e'⟩
theorem ano{op:CmpOp}{neg:Bool}{d:Dat}{v:V}(hc:scD d=some v)(hr:OpR X (compareOp op) (ZP neg v))(ha:QW ak X W a fa)(hb:PE X b (tC v))(hm:behindInMarks op b=false):u6 ak X W (.Compare a [op] [b] pos) (aW (vP neg d fa)):=
 PT.weak (pt_cmpR hr ha hb hm) λσ H Q ⟨g,Z,M,I,h⟩=>by
  refine tW.go I h.bnd.bnd λe x H1 h1 e1 r1=>?_;refine⟨rfl,_,rfl,?_⟩;rw[adh r1 hc];exact h1 H1 e1
theorem amn(ha:u6 ak X W a ta):u6 ak X W (.UnaryOp .Not a pos) (iW ta):=
 PT.weak (pt_not ha) λσ H Q ⟨g,Z,M,I,h⟩=>jV.go I h.bnd λb H1 h1 e1=>h1 H1 e1
def QWt(ak:aX)(X:Cx)(W:WX)(e:Expr)(f:QT):Prop:=PW X e (jV X.K ak W f)
theorem PW.weak{X:Cx}{e:Expr}{t t':TT}(h:PW X e t)(k:∀σ H Q,t' σ H Q->t σ H Q):PW X e t':=⟨λwh pins s σ H Q I q=>h.run wh pins s σ H Q I (k σ H Q q)⟩
theorem akT{rest:List Expr}(ha:u6 ak X W a ta)(hb:QWt ak X W (.BoolOp .And (b::rest) pos) tb):QWt ak X W (.BoolOp .And (a::b::rest) pos) (gH ta tb):=
 PW.weak (pw_and ha hb) λσ H Q ⟨g,Z,M,I,h⟩=>by
  refine jV.go I h.bnd λx H1 h1 e1=>?_;cases x with
  |true=>exact⟨g,Z,M,I.ex e1,h1.mono (λb k H' e'=>k H' (e1.trans e')) λ_ z=>z.ex e1⟩
  |false=>exact h1 H1 e1
theorem anq{rest:List Expr}(ha:u6 ak X W a ta)(hb:QWt ak X W (.BoolOp .Or (b::rest) pos) tb):QWt ak X W (.BoolOp .Or (a::b::rest) pos) (Ag ta tb):=
 PW.weak (pw_or ha hb) λσ H Q ⟨g,Z,M,I,h⟩=>by
  refine jV.go I h.bnd λx H1 h1 e1=>?_;cases x with
  |true=>exact h1 H1 e1
  |false=>exact⟨g,Z,M,I.ex e1,h1.mono (λb k H' e'=>k H' (e1.trans e')) λ_ z=>z.ex e1⟩
def TX(a:QF):QF:=Ut (iW (aW a))
def xV(a b:QF):QF:=λM Z=>(a M Z).bind λd=>(Dr d).bind λx=>if x=true then b M Z else .ok (.bool false)
def ahV(a b:QF):QF:=λM Z=>(a M Z).bind λd=>(Dr d).bind λx=>if x=true then .ok (.bool true) else b M Z
theorem ajw(ha:QW ak X W a fa):QE ak X W (.UnaryOp .Not a pos) (TX fa):=
 PE.weak (pe_not ha) λσ H Q ⟨g,Z,M,I,h⟩=>by
  refine tW.go I h.bnd.bnd.bnd λd v H1 h1 e1 r1=>?_;obtain⟨k,h2,h3⟩:=GP r1 h1;exact⟨k,h2,h3 _ H1 e1 (.bl _)⟩
theorem ajq{rest:List Expr}(ha:QE ak X W a fa)(hb:QE ak X W (.BoolOp .And (b::rest) pos) fb):QE ak X W (.BoolOp .And (a::b::rest) pos) (xV fa fb):=
 PE.weak (pe_and ha hb) λσ H Q ⟨g,Z,M,I,h⟩=>by
  refine tQ.go I h.bnd λd v H1 h1 e1 r1=>?_;obtain⟨k,h2,h3⟩:=GP r1.weak h1.bnd;refine⟨k,h2,?_⟩;cases k with
  |true=>exact⟨g,Z,M,I.ex e1,h3.mono (λb k v' H' e' r'=>k v' H' (e1.trans e') r') λ_ z=>z.ex e1⟩
  |false=>exact h3 _ H1 e1 (.bl false)
theorem akL{rest:List Expr}(ha:QE ak X W a fa)(hb:QE ak X W (.BoolOp .Or (b::rest) pos) fb):QE ak X W (.BoolOp .Or (a::b::rest) pos) (ahV fa fb):=
 PE.weak (pe_or ha hb) λσ H Q ⟨g,Z,M,I,h⟩=>by
  refine tQ.go I h.bnd λd v H1 h1 e1 r1=>?_;obtain⟨k,h2,h3⟩:=GP r1.weak h1.bnd;refine⟨k,h2,?_⟩;cases k with
  |false=>exact⟨g,Z,M,I.ex e1,h3.mono (λb k v' H' e' r'=>k v' H' (e1.trans e') r') λ_ z=>z.ex e1⟩
  |true=>exact h3 _ H1 e1 (.bl true)
theorem ahe(hc:u6 ak X W c ta)(ha:QE ak X W a fa)(hb:QE ak X W b fb):QE ak X W (.IfExp c a b pos) (O2 ta fa fb):=
 PE.weak (pe_ifExp hc ha hb) λσ H Q ⟨g,Z,M,I,h⟩=>by
  refine jV.go I h.bnd λx H1 h1 e1=>?_;cases x with
  |true=>exact⟨g,Z,M,I.ex e1,h1.mono (λb k v' H' e' r'=>k v' H' (e1.trans e') r') λ_ z=>z.ex e1⟩
  |false=>exact⟨g,Z,M,I.ex e1,h1.mono (λb k v' H' e' r'=>k v' H' (e1.trans e') r') λ_ z=>z.ex e1⟩
def nQ(o o':Dat->Dat->Out Dat)(a b c:QF):QT:=λM Z=>(a M Z).bind λx=>(b M Z).bind λy=>(o x y).bind λz=>(Dr z).bind λk=>if k=true then(c M Z).bind λw=>(o' y w).bind Dr else .ok false
theorem abv{r r':R2}{o o':Dat->Dat->Out Dat}(ho:sV ak X.K W o r)(ho':sV ak X.K W o' r'){σ:L2.St}{H:Hp}{Q:VK}{P:Bool->Hp->Prop}(hP:∀k H',P k H'->Q (.bl k) H')(h:jV X.K ak W (nQ o o' fa fb fc) σ H P):tChain r r' (tW X.K ak W fa) (tW X.K ak W fb) (tW X.K ak W fc) σ H Q:=by
 obtain⟨g,Z,M,I,h⟩:=h;refine tW.go I h.bnd λd v H1 h1 e1 r1=>?_;have I1:=I.ex e1;refine tW.go I1 (h1.bnd.mono (λ_ z=>z) λ_ z=>z.ex e1) λd2 v2 H2 h2 e2 r2=>?_;have I2:=I1.ex e2;have r1':=r1.ex e2 I1.kd;refine ho σ g H2 v v2 d d2 _ I2.kd r1' r2 (h2.bnd.mono (λz hz u H3 e3 r3=>?_) λ_ z=>(z.ex e1).ex e2);obtain⟨k,h4,h5⟩:=GP r3.weak hz.bnd;refine⟨k,h4,?_⟩;have I3:=I2.ex e3;have e13:=(e1.trans e2).trans e3;cases k with
 |false=>exact hP _ _ (h5 H3 e13)
 |true=>
  refine tW.go I3 (h5.bnd.mono (λ_ z=>z) λ_ z=>z.ex e13) λd4 v4 H4 h6 e4 r4=>?_;refine ho' σ g H4 v2 v4 d2 d4 _ (I3.ex e4).kd ((r2.ex e3 I2.kd).ex e4 I3.kd) r4 (h6.bnd.mono (λz hz u H5 e5 r5=>?_) λ_ z=>(z.ex e13).ex e4);obtain⟨k,rfl,h8⟩:=GP r5.weak hz;exact hP _ _ (h8 H5 ((e13.trans e4).trans e5))
theorem ahD{op op':CmpOp}{r r':R2}{o o':Dat->Dat->Out Dat}(hr:OpR X (compareOp op) r)(hr':OpR X (compareOp op') r')(ho:sV ak X.K W o r)(ho':sV ak X.K W o' r')(ha:QW ak X W a fa)(hb:QW ak X W b fb)(hc:QW ak X W c fc)(hm:lastMarks [op,op'] [b,c]=false) :
  u6 ak X W (.Compare a [op,op'] [b,c] pos) (nQ o o' fa fb fc):=
 PT.weak (pt_chain hr hr' ha hb hc hm) λσ H Q h=>abv ho ho' (λk H' z=>⟨k,rfl,z⟩) h
theorem ahS{op op':CmpOp}{r r':R2}{o o':Dat->Dat->Out Dat}(hr:OpR X (compareOp op) r)(hr':OpR X (compareOp op') r')(ho:sV ak X.K W o r)(ho':sV ak X.K W o' r')(ha:QW ak X W a fa)(hb:QW ak X W b fb)(hc:QW ak X W c fc)(hm:lastMarks [op,op'] [b,c]=false) :
  QE ak X W (.Compare a [op,op'] [b,c] pos) (Ut (nQ o o' fa fb fc)):=
 PE.weak (pe_chain hr hr' ha hb hc hm) λσ H Q ⟨g,Z,M,I,h⟩=>abv (P:=λb H1=>Q (.bl b) H1) ho ho' (λk H' z=>z) ⟨g,Z,M,I,h.bnd.mono (λb h1 H' e'=>h1 _ H' e' (.bl b)) λ_ z=>z⟩
end
def aN:Dat->Dat->Out Dat
 |.list ds,.int i=>match atI ds i with
  |some d=>.ok d
  |none=>.bad
 |.tuple ds,.int i=>match atI ds i with
  |some d=>.ok d
  |none=>.bad
 |.str z,.int i=>Out.when (decide (z.length<=100000)) (match atI z.cps.toList i with
  |some c=>.ok (.str ⟨#[c]⟩)
  |none=>.bad)
 |_,_=>.bad
theorem adk{K:atw}{g:Gh}{H:Hp}{us:List V}{ds:List Dat}{i:Int}{d:Dat}(h:aQ K g H us ds)(e:atI ds i=some d):∃v,atI us i=some v/\Rep K g H v d:=by
 unfold atI at e |-
 rw[h.length];cases hj:ixN ds.length i with
 |none=>rw[hj]at e;cases e
 |some j=>
  rw[hj]at e;obtain⟨v,h1,h2⟩:=h.get (i:=j) e;exact⟨v,h1,h2⟩
def amN(K:atw):R2:=λx y H Q=>rIxL K x y H Q\/rIxT K x y H Q\/rIxS x y H Q
theorem apw{X:Cx}:IxR X (amN X.K):=λvalue slice pins s σ H x y v u Q I rx ry h hs=>by
 rcases h with h|h|h
 .exact ix_list value slice pins s σ H x y v u Q I rx ry h hs
 .exact ix_tup value slice pins s σ H x y v u Q I rx ry h hs
 .exact ix_str value slice pins s σ H x y v u Q I rx ry h hs
theorem an4{K:atw}{ak:aX}{W:WX}:sV ak K W aN (amN K):=λσ g H x y d e Q k rx ry h=>by
 unfold aN at h;split at h
 .split at h
  .next z hz=>
   obtain⟨p,us,rfl,h1,h2⟩:=jG rx;obtain⟨v,h3,h4⟩:=adk h2 hz;exact .inl ⟨p,us,_,v,rfl,cM ry,h1,h3,h v H (Ex.refl H) h4⟩
  .exact au0 h
 .split at h
  .next z hz=>
   obtain⟨p,us,rfl,h1,h2⟩:=nJ rx;obtain⟨v,h3,h4⟩:=adk h2 hz;exact .inr (.inl ⟨p,us,_,v,rfl,cM ry,h1,h3,h v H (Ex.refl H) h4⟩)
  .exact au0 h
 .obtain⟨hl,h⟩:=h.rC;split at h
  .next c hz=>exact .inr (.inr ⟨_,_,c,lE rx,cM ry,sz_of (au2 hl),hz,h _ H (Ex.refl H) (.str _)⟩)
  .exact au0 h
 .exact au0 h
def cutD{α:Type}(xs:List α)(lo hi:Option Int):List α:=(xs.drop (HT.sIx xs.length 0 lo)).take (HT.sIx xs.length xs.length hi-HT.sIx xs.length 0 lo)
abbrev QO:=Mo->Env->Out (Option Int)
def uz:QO:=λ_ _=>.ok none
def Dc:Dat->Out Int
 |.int i=>.ok i
 |_=>.bad
def lC(a:QF):QO:=λM Z=>(a M Z).bind λd=>(Dc d).bind λi=>.ok (some i)
def slD(d:Dat)(lo hi:Option Int):Out Dat:=
 match d with
 |.list ds=>.ok (.list (cutD ds lo hi))
 |.tuple ds=>.ok (.tuple (cutD ds lo hi))
 |.str z=>Out.when (decide (z.length<=100000)) (.ok (.str (cutS z lo hi)))
 |_=>.bad
def Et(a:QF)(lo hi:QO):QF:=λM Z=>(a M Z).bind λd=>(lo M Z).bind λl=>(hi M Z).bind λh=>slD d l h
def tQO(K:atw)(ak:aX)(W:WX)(f:QO):TO:=λσ H Q=>∃g Z M,SInv K ak σ H g Z M/\(f M Z).sat (λo=>∀H',Ex H H'->Q o H') (sU K ak W g H σ)
def QOe(ak:aX)(X:Cx)(W:WX)(e:Option Expr)(f:QO):Prop:=PO X e (tQO X.K ak W f)
def amH(K:atw):V->Option Int->Option Int->Hp->VK->Prop:=λx lo hi H Q=>rSlL K x lo hi H Q\/rSlA K x lo hi H Q\/rSlS x lo hi H Q
theorem aoO{X:Cx}:SlR X (amH X.K):=λpins s σ H x v vl vu lo hi sl Q I rx hs pl pu h=>by
 rcases h with h|h|h
 .exact sl_list pins s σ H x v vl vu lo hi sl Q I rx hs pl pu h
 .exact sl_tupA pins s σ H x v vl vu lo hi sl Q I rx hs pl pu h
 .exact sl_str pins s σ H x v vl vu lo hi sl Q I rx hs pl pu h
theorem aoq{K:atw}{g:Gh}{H:Hp}{x:V}{d:Dat}{lo hi:Option Int}{Q:VK}{E:eX->Prop}(k:Kd g H)(rx:eZ K g H x d)(h:(slD d lo hi).sat (λz=>∀v H',Ex H H'->Rep K g H' v z->Q v H') E):amH K x lo hi H Q:=by
 unfold slD at h;have hc:∀{us:List V} {ds:List Dat},aQ K g H us ds->aQ K g H (cutV us lo hi) (cutD ds lo hi):=λ{us ds} t=>by
  unfold cutV cutD;rw[t.length];exact(t.drop _).take _
 split at h
 .obtain⟨p,us,rfl,h1,h2⟩:=jG rx;exact .inl ⟨p,us,rfl,h1,λq nq=>h _ _ (Ex.new nq) (.lst (.inl ⟨.inl au7,k.fresh nq⟩) ((hc h2).ex (Ex.new nq) k))⟩
 .next ds=>
  obtain⟨p,us,rfl,h1,h2⟩:=nJ rx;refine .inr (.inl ⟨p,us,rfl,h1,λz=>?_,λ_ q nq=>h _ _ (Ex.new nq) (.tup (st_of au7) ((hc h2).ex (Ex.new nq) k))⟩);have e:cutD ds lo hi=ds:=by unfold cutD;rw[<-h2.length,z.1,z.2,h2.length];simp
  rw[e]at h;exact h _ H (Ex.refl H) (.tup h1 h2)
 .obtain⟨hz,h⟩:=h.rC;exact .inr (.inr ⟨_,lE rx,sz_of (au2 hz),h _ H (Ex.refl H) (.str _)⟩)
 .exact au0 h
section
variable{X:Cx}{ak:aX}{W:WX}{a b:Expr}{fa fb:QF}{pos p2:Pos}
theorem anY(ha:QW ak X W a fa)(hb:QW ak X W b fb)(hs:PlainIx b):QE ak X W (.Subscript a b pos) (aA aN fa fb):=
 PE.weak (pe_ix apw ha hb hs) λσ H Q h=>UG an4 σ H Q h
theorem PO.weak{X:Cx}{e:Option Expr}{t t':TO}(h:PO X e t)(k:∀σ H Q,t' σ H Q->t σ H Q):PO X e t':=⟨λpins s σ H Q I q=>h.run pins s σ H Q I (k σ H Q q)⟩
theorem ajo:QOe ak X W none uz:=PO.weak po_none λσ H Q ⟨g,Z,M,I,h⟩=>h H (Ex.refl H)
theorem akr(ha:QW ak X W a fa):QOe ak X W (some a) (lC fa):=PO.weak (po_some ha) λσ H Q ⟨g,Z,M,I,h⟩=>by
 refine tW.go I h.bnd λd v H1 h1 e1 r1=>?_;have h1:=h1.bnd;unfold Dc at h1;split at h1
 .exact⟨_,cM r1,h1 H1 e1⟩
 .exact au0 h1
theorem anI{lo hi:Option Expr}{fl fh:QO}(ha:QW ak X W a fa)(hl:QOe ak X W lo fl)(hh:QOe ak X W hi fh):QE ak X W (.Subscript a (.Slice lo hi none p2) pos) (Et fa fl fh):=
 PE.weak (pe_slice aoO ha hl hh) λσ H Q ⟨g,Z,M,I,h⟩=>by
  refine tW.go I h.bnd λd v H1 h1 e1 r1=>?_;have I1:=I.ex e1;refine⟨g,Z,M,I1,h1.bnd.mono (λl h2 H2 e2=>?_) λ_ z=>z.ex e1⟩;have I2:=I1.ex e2;refine⟨g,Z,M,I2,h2.bnd.mono (λu h3 H3 e3=>?_) λ_ z=>(z.ex e1).ex e2⟩;exact aoq (I2.ex e3).kd ((r1.ex e2 I1.kd).ex e3 I2.kd) (h3.mono (λz hz v' H' e' r'=>hz v' H' (((e1.trans e2).trans e3).trans e') r') λ_ z=>z)
end
def Ml(ak:aX)(K:atw)(W:WX)(o:Dat->Out Dat)(r:List V->Hp->VK->Prop):Prop:=∀(σ:L2.St) (g:Gh) (H:Hp) (x:V) (d:Dat) (Q:VK),Kd g H->eZ K g H x d->
 (o d).sat (λz=>∀v H',Ex H H'->Rep K g H' v z->Q v H') (sU K ak W g H σ)->r [x] H Q
def Fn2(ak:aX)(K:atw)(W:WX)(o:Dat->Dat->Out Dat)(r:List V->Hp->VK->Prop):Prop:=∀(σ:L2.St) (g:Gh) (H:Hp) (x y:V) (d e:Dat) (Q:VK),Kd g H->eZ K g H x d->eZ K g H y e->
 (o d e).sat (λz=>∀v H',Ex H H'->Rep K g H' v z->Q v H') (sU K ak W g H σ)->r [x,y] H Q
def BV(f:Value)(x:Str):Prop:=bootBuiltins x=some f/\x≠"__name__"/\(x==("__debug__" : Str))=false
def nst:Expr->Bool
 |.Starred _ _=>false
 |_=>true
section
variable{X:Cx}{ak:aX}{W:WX}{a b c:Expr}{fa fb fc:QF}{pos p:Pos}{x:Str}
theorem cP{env:PySem.Env}{a:Expr}(h:nst a=true)(es:List Expr):starEach (a::es) env=(false,eval a env)::starEach es env:=by cases a<;>first | rfl | cases h
theorem star_any{env:PySem.Env}{pos:Pos}:∀(es:List Expr),es.all nst=true->(backTo pos (starEach es env)).any (·.1)=false
 |[],_=>by with_unfolding_all rfl
 |a::es,h=>by
  rw[auk,atx]at h;rw[cP h.1];have ih:=star_any (env:=env) (pos:=pos) es h.2;unfold backTo at ih |-
  rw[atE,auF,ih];rfl
theorem aik{f:Value}{id:String}{r:List V->Hp->VK->Prop}{o:Dat->Out Dat}(hf:f=.builtin id\/f=.type id)(hc:CallR X f r)(ho:Ml ak X.K W o r)(hg:Gl X x)(hm:X.mg x=none)(hv:BV f x)(ha:QW ak X W a fa)(hs:nst a=true):QE ak X W (.Call (.Name x p) [a] [] pos) (eE o fa):=by
 have h1:=pa_cons ha pa_nil (cP hs []);have key:PE X (.Call (.Name x p) [a] [] pos) (tCB r (tCons (tW X.K ak W fa) tNil)):=by
  rcases hf with rfl|rfl
  .exact pe_callB hc hg hm hv.1 h1 hv.2.1 hv.2.2 (cP hs []) (by with_unfolding_all rfl)
  .exact pe_callTy hc hg hm hv.1 h1 hv.2.1 hv.2.2 (cP hs []) (by with_unfolding_all rfl)
 refine PE.weak key λσ H Q ⟨g,Z,M,I,h⟩=>?_;refine tW.go I h.bnd λd v H1 h1 e1 r1=>?_;exact ho σ g H1 v d Q (I.kd.ex e1) r1 (h1.mono (λz hz u H' e' r'=>hz u H' (e1.trans e') r') λ_ z=>z.ex e1)
theorem anO{f:Value}{id:String}{r:List V->Hp->VK->Prop}{o:Dat->Dat->Out Dat}(hf:f=.builtin id\/f=.type id)(hc:CallR X f r)(ho:Fn2 ak X.K W o r)(hg:Gl X x)(hm:X.mg x=none)(hv:BV f x)(ha:QW ak X W a fa)(hb:QW ak X W b fb)(hs:nst a=true)(hs2:nst b=true):QE ak X W (.Call (.Name x p) [a,b] [] pos) (aA o fa fb):=by
 have h1:=pa_cons ha (pa_cons hb pa_nil (cP hs2 [])) (cP hs [b]);have key:PE X (.Call (.Name x p) [a,b] [] pos) (tCB r (tCons (tW X.K ak W fa) (tCons (tW X.K ak W fb) tNil))):=by
  rcases hf with rfl|rfl
  .exact pe_callB hc hg hm hv.1 h1 hv.2.1 hv.2.2 (cP hs [b]) (star_any [b] (by simp[hs2]))
  .exact pe_callTy hc hg hm hv.1 h1 hv.2.1 hv.2.2 (cP hs [b]) (star_any [b] (by simp[hs2]))
 refine PE.weak key λσ H Q ⟨g,Z,M,I,h⟩=>?_;refine tW.go I h.bnd λd v H1 h1 e1 r1=>?_;have I1:=I.ex e1;refine tW.go I1 (h1.bnd.mono (λ_ z=>z) λ_ z=>z.ex e1) λd2 v2 H2 h2 e2 r2=>?_;exact ho σ g H2 v v2 d d2 Q (I1.ex e2).kd (r1.ex e2 I1.kd) r2 (h2.mono (λz hz u H' e' r'=>hz u H' ((e1.trans e2).trans e') r') λ_ z=>(z.ex e1).ex e2)
end
def ou:Dat->Out Dat
 |.list ds=>.ok (.int ds.length)
 |.tuple ds=>.ok (.int ds.length)
 |.str x=>Out.when (decide (x.length<=100000)) (.ok (.int x.length))
 |_=>.bad
def WY:Dat->Out Dat
 |.int i=>.ok (.int (if i<0 then -i else i))
 |_=>.bad
def u9:Dat->Dat->Out Dat
 |.int i,.int j=>.ok (.int (if j>i then j else i))
 |_,_=>.bad
def KR:Dat->Dat->Out Dat
 |.int i,.int j=>.ok (.int (if j<i then j else i))
 |_,_=>.bad
def intsOf:List Dat->Option (List Int)
 |[]=>some []
 |.int i::r=>(intsOf r).map (i::·)
 |_::_=>none
def tY:List Dat->Option (List Bool)
 |[]=>some []
 |.bool i::r=>(tY r).map (i::·)
 |_::_=>none
theorem J8{K:atw}{g:Gh}{H:Hp}:∀{us:List V} {ds:List Dat} {ns:List Int},aQ K g H us ds->intsOf ds=some ns->us=ns.map V.int
 |_,_,ns,.nil,e=>by cases e;rfl
 |_,_,ns,.cons (d:=d) (ds:=ds) h t,e=>by
  cases d with
  |int i=>
   rw[intsOf]at e;cases hr:intsOf ds with
   |none=>rw[hr]at e;cases e
   |some r=>
    rw[hr]at e;cases e;cases h;rw[J8 t hr];rfl
  |_=>cases e
theorem Oc{K:atw}{g:Gh}{H:Hp}:∀{us:List V} {ds:List Dat} {ns:List Bool},aQ K g H us ds->tY ds=some ns->us=ns.map V.bl
 |_,_,ns,.nil,e=>by cases e;rfl
 |_,_,ns,.cons (d:=d) (ds:=ds) h t,e=>by
  cases d with
  |bool i=>
   rw[tY]at e;cases hr:tY ds with
   |none=>rw[hr]at e;cases e
   |some r=>
    rw[hr]at e;cases e;cases h;rw[Oc t hr];rfl
  |_=>cases e
@[simp]theorem nR (ns:List Int):intsOf (ns.map PyData.int)=some ns:=by
 induction ns with
 |nil=>rfl
 |cons n ns ih=>rw[atE,intsOf,ih];rfl
@[simp]theorem CQ (ns:List Bool):tY (ns.map PyData.bool)=some ns:=by
 induction ns with
 |nil=>rfl
 |cons n ns ih=>rw[atE,tY,ih];rfl
def W4:Dat->Out Dat
 |.list ds=>match intsOf ds with
  |some ns=>.ok (.int ns.sum)
  |none=>.bad
 |_=>.bad
def Ij:Int->List Int->Int
 |m,[]=>m
 |m,n::ns=>Ij (if n>m then n else m) ns
theorem Ho:∀(ns:List Int) (m:Int),(Ij m ns∈m::ns)/\∀y∈m::ns,y<=Ij m ns
 |[],m=>⟨by simp[Ij],λy h=>by simp at h;subst h;exact Int.le_refl _⟩
 |n::ns,m=>by
  obtain⟨h1,h2⟩:=Ho ns (if n>m then n else m);have hm:m<=(if n>m then n else m):=by split<;>omega
  have hn:n<=(if n>m then n else m):=by split<;>omega
  have h3:=h2 _ atD;refine⟨?_,λy hy=>?_⟩
  .show Ij (if n>m then n else m) ns∈_;rcases atO.mp h1 with e|e
   .rw[e];split
    .exact atA _ atD
    .exact atD
   .exact atA _ (atA _ e)
  .show y<=Ij (if n>m then n else m) ns;rcases atO.mp hy with e|hy
   .omega
   .rcases atO.mp hy with e|hy
    .omega
    .exact h2 y (atA _ hy)
def maxD:Dat->Out Dat
 |.list ds=>match intsOf ds with
  |some (n::ns)=>.ok (.int (Ij n ns))
  |_=>.bad
 |_=>.bad
def KH:Dat->Out Dat
 |.list ds=>match tY ds with
  |some bs=>.ok (.bool (bs.all id))
  |none=>.bad
 |_=>.bad
def Ro:Dat->Out Dat
 |.list ds=>match tY ds with
  |some bs=>.ok (.bool (bs.any id))
  |none=>.bad
 |_=>.bad
def mJ:Dat->Out Dat
 |.list ds=>.ok (.tuple ds)
 |.tuple ds=>.ok (.tuple ds)
 |_=>.bad
def Qh:Dat->Out Dat
 |.list ds=>.ok (.list ds)
 |.tuple ds=>.ok (.list ds)
 |_=>.bad
def intD:Dat->Out Dat
 |.int i=>.ok (.int i)
 |.bool k=>.ok (.int (if k then 1 else 0))
 |.str x=>Out.when (decide (x.length<=640)) (match PySem.intText? x with
  |some n=>.ok (.int n)
  |none=>.bad)
 |_=>.bad
def ain(K:atw):List V->Hp->VK->Prop:=λxs H Q=>(∃p ys,xs=[.ref p]/\(SqL K H p ys\/SqT K H p ys)/\Q (.int ys.length) H)\/∃z,xs=[.str z]/\z.length<=sizeLine/\Q (.int z.length) H
theorem ala{X:Cx}:CallR X (.builtin "len") (ain X.K):=λpins s σ H xs us Q I r h=>h.elim (λh=>call_len_seq pins s σ H xs us Q I r h) λh=>call_len_str pins s σ H xs us Q I r h
def aib:List V->Hp->VK->Prop:=λxs H Q=>((∃i,xs=[.int i]/\Q (.int i) H)\/∃k,xs=[.bl k]/\Q (.int (if k then 1 else 0)) H)\/∃a n,xs=[.str a]/\PySem.intText? a=some n/\a.length<=640/\Q (.int n) H
theorem alX{X:Cx}:CallR X (.type "int") aib:=λpins s σ H xs us Q I r h=>h.elim (λh=>call_int1 pins s σ H xs us Q I r h) λh=>call_int_str pins s σ H xs us Q I r h
section
variable{K:atw}{ak:aX}{W:WX}
theorem amf:Ml ak K W ou (ain K):=λσ g H x d Q k rx h=>by
 unfold ou at h;split at h
 .obtain⟨p,us,rfl,h1,h2⟩:=jG rx;rw[<-h2.length]at h;exact .inl ⟨p,us,rfl,.inl h1,h _ H (Ex.refl H) (.int _)⟩
 .obtain⟨p,us,rfl,h1,h2⟩:=nJ rx;rw[<-h2.length]at h;exact .inl ⟨p,us,rfl,.inr h1,h _ H (Ex.refl H) (.int _)⟩
 .obtain⟨hz,h⟩:=h.rC;cases lE rx;exact .inr ⟨_,rfl,sz_of (au2 hz),h _ H (Ex.refl H) (.int _)⟩
 .exact au0 h
theorem akz:Ml ak K W WY (λxs H Q=>∃i,xs=[.int i]/\Q (.int (if i<0 then -i else i)) H):=λσ g H x d Q k rx h=>by
 unfold WY at h;split at h
 .cases cM rx;exact⟨_,rfl,h _ H (Ex.refl H) (.int _)⟩
 .exact au0 h
theorem ajA:Fn2 ak K W u9 (λxs H Q=>∃i j,xs=[.int i,.int j]/\Q (.int (if j>i then j else i)) H):=λσ g H x y d e Q k rx ry h=>by
 unfold u9 at h;split at h
 .cases cM rx;cases cM ry;exact⟨_,_,rfl,h _ H (Ex.refl H) (.int _)⟩
 .exact au0 h
theorem aja:Fn2 ak K W KR (λxs H Q=>∃i j,xs=[.int i,.int j]/\Q (.int (if j<i then j else i)) H):=λσ g H x y d e Q k rx ry h=>by
 unfold KR at h;split at h
 .cases cM rx;cases cM ry;exact⟨_,_,rfl,h _ H (Ex.refl H) (.int _)⟩
 .exact au0 h
theorem ak7:Ml ak K W W4 (rSum K):=λσ g H x d Q k rx h=>by
 unfold W4 at h;split at h
 .split at h
  .next ns e=>
   obtain⟨p,us,rfl,h1,h2⟩:=jG rx;have:=J8 h2 e;subst this;exact⟨p,ns,rfl,h1,h _ H (Ex.refl H) (.int _)⟩
  .exact au0 h
 .exact au0 h
theorem al0:Ml ak K W maxD (rMax K):=λσ g H x d Q k rx h=>by
 unfold maxD at h;split at h
 .split at h
  .next n ns e=>
   obtain⟨p,us,rfl,h1,h2⟩:=jG rx;have:=J8 h2 e;subst this;obtain⟨m1,m2⟩:=Ho ns n;refine⟨p,n::ns,rfl,h1,by simp,λm hm hy=>?_⟩;have e2:m=Ij n ns:=Int.le_antisymm (m2 m hm) (hy _ m1);rw[e2];exact h _ H (Ex.refl H) (.int _)
  .exact au0 h
 .exact au0 h
theorem amO:Ml ak K W KH (rAll K):=λσ g H x d Q k rx h=>by
 unfold KH at h;split at h
 .split at h
  .next ns e=>
   obtain⟨p,us,rfl,h1,h2⟩:=jG rx;have:=Oc h2 e;subst this;exact⟨p,ns,rfl,h1,h _ H (Ex.refl H) (.bl _)⟩
  .exact au0 h
 .exact au0 h
theorem akv:Ml ak K W Ro (rAny K):=λσ g H x d Q k rx h=>by
 unfold Ro at h;split at h
 .split at h
  .next ns e=>
   obtain⟨p,us,rfl,h1,h2⟩:=jG rx;have:=Oc h2 e;subst this;exact⟨p,ns,rfl,h1,h _ H (Ex.refl H) (.bl _)⟩
  .exact au0 h
 .exact au0 h
theorem ah5:Ml ak K W mJ (λxs H Q=>∃p ys,xs=[.ref p]/\((SqL K H p ys/\∀l,H l=none->Q (.ref l) (upd H l (.tup ys)))\/(SqT K H p ys/\Q (.ref p) H))):=λσ g H x d Q k rx h=>by
 unfold mJ at h;split at h
 .obtain⟨p,us,rfl,h1,h2⟩:=jG rx;exact⟨p,us,rfl,.inl ⟨h1,λl nl=>h _ _ (Ex.new nl) (.tup (st_of au7) (h2.ex (Ex.new nl) k))⟩⟩
 .obtain⟨p,us,rfl,h1,h2⟩:=nJ rx;exact⟨p,us,rfl,.inr ⟨h1,h _ H (Ex.refl H) (.tup h1 h2)⟩⟩
 .exact au0 h
theorem aiW:Ml ak K W Qh (λxs H Q=>∃p ys,xs=[.ref p]/\(SqL K H p ys\/SqT K H p ys)/\∀l,H l=none->Q (.ref l) (upd H l (.lst ys))):=λσ g H x d Q k rx h=>by
 unfold Qh at h;split at h
 .obtain⟨p,us,rfl,h1,h2⟩:=jG rx;exact⟨p,us,rfl,.inl h1,λl nl=>h _ _ (Ex.new nl) (.lst (.inl ⟨.inl au7,k.fresh nl⟩) (h2.ex (Ex.new nl) k))⟩
 .obtain⟨p,us,rfl,h1,h2⟩:=nJ rx;exact⟨p,us,rfl,.inr h1,λl nl=>h _ _ (Ex.new nl) (.lst (.inl ⟨.inl au7,k.fresh nl⟩) (h2.ex (Ex.new nl) k))⟩
 .exact au0 h
theorem akx:Ml ak K W intD aib:=λσ g H x d Q k rx h=>by
 unfold intD at h;split at h
 .cases cM rx;exact .inl (.inl ⟨_,rfl,h _ H (Ex.refl H) (.int _)⟩)
 .cases Hj rx;exact .inl (.inr ⟨_,rfl,h _ H (Ex.refl H) (.int _)⟩)
 .obtain⟨hz,h⟩:=h.rC;split at h
  .next n e=>
   cases lE rx;exact .inr ⟨_,n,rfl,e,au2 hz,h _ H (Ex.refl H) (.int _)⟩
  .exact au0 h
 .exact au0 h
end
inductive Rc where
 |int|bool|str|tuple|list
def Rc.name:Rc->String
 |.int=>"int"
 |.bool=>"bool"
 |.str=>"str"
 |.tuple=>"tuple"
 |.list=>"list"
def yK(t:Rc):Dat->Option Bool
 |.none=>some false
 |.int _=>some (match t with
  |.int=>true
  |_=>false)
 |.bool _=>some (match t with
  |.int=>true
  |.bool=>true
  |_=>false)
 |.str _=>some (match t with
  |.str=>true
  |_=>false)
 |.tuple _=>some (match t with
  |.tuple=>true
  |_=>false)
 |.list _=>some (match t with
  |.list=>true
  |_=>false)
 |.dict _=>none
def wY(t:Rc)(d:Dat):Out Dat:=match yK t d with
 |some b=>.ok (.bool b)
 |none=>.bad
def ana:Dat->String
 |.none=>"NoneType"
 |.int _=>"int"
 |.bool _=>"bool"
 |.str _=>"str"
 |.tuple _=>"tuple"
 |.list _=>"list"
 |.dict _=>"dict"
theorem alm{K:atw}{H:Hp}{a:Addr}{xs:List V}(h:SqL K H a xs):TyX K H (.ref a) (.type "list"):=by
 rcases h with(h|⟨o,h⟩)|⟨o,its,n,h1,h2,_⟩
 .exact .base (.lst h)
 .exact .base (.frz h)
 .exact .kList h1 h2
theorem alj{K:atw}{H:Hp}{a:Addr}{xs:List V}(h:SqT K H a xs):TyX K H (.ref a) (.type "tuple"):=by
 rcases h with(h|⟨o,h⟩)|⟨o,its,n,h1,h2,_⟩
 .exact .base (.tup h)
 .exact .fTuple h
 .exact .kTuple h1 h2
theorem anv{K:atw}{g:Gh}{H:Hp}{x:V}{d:Dat}(h:eZ K g H x d)(hd:∀kv,d≠.dict kv):TyX K H x (.type (ana d)):=by
 cases d with
 |none=>cases JX h;exact .base .non
 |bool b=>cases Hj h;exact .base (.bl _)
 |int b=>cases cM h;exact .base (.int _)
 |str b=>cases lE h;exact .base (.str _)
 |list b=>obtain⟨a,us,rfl,h1,_⟩:=jG h;exact alm h1
 |tuple b=>obtain⟨a,us,rfl,h1,_⟩:=nJ h;exact alj h1
 |dict kv=>exact absurd rfl (hd kv)
theorem abH{K:atw}:PySem.W.kitOne K (.type "int") (.type "int")=some true:=kit_ty (by decide +kernel)
theorem aaZ{K:atw}:PySem.W.kitOne K (.type "int") (.type "bool")=some false:=kit_ty (by decide +kernel)
theorem abN{K:atw}:PySem.W.kitOne K (.type "int") (.type "str")=some false:=kit_ty (by decide +kernel)
theorem YL{K:atw}:PySem.W.kitOne K (.type "int") (.type "tuple")=some false:=kit_ty (by decide +kernel)
theorem abw{K:atw}:PySem.W.kitOne K (.type "int") (.type "list")=some false:=kit_ty (by decide +kernel)
theorem ZV{K:atw}:PySem.W.kitOne K (.type "bool") (.type "int")=some true:=kit_ty (by decide +kernel)
theorem YD{K:atw}:PySem.W.kitOne K (.type "bool") (.type "bool")=some true:=kit_ty (by decide +kernel)
theorem aaK{K:atw}:PySem.W.kitOne K (.type "bool") (.type "str")=some false:=kit_ty (by decide +kernel)
theorem VF{K:atw}:PySem.W.kitOne K (.type "bool") (.type "tuple")=some false:=kit_ty (by decide +kernel)
theorem YM{K:atw}:PySem.W.kitOne K (.type "bool") (.type "list")=some false:=kit_ty (by decide +kernel)
theorem abX{K:atw}:PySem.W.kitOne K (.type "str") (.type "int")=some false:=kit_ty (by decide +kernel)
theorem aao{K:atw}:PySem.W.kitOne K (.type "str") (.type "bool")=some false:=kit_ty (by decide +kernel)
theorem abY{K:atw}:PySem.W.kitOne K (.type "str") (.type "str")=some true:=kit_ty (by decide +kernel)
theorem YJ{K:atw}:PySem.W.kitOne K (.type "str") (.type "tuple")=some false:=kit_ty (by decide +kernel)
theorem ZD{K:atw}:PySem.W.kitOne K (.type "str") (.type "list")=some false:=kit_ty (by decide +kernel)
theorem Y8{K:atw}:PySem.W.kitOne K (.type "tuple") (.type "int")=some false:=kit_ty (by decide +kernel)
theorem Vq{K:atw}:PySem.W.kitOne K (.type "tuple") (.type "bool")=some false:=kit_ty (by decide +kernel)
theorem Y7{K:atw}:PySem.W.kitOne K (.type "tuple") (.type "str")=some false:=kit_ty (by decide +kernel)
theorem Va{K:atw}:PySem.W.kitOne K (.type "tuple") (.type "tuple")=some true:=kit_ty (by decide +kernel)
theorem V1{K:atw}:PySem.W.kitOne K (.type "tuple") (.type "list")=some false:=kit_ty (by decide +kernel)
theorem aaw{K:atw}:PySem.W.kitOne K (.type "list") (.type "int")=some false:=kit_ty (by decide +kernel)
theorem Y4{K:atw}:PySem.W.kitOne K (.type "list") (.type "bool")=some false:=kit_ty (by decide +kernel)
theorem aaB{K:atw}:PySem.W.kitOne K (.type "list") (.type "str")=some false:=kit_ty (by decide +kernel)
theorem WW{K:atw}:PySem.W.kitOne K (.type "list") (.type "tuple")=some false:=kit_ty (by decide +kernel)
theorem YC{K:atw}:PySem.W.kitOne K (.type "list") (.type "list")=some true:=kit_ty (by decide +kernel)
theorem Rp{K:atw}:PySem.W.kitOne K (.type "NoneType") (.type "int")=some false:=kit_ty (by decide +kernel)
theorem QH{K:atw}:PySem.W.kitOne K (.type "NoneType") (.type "bool")=some false:=kit_ty (by decide +kernel)
theorem RP{K:atw}:PySem.W.kitOne K (.type "NoneType") (.type "str")=some false:=kit_ty (by decide +kernel)
theorem O9{K:atw}:PySem.W.kitOne K (.type "NoneType") (.type "tuple")=some false:=kit_ty (by decide +kernel)
theorem Qw{K:atw}:PySem.W.kitOne K (.type "NoneType") (.type "list")=some false:=kit_ty (by decide +kernel)
theorem ajg{K:atw}{t:Rc}{d:Dat}{b:Bool}(h:yK t d=some b):PySem.W.kitOne K (.type (ana d)) (.type t.name)=some b/\∀kv,d≠.dict kv:=by
 cases d with
 |dict kv=>cases h
 |none=>
  refine⟨?_,λ_ z=>nomatch z⟩;cases t<;>cases h
  .exact Rp
  .exact QH
  .exact RP
  .exact O9
  .exact Qw
 |bool x=>
  refine⟨?_,λ_ z=>nomatch z⟩;cases t<;>cases h
  .exact ZV
  .exact YD
  .exact aaK
  .exact VF
  .exact YM
 |int x=>
  refine⟨?_,λ_ z=>nomatch z⟩;cases t<;>cases h
  .exact abH
  .exact aaZ
  .exact abN
  .exact YL
  .exact abw
 |str x=>
  refine⟨?_,λ_ z=>nomatch z⟩;cases t<;>cases h
  .exact abX
  .exact aao
  .exact abY
  .exact YJ
  .exact ZD
 |list x=>
  refine⟨?_,λ_ z=>nomatch z⟩;cases t<;>cases h
  .exact aaw
  .exact Y4
  .exact aaB
  .exact WW
  .exact YC
 |tuple x=>
  refine⟨?_,λ_ z=>nomatch z⟩;cases t<;>cases h
  .exact Y8
  .exact Vq
  .exact Y7
  .exact Va
  .exact V1
def yL(t:Rc)(a:QF):QF:=eE (wY t) a
section
variable{X:Cx}{ak:aX}{W:WX}{a b:Expr}{fa:QF}{pos p p2:Pos}{x y:Str}
theorem am2{t:Rc}(hg:Gl X x)(hm:X.mg x=none)(hv:BV (.builtin "isinstance") x)(hg2:Gl X y)(hm2:X.mg y=none)(hv2:BV (.type t.name) y)(ha:QW ak X W a fa)(hs:nst a=true):QE ak X W (.Call (.Name x p) [a,.Name y p2] [] pos) (yL t fa):=by
 have hb:PE X (.Name y p2) (tC (.ty t.name)):=pe_bltn hg2 hm2 hv2.1 rfl hv2.2.1 hv2.2.2;have h1:=pa_cons ha (pa_cons hb pa_nil (cP (a:=.Name y p2) rfl [])) (cP hs [.Name y p2]);have key:=pe_callB (pos:=pos) (p:=p) call_isi hg hm hv.1 h1 hv.2.1 hv.2.2 (cP hs [.Name y p2]) (star_any [.Name y p2] rfl);refine PE.weak key λσ H Q ⟨g,Z,M,I,h⟩=>?_;refine tW.go I h.bnd λd v H1 h1 e1 r1=>?_;unfold wY at h1;split at h1
 .next bb e=>
  obtain⟨k1,k2⟩:=ajg (K:=X.K) e;exact⟨v,_,_,_,bb,rfl,.ty _,anv r1 k2,k1,h1 _ H1 e1 (.bl _)⟩
 .exact au0 h1
end
inductive Src where
 |lst (a:Addr)|tup (a:Addr)|str (x:Str)
def chars(x:Str):List V:=x.cps.toList.map λc=>V.str ⟨#[c]⟩
def Src.sq(K:atw)(H:Hp)(us:List V):Src->Prop
 |.lst a=>SqL K H a us
 |.tup a=>SqT K H a us
 |.str x=>us=chars x
def Src.it(h:Heap)(i:Addr)(n:Nat):Src->Prop
 |.lst a=>h.IsListIter i a n
 |.tup a=>h.IsTupleIter i a n
 |.str x=>∃t,h.IsStrIter i (strIterType x) x t n
def Src.ad:Src->List Addr
 |.lst a=>[a]
 |.tup a=>[a]
 |.str _=>[]
section
variable{X:Cx}{pins:List (Addr×Obj)}{σ:L2.St}{H:Hp}{s:Shared}
theorem Src.inj{S:Src}{us ws:List V}(I:L2.Inv X pins σ H s)(h:S.sq X.K H us)(h':S.sq X.K H ws):us=ws:=by
 cases S with
 |lst a=>exact I.list_inj h h'
 |tup a=>exact I.tuple_inj h h'
 |str x=>exact Eq.trans h (Eq.symm h')
theorem Src.draws{S:Src}{us:List V}{i:Addr}{n:Nat}(I:L2.Inv X pins σ H s)(hA:X.A.handled=none)(hs:S.sq X.K H us)(hi:S.it s.heap i n)(hne:∀a∈S.ad,a≠i) :
  ∃(P:Nat->Value->Prop) (St:Nat->Heap->Prop),Draws X.prog X.w X.A.in1 i (i::S.ad) us.length P St/\St n s.heap/\(∀m h,St m h->S.it h i m)/\∀(m:Nat) (v:Value) (x:V),P m v->us[m]?=some x->RelV x v:=by
 cases S with
 |lst a=>
  obtain⟨its,rv,p,hz⟩:=I.list hs;have hl:=rv.length;have D:=Draws.list (prog:=X.prog) (w:=X.w) (A:=X.A.in1) hA i a (hne a (by simp[Src.ad])) its.toArray;rw[auR,<-hl]at D;refine⟨_,_,D,⟨hi,p.isList⟩,λm h z=>z.1,λm v x hv hx=>?_⟩;obtain⟨u,hu,ru⟩:=rv.get hx;have:v=u:=atY (hv.symm.trans (by simpa using hu));rw[this];exact ru
 |tup a=>
  obtain⟨its,rv,p,hz⟩:=I.tuple hs;have hl:=rv.length;have D:=Draws.tuple (prog:=X.prog) (w:=X.w) (A:=X.A.in1) hA i a (hne a (by simp[Src.ad])) its.toArray;rw[auR,<-hl]at D;refine⟨_,_,D,⟨hi,p⟩,λm h z=>z.1,λm v x hv hx=>?_⟩;obtain⟨u,hu,ru⟩:=rv.get hx;have:v=u:=atY (hv.symm.trans (by simpa using hu));rw[this];exact ru
 |str x=>
  obtain⟨t,hi⟩:=hi;have hl:us.length=x.cps.size:=by rw[show us=chars x from hs];unfold chars;rw[atJ,auh]
  have D:=Draws.text (prog:=X.prog) (w:=X.w) (A:=X.A.in1) hA i x t;rw[<-hl]at D;refine⟨_,_,D,hi,λm h z=>⟨t,z⟩,λm v y hv hy=>?_⟩;obtain⟨c,u,hc,rfl⟩:=hv;rw[show us=chars x from hs]at hy;unfold chars at hy;rw[atR,aut,hc]at hy;cases hy;exact⟨u,rfl⟩
theorem Src.Qp{S:Src}{h:Heap}{i:Addr}{n:Nat}(hi:S.it h i n):∃o,h.get? i=some o/\∀v,o.data≠.cell v:=by
 cases S with
 |lst a=>obtain⟨o,e,_,d⟩:=hi;exact⟨o,e,λv q=>by rw[d]at q;cases q⟩
 |tup a=>obtain⟨o,e,_,d⟩:=hi;exact⟨o,e,λv q=>by rw[d]at q;cases q⟩
 |str x=>obtain⟨t,o,e,_,d⟩:=hi;exact⟨o,e,λv q=>by rw[d]at q;cases q⟩
theorem Src.Qg{S:Src}{h h':Heap}{i:Addr}{n:Nat}(hi:S.it h i n)(k:∀o,h.get? i=some o->h'.get? i=some o):S.it h' i n:=by
 cases S with
 |lst a=>exact hi.at k
 |tup a=>exact hi.at k
 |str x=>obtain⟨t,o,e,r⟩:=hi;exact⟨t,o,k o e,r⟩
end
def ItE(K:atw)(S:Src)(k₀:Int):It:=
 ⟨λi H=>∃(us:List V) (x:V),S.sq K H us/\us[i]?=some x,λi H v H'=>∃T x,v=.ref T/\H T=none/\H'=upd H T (.tup [.int (k₀+(i:Int)),x])/\∀us,S.sq K H us->us[i]?=some x,λi H=>∃us:List V,S.sq K H us/\us.length=i⟩
theorem aoc{P:Program}{w:World}{K:atw}{elts:List Expr}{kk:Nat}{tpos:Pos}(S:Src)(e i0:Addr)(k₀:Int)(hne:e≠i0)(ha:∀a∈S.ad,e≠a/\a≠i0) :
  Turn P w K (.Tuple elts kk tpos) (ItE K S k₀) [e,i0] e (λi h=>(∃old,IsEnum h e i0 (k₀+(i:Int)) old)/\S.it h i0 i) where
 mem:=by simp
 obj:=λi h st b hb=>by
  obtain⟨⟨old,he⟩,hi⟩:=st;have e':b=e\/b=i0:=by simpa using hb
  rcases e' with z|z
  .rw[z];exact⟨_,he,λv q=>nomatch q⟩
  .rw[z];exact Src.Qp hi
 keep:=λi h h' st k=>let ⟨⟨old,he⟩,hi⟩:=st;⟨⟨old,k e (by simp) _ he⟩,Src.Qg hi λo q=>k i0 (by simp) o q⟩
 item:=by
  intro X hP hw hK hc i pins s σ H E I hf st hg;subst hP hw hK;obtain⟨⟨old,he⟩,hit⟩:=st;obtain⟨us,x,hq,hx⟩:=hg;obtain⟨PP,St,D,st0,stI,rel⟩:=Src.draws I (I.ok.hd hc) hq hit λa z=>(ha a z).2;have hel:e<s.heap.objs.size:=Heap.lt_size he;have hil:i0<s.heap.objs.size:=by obtain⟨_,q,_⟩:=Src.Qp hit;exact Heap.lt_size q
  have hin:i<us.length:=(aty.mp hx).1;refine wpAny_pyNext_enum_itemC D he st0 hin hne (λz=>?_) λv h' tk hP ho hst' hT hsz hk=>?_
  .rcases atO.mp z with z|z
   .exact hne z
   .exact(ha e z).1 rfl
  have ru:=rel i v x hP hx;refine⟨_,rfl,wpAny_letOwnedTupleGo_enum (s:={ s with heap:=h',toks:=tk+1 }) ho λh'' he' sb=>?_⟩;have hT2:h''.get? s.heap.objs.size=some { cls:=.type "tuple",data:=.seq #[.int (k₀+(i:Int)) tk,v] }:=(sb.2 _ (Nat.ne_of_gt hel)).trans hT
  have new:ObjOk X.prog X.w (upd H s.heap.objs.size (.tup [.int (k₀+(i:Int)),x])) h'' s.heap.objs.size (.tup [.int (k₀+(i:Int)),x]):=
   ⟨by show 2<=sizeLine;decide,[.int (k₀+(i:Int)) tk,v],.cons ⟨_,rfl⟩ (.cons ru .nil),⟨_,hT2,rfl,_,rfl⟩⟩
  have I1:L2.Inv X pins σ (upd H s.heap.objs.size (.tup [.int (k₀+(i:Int)),x])) { s with heap:=h'',toks:=tk+1 }:=
   I.turnedNew (ch:=[e,i0]) (λb ob hb q=>(sb.2 b (λz=>hb (by simp[z]))).trans (hk b ob (λz=>hb (by simp[z])) (λz=>hb (by simp[z])) q)) hf (at6 _) new
  refine⟨.ref s.heap.objs.size,_,I1,rfl,⟨_,x,rfl,I.hok.fresh (at6 _),rfl,λys hy=>by rw[Src.inj I hy hq];exact hx⟩,⟨⟨v,?_⟩,Src.Qg (stI _ _ hst') λo q=>(sb.2 i0 (Ne.symm hne)).trans q⟩,λb hb=>?_⟩
  .have e1:k₀+((i+1:Nat):Int)=k₀+(i:Int)+1:=by omega
   rw[e1];exact he'
  .have hb':b<s.heap.objs.size:=by
    have e':b=e\/b=i0:=by simpa using hb
    rcases e' with z|z
    .rw[z];exact hel
    .rw[z];exact hil
   rw[upd_ne (auf hb')];exact(hf b hb).1
 done:=by intro X hP hw hK hc i pins s σ H E I hf st hg;subst hP hw hK;obtain⟨⟨old,he⟩,hit⟩:=st;obtain⟨us,hq,hx⟩:=hg;obtain⟨PP,St,D,st0,stI,rel⟩:=Src.draws I (I.ok.hd hc) hq hit λa z=>(ha a z).2;obtain⟨f0,f1,f2,f3,f4,f5⟩:=hf i0 (by simp);rw[<-hx]at st0;exact wpAny_pyNext_enum_endD D he st0 λh' eb=>⟨rfl,I.turned (t':=s.toks) (λb o hb q=>eb b o hb q) f0 f1 f3 f4 f5⟩
 self:=λA i s Q E st h=>let ⟨⟨_,he⟩,_⟩:=st;wpAny_pyIter_enum he h
theorem Src.begins{X:Cx}{pins:List (Addr×Obj)}{σ:L2.St}{H:Hp}{s:Shared}{S:Src}{us:List V}{x:V}{v:Value}(I:L2.Inv X pins σ H s)(hs:S.sq X.K H us)(hx:(∃a,x=.ref a/\S.ad=[a]/\(S=.lst a\/S=.tup a))\/∃y,S=.str y/\x=.str y)(r:RelV x v) :
  ∃(o:Obj) (B:Heap->Prop),Begins v o B/\B s.heap/\(∀h i,h.get? i=some o->S.it h i 0)/\∀a∈S.ad,a<s.heap.objs.size:=by
 rcases hx with⟨a,rfl,ha,h|h⟩|⟨y,h,rfl⟩
 .subst h;cases r;obtain⟨its,rv,p,_⟩:=I.list hs;obtain⟨o1,ho1,_⟩:=id p.isList;refine⟨_,_,begins_list a its.toArray,p.isList,λh i e=>⟨_,e,rfl,rfl⟩,λb hb=>?_⟩;rw[ha]at hb;rw[atF.mp hb];exact Heap.lt_size ho1
 .subst h;cases r;obtain⟨its,rv,p,_⟩:=I.tuple hs;obtain⟨o1,ho1,_⟩:=id p;refine⟨_,_,begins_tuple a its.toArray,p,λh i e=>⟨_,e,rfl,rfl⟩,λb hb=>?_⟩;rw[ha]at hb;rw[atF.mp hb];exact Heap.lt_size ho1
 .subst h;obtain⟨t,rfl⟩:=r;exact⟨_,_,begins_text y t,auZ,λh i e=>⟨t,_,e,rfl,rfl⟩,λb hb=>nomatch hb⟩
def srcOf(x:V)(S:Src):Prop:=(∃a,x=.ref a/\S.ad=[a]/\(S=.lst a\/S=.tup a))\/∃y,S=.str y/\x=.str y
def iEn(K:atw)(ta:TA)(k₀:Int):TI:=λσ H R=>ta σ H λvs H1=>∃x S us,vs=[x]/\srcOf x S/\S.sq K H1 us/\R (ItE K S k₀) H1
section
variable{X:Cx}{a b:Expr}{ta tb:TA}{p pos tpos:Pos}{elts:List Expr}{kk:Nat}
theorem amu{pins:List (Addr×Obj)}{σ:L2.St}{H:Hp}{s:Shared}(I:L2.Inv X pins σ H s):∀b∈[s.heap.objs.size+1,s.heap.objs.size],FpOk X pins H b:=λb hb=>by
 have e':b=s.heap.objs.size+1\/b=s.heap.objs.size:=by simpa using hb
 have hle:s.heap.objs.size<=b:=by
  rcases e' with z|z
  .rw[z];exact Nat.le_add_right _ _
  .rw[z];exact at6 _
 exact I.fpOk hle (I.hok.fresh hle)
theorem aiq{pins:List (Addr×Obj)}{σ:L2.St}{H:Hp}{s:Shared}{S:Src}{us:List V}{x:V}{v:Value}{o:Obj}{k₀:Int}{R:It->Hp->Prop}{h':Heap}(I:L2.Inv X pins σ H s)(hlt:∀a∈S.ad,a<s.heap.objs.size)(hit:∀h i,h.get? i=some o->S.it h i 0)
  (he:IsEnum h' (s.heap.objs.size+1) s.heap.objs.size k₀ .none) (ho:h'.get? s.heap.objs.size=some o) (hk:∀b o,s.heap.get? b=some o->h'.get? b=some o) (q:R (ItE X.K S k₀) H) :
  wpAny (model X.prog X.w) X.A (pyIter (.ref (s.heap.objs.size+1))) (PIE X pins σ (.Tuple elts kk tpos) R) X.xe { s with heap:=h' }:=by
 refine wpAny_pyIter_enum he ?_;have I2:L2.Inv X pins σ H { s with heap:=h' }:=I.kept (t':=s.toks) hk;refine⟨s.heap.objs.size+1,[s.heap.objs.size+1,s.heap.objs.size],_,_,H,rfl,I2,aoc S (s.heap.objs.size+1) s.heap.objs.size k₀ (Nat.succ_ne_self _) (λa z=>?_),⟨⟨.none,?_⟩,hit _ _ ho⟩,amu I,q⟩
 .have:=hlt a z;exact⟨Nat.ne_of_gt (auD this),auf this⟩
 .rw[show k₀+((0:Nat):Int)=k₀ by simp];exact he
theorem ah6{v:Value}{o:Obj}{B:Heap->Prop}(hB:Begins v o B) :
  Meets (Builtin.«enumerate.__new__» ⟨[.type "enumerate",v],[]⟩) (λ_ R s=>B s.heap/\
   R (.ok (.ret (.ref (s.heap.push o).objs.size))) { s with heap:=(s.heap.push o).push { cls:=.type "enumerate",data:=.fields #[.none,.bool false,.ref s.heap.objs.size,rawInt 0,.none,.none] } }):=
 .of_wp λprog w A R s hh=>by
  obtain⟨hp,gs,dr,tk,os⟩:=s;obtain⟨hb,hr⟩:=hh;have hsub:=sub_enumerate;have qi:∀{A':Around} {E:Value->Shared->Prop} {Q:Value->Shared->Prop},Q (.ref hp.objs.size) ⟨hp.push o,gs,dr,tk,os⟩->wpAny (model prog w) A' (pyIter v) Q E ⟨hp,gs,dr,tk,os⟩:=λz=>hB.iter prog w _ _ ⟨hp,gs,dr,tk,os⟩ _ hb z
  wp_walk using qi
  refine wpAny_stack_any λst=>au4 ?_;split
  .next c _ _ _ _ _=>
   cases(c==Value.type "enumerate")<;>(wp_walk using qi;exact⟨_,rfl,hr⟩)
  .wp_walk using qi
   exact⟨_,rfl,hr⟩
theorem aeM{prog:Program}{w:World}{A:Around}{E:Value->Shared->Prop}{s:Shared}{v:Value}{o:Obj}{B:Heap->Prop}{Q:Value->Shared->Prop}(hB:Begins v o B)(hb:B s.heap)
  (h:∀h',IsEnum h' (s.heap.objs.size+1) s.heap.objs.size 0 .none->h'.get? s.heap.objs.size=some o->(∀b o,s.heap.get? b=some o->h'.get? b=some o)->Q (.ref (s.heap.objs.size+1)) { s with heap:=h' }) :
  wpAny (model prog w) A (call (.type "enumerate") [v]) Q E s:=by
 refine callType_new F.called_enumerate (by decide) (F.typeCall_enumerate_1 _) (F.newCall_enumerate_1 _) (λob=>F.args_object_init_2 ob _) F.entry_enumerate_new (ah6 hB) ⟨hb,?_⟩;have hz:(s.heap.push o).objs.size=s.heap.objs.size+1:=Heap.size_push ..;have he:=Heap.get?_push_size (s.heap.push o) (o:={ cls:=.type "enumerate",data:=.fields #[.none,.bool false,.ref s.heap.objs.size,rawInt 0,.none,.none] }) rfl
 show _/\_;rw[hz]at he |-
 exact⟨⟨_,he,rfl⟩,h _ he (Heap.get?_push_of_some _ (Heap.get?_push_size _ hB.free)) λb u z=>Heap.get?_push_of_some _ (Heap.get?_push_of_some _ z)⟩
theorem anQ(hg:Gl X "enumerate")(hm:X.mg "enumerate"=none)(ha:PA X [a] ta)(hs:nst a=true):PI X (.Tuple elts kk tpos) (.Call (.Name "enumerate" p) [a] [] pos) (iEn X.K ta 0):=by refine⟨λpins s σ H R I h=>?_⟩;refine Call_ (ld_blt I hg hm boot_enumerate (PyProof.Rows.callWith_type1 (thn (ha.run pos pins s σ H _ I h) λus s1 ⟨vs,H1,I1,r1,x,S,us',ev,hx,hq,q⟩=>?_) (cP hs []) (by with_unfolding_all rfl)));subst ev;obtain⟨v,rfl,r⟩:=vals1 r1;obtain⟨o,B,hB,hb,hit,hlt⟩:=Src.begins I1 hq hx r;exact aeM hB hb λh' he ho hk=>aiq (x:=x) (v:=v) (us:=us') I1 hlt hit he ho hk q
theorem aeE{M:Model}{A:Around}{E:Value->Shared->Prop}{s:Shared}{pos:Pos}{T:String}{args:List (Bool×Sem Value)}{kws:List (Option Str×Sem Value)}{Q:Value->Shared->Prop}(h1:args.any (·.1)=false)(h2:kws.any (·.1.isNone)=false)
  (h:wpAny M A (evalArgs (.type T) true args kws) (λz s₁=>wpAny M A (call (.type T) z.pos z.kw) Q E s₁) E s):wpAny M A (callWith pos (.type T) [] args kws) Q E s:=by
 unfold callWith;refine au3 (wpAny_holding (wpAny_mono h (λz s₁ hz=>au3 (wpAny_standAt ?_)) λ_ _ y=>y));rw[h1,h2];refine au3 (au4 ?_);exact au3 (wpAny_mono hz (λr s₂ hr=>au3 (wpAny_holding (wpAny_point (au4 hr)))) λ_ _ y=>y)
theorem akS{k₀:Int}{j:Nat}{kp kp2:Pos}(hk0 : -(2^63)<=k₀)(hk1:k₀<2^63)(hg:Gl X "enumerate")(hm:X.mg "enumerate"=none)(ha:PA X [a] ta)(hs:nst a=true) :
  PI X (.Tuple elts kk tpos) (.Call (.Name "enumerate" p) [a] [⟨some "start",.Constant (.int k₀) j kp,kp2⟩] pos) (iEn X.K ta k₀):=by
 refine⟨λpins s σ H R I h=>?_⟩;have hpk:PK X [⟨some "start",.Constant (.int k₀) j kp,kp2⟩] (tCons (tC (.int k₀)) tNil):=pk_cons pe_int pk_nil
 refine wpAny_Call_Name_kw (ld_blt I hg hm boot_enumerate (aeE (star_any [a] (by simp[hs])) (by with_unfolding_all rfl) ?_));refine PyProof.Rows.evalArgs_kw2 (by with_unfolding_all rfl) (thn (ha.run pos pins s σ H _ I h) λus s1 ⟨vs,H1,I1,r1,x,S,us',ev,hx,hq,q⟩=>?_) (by first | (rw[cP hs];done) | (rw[cP hs];rfl) | rw[cP hs]);refine thn (hpk.run pos pins s1 σ H1 (λzs H2=>zs=[.int k₀]/\H2=H1) I1 ⟨rfl,rfl⟩) λws s2 ⟨zs,H2,I2,r2,e1,e2⟩=>?_;subst ev e1 e2;obtain⟨v,rfl,r⟩:=vals1 r1;obtain⟨w,rfl,t,rfl⟩:=vals1 r2;obtain⟨o,B,hB,hb,hit,hlt⟩:=Src.begins I2 hq hx r;exact enum_begins_start hB hb hk0 hk1 λh' he ho _ hk=>aiq (x:=x) (v:=v) (us:=us') I2 hlt hit he ho hk q
def ItZ(K:atw)(S T:Src):It:=
 ⟨λi H=>∃(us ws:List V) (x y:V),S.sq K H us/\T.sq K H ws/\us[i]?=some x/\ws[i]?=some y,λi H v H'=>∃U x y,v=.ref U/\H U=none/\H'=upd H U (.tup [x,y])/\(∀us,S.sq K H us->us[i]?=some x)/\∀ws,T.sq K H ws->ws[i]?=some y,
  λi H=>∃us ws:List V,S.sq K H us/\T.sq K H ws/\i=min us.length ws.length⟩
theorem anm{P:Program}{w:World}{K:atw}{S T:Src}{N:Addr}(h1:∀a∈S.ad,a<N)(h2:∀a∈T.ad,a<N) :
  Turn P w K (.Tuple elts kk tpos) (ItZ K S T) [N+4,N+2,N+3,N,N+1] (N+4) (λn h=>IsZip h (N+4) (N+2) (N+3) .none/\IsPair h (N+2) (.ref N) (.ref (N+1))/\(∃x y,IsPair h (N+3) x y)/\S.it h N n/\T.it h (N+1) n) where
 mem:=by simp
 obj:=λn h q c hc=>by
  obtain⟨gz,gI,⟨x,y,gO⟩,i1,i2⟩:=q;simp only[atO,auc,or_false]at hc;rcases hc with rfl|rfl|rfl|rfl|rfl
  .exact⟨_,gz,λv q=>nomatch q⟩
  .exact⟨_,gI,λv q=>nomatch q⟩
  .exact⟨_,gO,λv q=>nomatch q⟩
  .exact Src.Qp i1
  .exact Src.Qp i2
 keep:=λn h h' q k=>by
  obtain⟨gz,gI,⟨x,y,gO⟩,i1,i2⟩:=q;exact⟨k _ (by simp) _ gz,k _ (by simp) _ gI,⟨x,y,k _ (by simp) _ gO⟩,Src.Qg i1 λo e=>k _ (by simp) o e,Src.Qg i2 λo e=>k _ (by simp) o e⟩
 item:=by
  intro X hP hw hK hc n pins s σ H E I hf q hg;subst hP hw hK;obtain⟨gz,gI,⟨x0,y0,gO⟩,i1,i2⟩:=q;obtain⟨us,ws,x,y,qx,qy,hx,hy⟩:=hg;obtain⟨P1,St1,D1,st1,b1,rel1⟩:=Src.draws I (I.ok.hd hc) qx i1 λa z=>auf (h1 a z);obtain⟨P2,St2,D2,st2,b2,rel2⟩:=Src.draws I (I.ok.hd hc) qy i2 λa z=>auf (auD (h2 a z));have hzl:N+4<s.heap.objs.size:=Heap.lt_size gz;refine wpAny_pyNext_zipD2_item (zip_sep2 h1 h2) D1 D2 gz gI gO st1 st2 (aty.mp hx).1 (aty.mp hy).1 λv1 v2 h' tk p1 p2 z' o' s1 s2 hT hsz hk=>?_;refine⟨_,rfl,wpAny_letOwnedTupleGo_zip (s:={ s with heap:=h',toks:=tk }) z' λh'' z'' sb=>?_⟩;have hT2:=(sb.2 _ (Nat.ne_of_gt hzl)).trans hT;have new:ObjOk X.prog X.w (upd H s.heap.objs.size (.tup [x,y])) h'' s.heap.objs.size (.tup [x,y]):=⟨by show 2<=sizeLine;decide,[v1,v2],.cons (rel1 n v1 x p1 hx) (.cons (rel2 n v2 y p2 hy) .nil),⟨_,hT2,rfl,_,rfl⟩⟩;have I1:L2.Inv X pins σ (upd H s.heap.objs.size (.tup [x,y])) { s with heap:=h'',toks:=tk }:=by refine I.turnedNew (t':=tk) (ch:=[N+4,N+2,N+3,N,N+1]) (λc o hb e=>?_) hf (at6 _) new;simp only[atO,auc,or_false,not_or]at hb;exact(sb.2 c hb.1).trans (hk c o hb.1 hb.2.2.1 hb.2.2.2.1 hb.2.2.2.2 e)
  have ne4:∀k,k≠4->N+k≠N+4:=λk hk z=>hk (auY z);refine⟨.ref s.heap.objs.size,_,I1,rfl,⟨_,x,y,rfl,I.hok.fresh (at6 _),rfl,λl hl=>by rw[Src.inj I hl qx];exact hx,λl hl=>by rw[Src.inj I hl qy];exact hy⟩,⟨z'',?_,⟨v1,v2,?_⟩,?_,?_⟩,λc hcm=>?_⟩
  .exact(sb.2 _ (ne4 2 (by decide))).trans (hk _ _ (ne4 2 (by decide)) (λz=>absurd (auY z) (by decide)) (λz=>absurd (auY (z.trans (Nat.add_zero N).symm)) (by decide)) (λz=>absurd (auY z) (by decide)) gI)
  .exact(sb.2 _ (ne4 3 (by decide))).trans o'
  .exact Src.Qg (b1 _ _ s1) λo e=>(sb.2 _ (ne4 0 (by decide))).trans e
  .exact Src.Qg (b2 _ _ s2) λo e=>(sb.2 _ (ne4 1 (by decide))).trans e
  .have hlt:c<s.heap.objs.size:=by
    simp only[atO,auc,or_false]at hcm;rcases hcm with rfl|rfl|rfl|rfl|rfl
    .exact hzl
    .exact Heap.lt_size gI
    .exact Heap.lt_size gO
    .obtain⟨_,e1,_⟩:=Src.Qp i1;exact Heap.lt_size e1
    .obtain⟨_,e2,_⟩:=Src.Qp i2;exact Heap.lt_size e2
   rw[upd_ne (auf hlt)];exact(hf c hcm).1
 done:=by intro X hP hw hK hc n pins s σ H E I hf q hg;subst hP hw hK;obtain⟨gz,gI,⟨x0,y0,gO⟩,i1,i2⟩:=q;obtain⟨us,ws,qx,qy,hn⟩:=hg;obtain⟨P1,St1,D1,st1,b1,rel1⟩:=Src.draws I (I.ok.hd hc) qx i1 λa z=>auf (h1 a z);obtain⟨P2,St2,D2,st2,b2,rel2⟩:=Src.draws I (I.ok.hd hc) qy i2 λa z=>auf (auD (h2 a z));refine wpAny_pyNext_zipD2_end (zip_sep2 h1 h2) D1 D2 gz gI gO st1 st2 (by omega) (by omega) (by omega) λh' tk hk=>⟨rfl,?_⟩;refine I.turnedL (t':=tk) (ch:=[N+4,N+2,N+3,N,N+1]) (λc o hb e=>?_) hf;simp only[atO,auc,or_false,not_or]at hb;exact hk c o hb.1 hb.2.2.1 hb.2.2.2.1 hb.2.2.2.2 e
 self:=λA n s Q E q h=>wpAny_pyIter_zip q.1 h
def iZp(K:atw)(ta:TA):TI:=λσ H R=>ta σ H λvs H1=>∃x y S T us ws,vs=[x,y]/\srcOf x S/\srcOf y T/\S.sq K H1 us/\T.sq K H1 ws/\R (ItZ K S T) H1
theorem aom(hg:Gl X "zip")(hm:X.mg "zip"=none)(ha:PA X [a,b] ta)(hs:nst a=true)(hs2:nst b=true):PI X (.Tuple elts kk tpos) (.Call (.Name "zip" p) [a,b] [] pos) (iZp X.K ta):=by
 refine⟨λpins s σ H R I h=>?_⟩;refine Call_ (ld_blt I hg hm PyProof.Rows.boot_zip (PyProof.Rows.callWith_type1 (thn (ha.run pos pins s σ H _ I h) λus s1 ⟨vs,H1,I1,r1,x,y,S,T,us',ws',ev,hx,hy,hq,hq2,q⟩=>?_) (cP hs [b]) (star_any [b] (by simp[hs2]))));subst ev;obtain⟨v1,v2,rfl,rv1,rv2⟩:=vals2 r1;obtain⟨o1,B1,hB1,hb1,hit1,hlt1⟩:=Src.begins I1 hq hx rv1;obtain⟨o2,B2,hB2,hb2,hit2,hlt2⟩:=Src.begins I1 hq2 hy rv2;refine zip_begins2 hB1 hB2 hb1 hb2 λh' hz hTI hTO e1 e2 hsz hk=>wpAny_pyIter_zip hz ?_;have I2:L2.Inv X pins σ H1 { s1 with heap:=h' }:=I1.kept (t':=s1.toks) hk;refine⟨s1.heap.objs.size+4,_,_,_,H1,rfl,I2,anm hlt1 hlt2,⟨hz,hTI,⟨_,_,hTO⟩,hit1 _ _ e1,hit2 _ _ e2⟩,λc hcm=>?_,q⟩;have hle:s1.heap.objs.size<=c:=by simp only[atO,auc,or_false]at hcm;rcases hcm with rfl | rfl | rfl | rfl | rfl<;>first | exact at6 _ | exact Nat.le_add_right _ _
 exact I1.fpOk hle (I1.hok.fresh hle)
end
section
variable{K:atw}{ak:aX}{q:Bool}{g g':Gh}{H H':Hp}{v:V}{d:Dat}{σ:L2.St}{Z:Env}{M:Mo}
theorem j7.up{l:Addr}:∀{n:Bool} {kvs:List (Dat×Dat)} (r:Gr true g g' H H') (e:Ex H H') (k:Kd g H) (h:j7 K ak g H l n kvs),j7 K ak g' H' l n kvs
 |false,_,r,e,k,⟨kv,h1,h2,h3⟩=>⟨kv,e _ _ h1,h2,h3.gr r k⟩
 |true,_,r,e,k,⟨o,xs,vs,h1,h2,h3,h4,h5,h6⟩=>⟨o,xs,vs,e _ _ h1,h2,h3,h4.gr r k,h5,h6.gr r k⟩
theorem eU.up{h:Nat}{f:Str}(r:Gr true g g' H H')(e:Ex H H')(k:Kd g H):∀{fl:jN},eU K ak g H h f v fl->eU K ak g' H' h f v fl
 |.dat _,z=>Rep.gr r k z
 |.lst _ _,⟨l,us,h1,h2,h3,h4,h5⟩=>⟨l,us,h1,e _ _ h2,by rw[(r.qg rfl).2];exact h3,h4.gr r k,r.tb h5⟩
 |.dic _ _,⟨l,h1,h2,h3⟩=>⟨l,h1,by rw[(r.qg rfl).2];exact h2,h3.up r e k⟩
theorem cU.up{h:Nat}(r:Gr true g g' H H')(e:Ex H H')(k:Kd g H):∀{fs:List (Str×V)} {gs:List (Str×jN)},cU K ak g H h fs gs->cU K ak g' H' h fs gs
 |_,_,.nil=>.nil
 |_,_,.cons z t=>.cons (eU.up r e k z) (cU.up r e k t)
theorem gW.up(r:Gr true g g' H H')(e:Ex H H')(k:Kd g H)(w:gW K ak g H M):gW K ak g' H' M where
 len:=by rw[(r.qg rfl).1];exact w.len
 inj:=by rw[(r.qg rfl).1];exact w.inj
 ins:=λh a i ha hi hc=>by
  rw[(r.qg rfl).1]at ha;obtain⟨C,dx,fs,c1,c2,c3⟩:=w.ins h a i ha hi hc;exact⟨C,dx,fs,c1,e _ _ c2,c3.up r e k⟩
 nd:=w.nd
 fd:=w.fd
 tw:=by rw[(r.qg rfl).1,(r.qg rfl).2];exact w.tw
 dm:=w.dm
 nc:=w.nc
theorem SInv.up(r:Gr true g g' H H')(e:Ex H H')(k':Kd g' H')(I:SInv K ak σ H g Z M):SInv K ak σ H' g' Z M where
 kd:=k'
 wok:=I.wok.up r e I.kd
 len:=I.len
 dat:=λi d h=>by
  obtain⟨v,h1,h2⟩:=I.dat i d h;exact⟨v,h1,h2.gr r I.kd⟩
 own:=λi xs h=>by
  obtain⟨l,us,h1,h2,h3,h4⟩:=I.own i xs h;exact⟨l,us,h1,e _ _ h2,r.Lo l h3,h4.gr r I.kd⟩
 sep:=I.sep
def Gh.add(g:Gh)(D:Addr):Gh:={ g with Lo:=λa=>g.Lo a\/a=D }
theorem Gh.Fj{D:Addr}(n:H D=none)(e:Ex H H'):Gr true g (g.add D) H H' where
 keep:=λa o h _ _=>e a o h
 keepW:=λ_ a o h _=>e a o h
 dom:=FT e
 tbl:=⟨[],by simp[Gh.add]⟩
 W:=λ_ h=>h
 nW:=λ_ h=>.inl h
 qg:=λ_=>⟨rfl,rfl⟩
 Lc:=rfl
 Lo:=λ_ h=>.inl h
 nLo:=λa h=>h.elim .inl λz=>.inr (by rw[z];exact n)
theorem Gh.akE{D:Addr}{o:HO}(k:Kd g H)(n:H D=none)(e:Ex H H')(hD:H' D=some o)(m:KQ o):Kd (g.add D) H' where
 ob:=λa z=>by
  rcases z with z|z|z|z
  .obtain⟨o,h,m⟩:=k.ob a (.inl z);exact⟨o,e a o h,m⟩
  .obtain⟨o,h,m⟩:=k.ob a (.inr (.inl z));exact⟨o,e a o h,m⟩
  .obtain⟨o,h,m⟩:=k.ob a (.inr (.inr z));exact⟨o,e a o h,m⟩
  .rw[z];exact⟨o,hD,m⟩
 lo:=λa z=>by
  rcases z with z|z
  .exact k.lo a z
  .intro w;subst z;exact k.fresh n (.inl w)
 lc:=λa z=>⟨(k.lc a z).1,λy=>y.elim (k.lc a z).2 λy=>by subst y;exact k.fresh n (.inr (.inl z))⟩
theorem SInv.add{D:Addr}{o:HO}(I:SInv K ak σ H g Z M)(n:H D=none)(e:Ex H H')(hD:H' D=some o)(m:KQ o):SInv K ak σ H' (g.add D) Z M:=
 I.up (Gh.Fj n e) e (Gh.akE I.kd n e hD m)
theorem SInv.set{j:Nat}(I:SInv K ak σ H g Z M)(r:Rep K g H v d):SInv K ak (σ.set j (some v)) H g (Z.set j (some (.dat d))) M where
 kd:=I.kd
 wok:=I.wok
 len:=by rw[at8,at8];exact I.len
 dat:=λi e h=>by
  by_cases z:j=i
  .subst z;have hj:j<Z.length:=by
    have:=(aty.mp h).1;rw[at8]at this;exact this
   rw[atX hj]at h;cases h;exact⟨v,by rw[atX (by rw[I.len];exact hj)],r⟩
  .rw[atH z]at h;obtain⟨u,h1,h2⟩:=I.dat i e h;exact⟨u,by rw[atH z];exact h1,h2⟩
 own:=λi xs h=>by
  by_cases z:j=i
  .subst z;have hj:j<Z.length:=by
    have:=(aty.mp h).1;rw[at8]at this;exact this
   rw[atX hj]at h;cases h
  .rw[atH z]at h;obtain⟨l,us,h1,h2⟩:=I.own i xs h;exact⟨l,us,by rw[atH z];exact h1,h2⟩
 sep:=λi k xs ys l ne h1 h2 h3=>by
  have nj:∀{i:Nat} {xs:List Dat},(Z.set j (some (.dat d)))[i]?=some (some (.mut xs))->j≠i:=λ{i xs} h z=>by
   subst z;have hj:j<Z.length:=by have:=(aty.mp h).1;rw[at8]at this;exact this
   rw[atX hj]at h;cases h
  have n1:=nj h1;have n2:=nj h2;rw[atH n1]at h1 h3;rw[atH n2]at h2;rw[atH n2];exact I.sep i k xs ys l ne h1 h2 h3
theorem SInv.forget{j:Nat}(I:SInv K ak σ H g Z M):SInv K ak (σ.set j none) H g (Z.set j none) M where
 kd:=I.kd
 wok:=I.wok
 len:=by rw[at8,at8];exact I.len
 dat:=λi e h=>by
  by_cases z:j=i
  .subst z;have hj:j<Z.length:=by
    have:=(aty.mp h).1;rw[at8]at this;exact this
   rw[atX hj]at h;cases h
  .rw[atH z]at h |-
   exact I.dat i e h
 own:=λi xs h=>by
  by_cases z:j=i
  .subst z;have hj:j<Z.length:=by
    have:=(aty.mp h).1;rw[at8]at this;exact this
   rw[atX hj]at h;cases h
  .rw[atH z]at h |-
   exact I.own i xs h
 sep:=λi k xs ys l ne h1 h2 h3=>by
  have nj:∀{i:Nat} {xs:List Dat},(Z.set j none)[i]?=some (some (.mut xs))->j≠i:=λ{i xs} h z=>by
   subst z;have hj:j<Z.length:=by have:=(aty.mp h).1;rw[at8]at this;exact this
   rw[atX hj]at h;cases h
  have n1:=nj h1;have n2:=nj h2;rw[atH n1]at h1 h3;rw[atH n2]at h2;rw[atH n2];exact I.sep i k xs ys l ne h1 h2 h3
def bY(Z:Env):List Nat->Env
 |[]=>Z
 |j::js=>(bY Z js).set j none
theorem SInv.wipe(I:SInv K ak σ H g Z M):∀vs:List Nat,SInv K ak (L2.wipe σ vs) H g (bY Z vs) M
 |[]=>I
 |j::js=>(SInv.wipe I js).forget
end
abbrev gj:=Dat->Env->Option Env
def aF(j:Nat):gj:=λd Z=>some (Z.set j (some (.dat d)))
def uN:List Nat->List Dat->Env->Option Env
 |[],[],Z=>some Z
 |j::js,d::ds,Z=>uN js ds (Z.set j (some (.dat d)))
 |_,_,_=>none
def bB(js:List Nat):gj:=λd Z=>match d with
 |.tuple ds=>uN js ds Z
 |_=>none
def sets(σ:L2.St):List Nat->List V->L2.St
 |j::js,v::vs=>sets (σ.set j (some v)) js vs
 |_,_=>σ
def zA(K:atw)(ak:aX)(js:List Nat)(f:gj):TG:=λv σ H Q=>∃g Z M d Z',SInv K ak σ H g Z M/\Rep K g H v d/\f d Z=some Z'/\∀vs,SInv K ak (sets σ js vs) H g Z' M->Q (sets σ js vs) H
def QG(ak:aX)(X:Cx)(tg:Expr)(js:List Nat)(f:gj):Prop:=PG X tg (zA X.K ak js f)
theorem PG.weak{X:Cx}{e:Expr}{t t':TG}(h:PG X e t)(k:∀v σ H Q,t' v σ H Q->t v σ H Q):PG X e t':=⟨λpins s σ H v u Q I r q=>h.run pins s σ H v u Q I r (k v σ H Q q)⟩
section
variable{X:Cx}{ak:aX}{pos:Pos}
theorem V9{j:Nat}{x:Str}(hN:X.N.Nodup)(hi:X.N[j]?=some x)(hx:Loc X.env.scope x)(hf:X.fn x=true\/X.env.scope.names.lookup x=some .local):QG ak X (.Name x pos) [j] (aF j):=
 PG.weak (pg_name hN hi hx hf) λv σ H Q ⟨g,Z,M,d,Z',I,r,e,q⟩=>by
  cases e;exact q [v] (I.set r)
def TQ(X:Cx):List Expr->List Nat->Prop
 |[],[]=>True
 |.Name x _::es,j::js=>X.N[j]?=some x/\Loc X.env.scope x/\(X.fn x=true\/X.env.scope.names.lookup x=some .local)/\TQ X es js
 |_,_=>False
theorem agU{es:List Expr}{js:List Nat}(h:TQ X es js):(assignEach es X.env).length=js.length/\(assignEach es X.env).findIdx? (·.1)=none:=by
 induction es generalizing js with
 |nil=>
  cases js with
  |nil=>exact⟨by with_unfolding_all rfl,by with_unfolding_all rfl⟩
  |cons j js=>exact au0 h
 |cons e es ih=>
  cases js with
  |nil=>cases e<;>exact au0 h
  |cons j js=>
   cases e with
   |Name x p=>
    obtain⟨h1,h2⟩:=ih h.2.2.2;have e1:assignEach (.Name x p::es) X.env=(false,assign (.Name x p) X.env)::assignEach es X.env:=by with_unfolding_all rfl
    rw[e1];refine⟨by simp[h1],?_⟩;rw[List.findIdx?_cons,h2];rfl
   |_=>exact au0 h
def gNs(js:List Nat):TGs:=λvs σ H Q=>vs.length=js.length/\Q (sets σ js vs) H
theorem XF(hN:X.N.Nodup):∀{es:List Expr} {js:List Nat},TQ X es js->PGs X es (gNs js)
 |[],[],_=>⟨λpins s σ H vs us Q I r h=>by
  obtain⟨e,h⟩:=h;have:vs=[]:=List.length_eq_zero_iff.mp e;subst this;exact pgs_nil.run pins s σ H [] us Q I r ⟨rfl,h⟩⟩
 |.Name x p::es,j::js,h=>by
  have hp:=pgs_cons (pg_name (pos:=p) hN h.1 h.2.1 h.2.2.1) (XF hN h.2.2.2) (by with_unfolding_all rfl);refine⟨λpins s σ H vs us Q I r hq=>?_⟩;obtain⟨e,hq⟩:=hq;cases vs with
  |nil=>cases e
  |cons v vs=>exact hp.run pins s σ H (v::vs) us Q I r ⟨v,vs,rfl,auy e,hq⟩
 |[],_::_,h=>au0 h
 |.Name _ _::_,[],h=>au0 h
theorem J5{K:atw}{g:Gh}{H:Hp}{M:Mo}:∀{js:List Nat} {ds:List Dat} {vs:List V} {σ:L2.St} {Z Z':Env},SInv K ak σ H g Z M->aQ K g H vs ds->uN js ds Z=some Z'->vs.length=js.length/\SInv K ak (sets σ js vs) H g Z' M
 |[],_,_,_,_,_,I,.nil,e=>by cases e;exact⟨rfl,I⟩
 |[],_,_,_,_,_,I,.cons _ _,e=>by cases e
 |j::js,_,_,_,_,_,I,.nil,e=>by cases e
 |j::js,_,_,_,_,_,I,.cons r t,e=>by
  obtain⟨h1,h2⟩:=J5 (js:=js) (I.set (j:=j) r) t e;exact⟨by simp[h1],h2⟩
theorem afP{es:List Expr}{js:List Nat}{k:Nat}(hc:X.calm=true)(hN:X.N.Nodup)(h:TQ X es js):QG ak X (.Tuple es k pos) js (bB js):=by
 obtain⟨h1,h2⟩:=agU h;refine PG.weak (pg_tup (n:=js.length) hc (XF hN h) h1 h2) λv σ H Q ⟨g,Z,M,d,Z',I,r,e,q⟩=>?_;unfold bB at e;split at e
 .obtain⟨a,us,rfl,s1,t1⟩:=nJ r.weak;obtain⟨l1,I1⟩:=J5 I t1 e;exact⟨a,us,rfl,s1,l1,l1,q us I1⟩
 .cases e
theorem yP:∀(js:List Nat) (vs:List V) (σ:L2.St) (ws:List Nat),(∀j∈js,j∈ws)->L2.wipe (sets σ js vs) ws=L2.wipe σ ws
 |[],_,_,_,_=>by unfold sets;rfl
 |_::_,[],_,_,_=>by unfold sets;rfl
 |j::js,v::vs,σ,ws,h=>by
  show L2.wipe (sets (σ.set j (some v)) js vs) ws=_;rw[yP js vs _ ws λk hk=>h k (atA _ hk)];have hj:j∈ws:=h j atD;have key:∀(ws:List Nat) (σ:L2.St),j∈ws->L2.wipe (σ.set j (some v)) ws=L2.wipe σ ws:=by
   intro ws
   induction ws with
   |nil=>intro σ z;cases z
   |cons k ws ih=>
    intro σ z
    show(L2.wipe (σ.set j (some v)) ws).set k none=(L2.wipe σ ws).set k none
    by_cases hk:j∈ws
    .rw[ih σ hk]
    .have e:j=k:=by
      rcases atO.mp z with z|z
      .exact z
      .exact absurd z hk
     subst e;have comm:∀(ws:List Nat),j∉ws->L2.wipe (σ.set j (some v)) ws=(L2.wipe σ ws).set j (some v):=by
      intro ws
      induction ws with
      |nil=>intro _;rfl
      |cons m ws ih2=>
       intro hm
       show(L2.wipe (σ.set j (some v)) ws).set m none=((L2.wipe σ ws).set m none).set j (some v)
       rw[ih2 λz=>hm (atA _ z),List.set_comm _ _ (λz=>hm (by rw[z];exact atD))]
     rw[comm ws hk,List.set_set]
  exact key ws σ hj
end
structure Mr(K:atw)(J:It)(C:Gh->Hp->Prop)(ds:List Dat):Prop where
 go:∀g i H,C g H->i<ds.length->J.go i H
 yld:∀g i H x H' d,Kd g H->C g H->ds[i]?=some d->J.yld i H x H'->Ex H H'/\Rep K g H' x d
 stop:∀g i H,C g H->i=ds.length->J.stop i H
 ex:∀g H H',Kd g H->C g H->Ex H H'->C g H'
 add:∀g g' H H',Kd g H->C g H->Gr true g g' H H'->Ex H H'->C g' H'
def aee(C:Gh->Hp->Prop):Prop:=∀q g g' H H',Kd g H->C g H->Gr q g g' H H'->C g' H'
abbrev IF:=Mo->Env->Out (List Dat)
def tI(K:atw)(ak:aX)(W:WX)(firm:Bool)(f:IF):TI:=λσ H R=>∃g Z M,SInv K ak σ H g Z M/\(f M Z).sat (λds=>∀J C H',Ex H H'->Mr K J C ds->C g H'->(firm=true->aee C)->R J H') (sU K ak W g H σ)
def QI(ak:aX)(X:Cx)(W:WX)(firm:Bool)(tg e:Expr)(f:IF):Prop:=PI X tg e (tI X.K ak W firm f)
def aa0(x:Str):List Dat:=x.cps.toList.map λc=>.str ⟨#[c]⟩
def qT:Dat->Out (List Dat)
 |.list ds=>.ok ds
 |.tuple ds=>.ok ds
 |.str x=>.ok (aa0 x)
 |_=>.bad
def cR(a:QF):IF:=λM Z=>(a M Z).bind qT
def Src.cw(K:atw)(S:Src)(ds:List Dat)(g:Gh)(H:Hp):Prop:=∃us,S.sq K H us/\aQ K g H us ds
def Src.cf(K:atw)(S:Src)(ds:List Dat)(g:Gh)(H:Hp):Prop:=∃us,(match S with
 |.lst a=>S7 K g H a us
 |.tup a=>SqT K H a us
 |.str x=>us=chars x)/\aQ K g H us ds
section
variable{K:atw}{g g':Gh}{H H':Hp}{ds es:List Dat}{S T:Src}
theorem Src.anU{us:List V}(e:Ex H H')(h:S.sq K H us):S.sq K H' us:=by
 cases S with
 |lst a=>exact ex_l e h
 |tup a=>exact ex_t e h
 |str x=>exact h
theorem Src.aey(h:S.cf K ds g H):S.cw K ds g H:=by
 obtain⟨us,h1,h2⟩:=h;refine⟨us,?_,h2⟩;cases S with
 |lst a=>exact S7.sq h1
 |tup a=>exact h1
 |str x=>exact h1
theorem Src.wN:aee (S.cf K ds):=λq g g' H H' k ⟨us,h1,h2⟩ r=>by
 refine⟨us,?_,h2.gr r k⟩;cases S with
 |lst a=>exact r.ls h1
 |tup a=>exact r.sqT k h1
 |str x=>exact h1
theorem Src.Nu(k:Kd g H)(h:S.cw K ds g H)(r:Gr true g g' H H')(e:Ex H H'):S.cw K ds g' H':=by obtain⟨us,h1,h2⟩:=h;exact⟨us,Src.anU e h1,h2.gr r k⟩
theorem Src.Zr(k:Kd g H)(h:S.cw K ds g H)(e:Ex H H'):S.cw K ds g H':=Src.Nu k h (Gr.ex e) e
end
section
variable{K:atw}{ds es:List Dat}{S T:Src}
def ItS(K:atw):Src->It
 |.lst a=>Itl K a
 |.tup a=>Itt K a
 |.str x=>Its x
theorem Gn{g:Gh}{H:Hp}(x:Str):aQ K g H (chars x) (aa0 x):=by
 unfold chars aa0
 induction x.cps.toList with
 |nil=>exact .nil
 |cons c cs ih=>exact .cons (.str _) ih
theorem Mr.of{J:It}{C C':Gh->Hp->Prop}(w:Mr K J C ds)(h:∀g H,C' g H->C g H)(e:∀g H H',Kd g H->C' g H->Ex H H'->C' g H')(a:∀g g' H H',Kd g H->C' g H->Gr true g g' H H'->Ex H H'->C' g' H'):Mr K J C' ds where
 go:=λg i H c hi=>w.go g i H (h g H c) hi
 yld:=λg i H x H' d k c e y=>w.yld g i H x H' d k (h g H c) e y
 stop:=λg i H c e=>w.stop g i H (h g H c) e
 ex:=e
 add:=a
theorem ab9:Mr K (ItS K S) (S.cw K ds) ds where
 go:=λg i H ⟨us,h1,h2⟩ hi=>by
  have hx:us[i]?=some (us[i]'(by rw[h2.length];exact hi)):=atz _;cases S with
  |lst a=>exact⟨us,_,h1,hx⟩
  |tup a=>exact⟨us,_,h1,hx⟩
  |str x=>
   show i<x.cps.size;have:=h2.length;rw[show us=chars x from h1]at this;unfold chars at this;rw[atJ,auh]at this;omega
 yld:=λg i H x H' d k ⟨us,h1,h2⟩ e y=>by
  obtain⟨v,hv,rv⟩:=h2.get e;cases S with
  |lst a=>
   obtain⟨rfl,y⟩:=y;have:x=v:=atY ((y us h1).symm.trans hv);rw[this];exact⟨Ex.refl _,rv⟩
  |tup a=>
   obtain⟨rfl,y⟩:=y;have:x=v:=atY ((y us h1).symm.trans hv);rw[this];exact⟨Ex.refl _,rv⟩
  |str z=>
   obtain⟨rfl,c,hc,rfl⟩:=y;rw[show us=chars z from h1]at hv;unfold chars at hv;rw[atR,aut,hc]at hv;cases hv;exact⟨Ex.refl _,rv⟩
 stop:=λg i H ⟨us,h1,h2⟩ e=>by
  have hl:=h2.length;cases S with
  |lst a=>exact⟨us,h1,by omega⟩
  |tup a=>exact⟨us,h1,by omega⟩
  |str x=>
   show x.cps.size<=i;rw[show us=chars x from h1]at hl;unfold chars at hl;rw[atJ,auh]at hl;omega
 ex:=λg H H' k h e=>Src.Zr k h e
 add:=λg g' H H' k h r e=>Src.Nu k h r e
def pJ(k₀:Int)(ds:List Dat):List Dat:=ds.mapIdx λi d=>.tuple [.int (k₀+(i:Int)),d]
theorem ahj{k₀:Int}:Mr K (ItE K S k₀) (S.cw K ds) (pJ k₀ ds) where
 go:=λg i H ⟨us,h1,h2⟩ hi=>by
  have hl:i<us.length:=by rw[h2.length];unfold pJ at hi;rw[List.length_mapIdx]at hi;exact hi
  exact⟨us,us[i],h1,atz hl⟩
 yld:=λg i H x H' d k ⟨us,h1,h2⟩ e y=>by
  unfold pJ at e;rw[aup]at e;cases hd:ds[i]? with
  |none=>rw[hd]at e;cases e
  |some d0=>
   rw[hd]at e;cases e;obtain⟨v,hv,rv⟩:=h2.get hd;obtain⟨T,x0,rfl,nT,rfl,y⟩:=y;have:x0=v:=atY ((y us h1).symm.trans hv);subst this;exact⟨Ex.new nT,.tup (st_of au7) (.cons (.int _) (.cons (rv.ex (Ex.new nT) k) .nil))⟩
 stop:=λg i H ⟨us,h1,h2⟩ e=>by
  unfold pJ at e;rw[List.length_mapIdx,<-h2.length]at e;exact⟨us,h1,e.symm⟩
 ex:=λg H H' k h e=>Src.Zr k h e
 add:=λg g' H H' k h r e=>Src.Nu k h r e
def yX(ds es:List Dat):List Dat:=List.zipWith (λd e=>.tuple [d,e]) ds es
theorem acr:Mr K (ItZ K S T) (λg H=>S.cw K ds g H/\T.cw K es g H) (yX ds es) where
 go:=λg i H ⟨⟨us,h1,h2⟩,⟨ws,h3,h4⟩⟩ hi=>by
  unfold yX at hi;rw[List.length_zipWith,<-h2.length,<-h4.length]at hi;exact⟨us,ws,us[i],ws[i],h1,h3,atz (by omega),atz (by omega)⟩
 yld:=λg i H x H' d k ⟨⟨us,h1,h2⟩,⟨ws,h3,h4⟩⟩ e y=>by
  unfold yX at e;rw[List.getElem?_zipWith]at e;cases hd:ds[i]? with
  |none=>rw[hd]at e;cases e
  |some d0=>
   cases he:es[i]? with
   |none=>rw[hd,he]at e;cases e
   |some e0=>
    rw[hd,he]at e;cases e;obtain⟨v,hv,rv⟩:=h2.get hd;obtain⟨u,hu,ru⟩:=h4.get he;obtain⟨U,x0,y0,rfl,nU,rfl,y1,y2⟩:=y;have:x0=v:=atY ((y1 us h1).symm.trans hv);subst this;have:y0=u:=atY ((y2 ws h3).symm.trans hu);subst this;exact⟨Ex.new nU,.tup (st_of au7) (.cons (rv.ex (Ex.new nU) k) (.cons (ru.ex (Ex.new nU) k) .nil))⟩
 stop:=λg i H ⟨⟨us,h1,h2⟩,⟨ws,h3,h4⟩⟩ e=>by
  unfold yX at e;rw[List.length_zipWith,<-h2.length,<-h4.length]at e;exact⟨us,ws,h1,h3,e⟩
 ex:=λg H H' k h e=>⟨Src.Zr k h.1 e,Src.Zr k h.2 e⟩
 add:=λg g' H H' k h r e=>⟨Src.Nu k h.1 r e,Src.Nu k h.2 r e⟩
def jR(lo:Int)(n:Nat):List Dat:=(List.range n).map λ(i:Nat)=>.int (lo+(i:Int))
theorem XM{lo:Int}{n:Nat}:Mr K (Itr lo n) (λ_ _=>True) (jR lo n) where
 go:=λg i H _ hi=>by
  unfold jR at hi;rw[atJ,List.length_range]at hi;exact hi
 yld:=λg i H x H' d k _ e y=>by
  obtain⟨rfl,rfl⟩:=y;unfold jR at e;rw[atR]at e;cases hr:(List.range n)[i]? with
  |none=>rw[hr]at e;cases e
  |some j=>
   rw[hr]at e;cases e;have:j=i:=by obtain⟨h1,h2⟩:=aty.mp hr;rw[List.getElem_range]at h2;exact h2.symm
   subst this;exact⟨Ex.refl _,.int _⟩
 stop:=λg i H _ e=>by
  unfold jR at e;rw[atJ,List.length_range]at e;show n<=i;omega
 ex:=λ_ _ _ _ _ _=>trivial
 add:=λ_ _ _ _ _ _ _ _=>trivial
end
section
variable{X:Cx}{ak:aX}{W:WX}{tg a b:Expr}{fa fb:QF}{pos p tpos:Pos}{elts:List Expr}{kk:Nat}
theorem PB{K:atw}{g:Gh}{H:Hp}{v:V}{d:Dat}{ds:List Dat}{firm:Bool}(r:if firm=true then Rep K g H v d else eZ K g H v d)(h:qT d=.ok ds):∃S,srcOf v S/\S.cw K ds g H/\(firm=true->S.cf K ds g H):=by
 have rw:eZ K g H v d:=by
  cases firm with
  |true=>exact Rep.weak r
  |false=>exact r
 cases d with
 |list es=>
  cases h;obtain⟨l,us,rfl,h1,h2⟩:=jG rw;refine⟨.lst l,.inl ⟨l,rfl,rfl,.inl rfl⟩,⟨us,h1,h2⟩,λz=>?_⟩;subst z;have r:Rep K g H (.ref l) (.list ds):=r;cases r with
  |lst h3 h4=>exact⟨_,h3,h4⟩
 |tuple es=>
  cases h;obtain⟨l,us,rfl,h1,h2⟩:=nJ rw;exact⟨.tup l,.inl ⟨l,rfl,rfl,.inr rfl⟩,⟨us,h1,h2⟩,λ_=>⟨us,h1,h2⟩⟩
 |str x=>
  cases h;cases lE rw;exact⟨.str x,.inr ⟨x,rfl,rfl⟩,⟨_,rfl,Gn x⟩,λ_=>⟨_,rfl,Gn x⟩⟩
 |_=>cases h
def tF(K:atw)(ak:aX)(W:WX)(firm:Bool)(f:QF):TE:=if firm=true then tQ K ak W f else tW K ak W f
def QF'(ak:aX)(X:Cx)(W:WX)(firm:Bool)(e:Expr)(f:QF):Prop:=PE X e (tF X.K ak W firm f)
theorem tF.go{K:atw}{firm:Bool}{g:Gh}{H:Hp}{σ:L2.St}{Z:Env}{M:Mo}{f:QF}{k:Dat->Prop}{Q:VK}(I:SInv K ak σ H g Z M)(h:(f M Z).sat k (sU K ak W g H σ))(hk:∀d v H',k d->Ex H H'->(if firm=true then Rep K g H' v d else eZ K g H' v d)->Q v H'):tF K ak W firm f σ H Q:=by
 cases firm with
 |true=>exact tQ.go I h hk
 |false=>exact tW.go I h hk
theorem anp{K:atw}{firm:Bool}{g:Gh}{H H':Hp}{v:V}{d:Dat}(e:Ex H H')(k:Kd g H)(r:if firm=true then Rep K g H v d else eZ K g H v d):if firm=true then Rep K g H' v d else eZ K g H' v d:=by
 cases firm with
 |true=>exact Rep.ex e k r
 |false=>exact eZ.ex e k r
theorem wf{K:atw}{S:Src}{firm:Bool}{J:It}{ds es:List Dat}{R:It->Hp->Prop}{g:Gh}{H H1:Hp}(h:∀J C H',Ex H H'->Mr K J C ds->C g H'->(firm=true->aee C)->R J H')(e1:Ex H H1)(w:Mr K J (S.cw K es) ds)(hw:S.cw K es g H1)(hf:firm=true->S.cf K es g H1):R J H1:=by
 cases firm with
 |true=>exact h J (S.cf K es) H1 e1 (w.of (λ_ _ z=>Src.aey z) (λg H H' k c e=>Src.wN true g g H H' k c (Gr.ex e)) λg g' H H' k c r e=>Src.wN true g g' H H' k c r) (hf rfl) λ_=>Src.wN
 |false=>exact h J (S.cw K es) H1 e1 w hw λz=>nomatch z
theorem abr{firm:Bool}(ha:QF' ak X W firm a fa):QI ak X W firm tg a (cR fa):=by
 refine⟨λpins s σ H R I h=>?_⟩;obtain⟨g,Z,M,SI,hs⟩:=h;have hs:=hs.bnd;have fin:∀(S:Src) (x:V) (H1:Hp) (ds:List Dat),(∀J C H',Ex H H'->Mr X.K J C ds->C g H'->(firm=true->aee C)->R J H')->Ex H H1->S.cw X.K ds g H1->(firm=true->S.cf X.K ds g H1)->R (ItS X.K S) H1:=λS x H1 ds h e1 hw hf=>wf h e1 ab9 hw hf;cases hfa:fa M Z with
 |bad=>rw[hfa]at hs;exact au0 hs
 |exc x=>
  rw[hfa]at hs;exact(pi_list ha).run pins s σ H R I (tF.go (k:=λ_=>False) SI (by rw[hfa];exact hs) λd v H' z=>au0 z)
 |ok d=>
  rw[hfa]at hs;cases d with
  |list ds=>
   refine(pi_list ha).run pins s σ H R I (tF.go (k:=λz=>z=.list ds) SI (by rw[hfa];rfl) λd v H' z e1 r=>?_);subst z;obtain⟨S,hS,hw,hf⟩:=PB (firm:=firm) r (ds:=ds) rfl;have rw:eZ X.K g H' v (.list ds):=by
    cases firm with
    |true=>exact Rep.weak r
    |false=>exact r
   obtain⟨l,us,rfl,h1,h2⟩:=jG rw;refine⟨l,rfl,⟨us,h1⟩,?_⟩;rcases hS with⟨a',e,ha',hl|ht⟩|⟨y,_,e⟩
   .cases e;subst hl;exact fin (.lst l) (.ref l) H' ds hs e1 hw hf
   .cases e;subst ht;refine wf (S:=.lst l) hs e1 (ab9 (S:=.lst l)) ⟨us,h1,h2⟩ λz=>?_;subst z;have r:Rep X.K g H' (.ref l) (.list ds):=r;cases r with
    |lst h3 h4=>exact⟨_,h3,h4⟩
   .cases e
  |tuple ds=>
   refine(pi_tup ha).run pins s σ H R I (tF.go (k:=λz=>z=.tuple ds) SI (by rw[hfa];rfl) λd v H' z e1 r=>?_);subst z;have rw:eZ X.K g H' v (.tuple ds):=by
    cases firm with
    |true=>exact Rep.weak r
    |false=>exact r
   obtain⟨l,us,rfl,h1,h2⟩:=nJ rw;exact⟨l,rfl,⟨us,h1⟩,fin (.tup l) (.ref l) H' ds hs e1 ⟨us,h1,h2⟩ λ_=>⟨us,h1,h2⟩⟩
  |str x=>
   refine(pi_str ha).run pins s σ H R I (tF.go (k:=λz=>z=.str x) SI (by rw[hfa];rfl) λd v H' z e1 r=>?_);subst z;have rw:eZ X.K g H' v (.str x):=by
    cases firm with
    |true=>exact Rep.weak r
    |false=>exact r
   cases lE rw;exact⟨x,rfl,fin (.str x) (.str x) H' _ hs e1 ⟨_,rfl,Gn x⟩ λ_=>⟨_,rfl,Gn x⟩⟩
  |_=>exact au0 hs
def Ea(a:QF):IF:=λM Z=>(a M Z).bind λd=>(Dc d).bind λn=>Out.when (decide (n<=100000/\-100000<=n)) (.ok (jR 0 n.toNat))
def Es(a b:QF):IF:=λM Z=>(a M Z).bind λd=>(b M Z).bind λe=>(Dc d).bind λlo=>(Dc e).bind λn=>Out.when (decide (n<=100000/\-100000<=n/\lo<=100000/\-100000<=lo)) (.ok (jR lo (n-lo).toNat))
def yh(k₀:Int)(a:QF):IF:=λM Z=>(a M Z).bind λd=>(qT d).bind λds=>.ok (pJ k₀ ds)
def Gm(a b:QF):IF:=λM Z=>(a M Z).bind λd=>(b M Z).bind λe=>(qT d).bind λds=>(qT e).bind λes=>.ok (yX ds es)
theorem afl{firm:Bool}(hg:Gl X "range")(hm:X.mg "range"=none)(ha:QW ak X W a fa)(hs:nst a=true):QI ak X W firm tg (.Call (.Name "range" p) [a] [] pos) (Ea fa):=by
 refine⟨λpins s σ H R I h=>?_⟩;refine(pi_range1 hg hm (pa_cons ha pa_nil (cP hs [])) (cP hs [])).run pins s σ H R I ?_;obtain⟨g,Z,M,SI,h⟩:=h;refine tW.go SI h.bnd λd v H1 h1 e1 r1=>?_;have h1:=h1.bnd;unfold Dc at h1;split at h1
 .obtain⟨hz,h1⟩:=h1.rC;have hz:=au2 hz;cases cM r1;exact⟨_,rfl,by omega,by omega,h1 _ _ H1 e1 XM trivial λ_=>λ_ _ _ _ _ _ _ _=>trivial⟩
 .exact au0 h1
theorem aeN{firm:Bool}(hg:Gl X "range")(hm:X.mg "range"=none)(ha:QW ak X W a fa)(hb:QW ak X W b fb)(hs:nst a=true)(hs2:nst b=true):QI ak X W firm tg (.Call (.Name "range" p) [a,b] [] pos) (Es fa fb):=by
 refine⟨λpins s σ H R I h=>?_⟩;refine(pi_range2 hg hm (pa_cons ha (pa_cons hb pa_nil (cP hs2 [])) (cP hs [b])) (by rw[cP hs,cP hs2];rfl) (cP hs2 [])).run pins s σ H R I ?_;obtain⟨g,Z,M,SI,h⟩:=h;refine tW.go SI h.bnd λd v H1 h1 e1 r1=>?_;refine tW.go (SI.ex e1) (h1.bnd.mono (λ_ z=>z) λ_ z=>z.ex e1) λd2 v2 H2 h2 e2 r2=>?_;have h2:=h2.bnd;unfold Dc at h2;split at h2
 .have h2:=Out.sat.bnd h2;split at h2
  .obtain⟨hz,h2⟩:=Out.sat.rC h2;have hz:=au2 hz;cases cM r1;cases cM r2;exact⟨_,_,rfl,⟨by omega,by omega,by omega,by omega⟩,h2 _ _ H2 (e1.trans e2) XM trivial λ_=>λ_ _ _ _ _ _ _ _=>trivial⟩
  .exact au0 h2
 .exact au0 h2
theorem aiy{firm:Bool}{k₀:Int}(σ:L2.St)(H:Hp)(R:It->Hp->Prop)(h:tI X.K ak W firm (yh k₀ fa) σ H R):iEn X.K (tCons (tF X.K ak W firm fa) tNil) k₀ σ H R:=by
 obtain⟨g,Z,M,SI,h⟩:=h;refine tF.go SI h.bnd λd v H1 h1 e1 r1=>?_;cases hd:qT d with
 |bad=>rw[hd]at h1;exact au0 h1
 |exc x=>cases d<;>cases hd
 |ok ds=>
  rw[hd]at h1;obtain⟨S,hS,hw,hf⟩:=PB r1 hd;exact⟨v,S,_,rfl,hS,hw.choose_spec.1,wf h1 e1 ahj hw hf⟩
theorem aiM{firm:Bool}(hg:Gl X "enumerate")(hm:X.mg "enumerate"=none)(ha:QF' ak X W firm a fa)(hs:nst a=true):QI ak X W firm (.Tuple elts kk tpos) (.Call (.Name "enumerate" p) [a] [] pos) (yh 0 fa):=
 ⟨λpins s σ H R I h=>(anQ hg hm (pa_cons ha pa_nil (cP hs [])) hs).run pins s σ H R I (aiy σ H R h)⟩
theorem ahg{firm:Bool}{k₀:Int}{j:Nat}{kp kp2:Pos}(hk0 : -(2^63)<=k₀)(hk1:k₀<2^63)(hg:Gl X "enumerate")(hm:X.mg "enumerate"=none)(ha:QF' ak X W firm a fa)(hs:nst a=true):QI ak X W firm (.Tuple elts kk tpos) (.Call (.Name "enumerate" p) [a] [⟨some "start",.Constant (.int k₀) j kp,kp2⟩] pos) (yh k₀ fa):=
 ⟨λpins s σ H R I h=>(akS hk0 hk1 hg hm (pa_cons ha pa_nil (cP hs [])) hs).run pins s σ H R I (aiy σ H R h)⟩
theorem amZ{firm:Bool}(hg:Gl X "zip")(hm:X.mg "zip"=none)(ha:QF' ak X W firm a fa)(hb:QF' ak X W firm b fb)(hs:nst a=true)(hs2:nst b=true):QI ak X W firm (.Tuple elts kk tpos) (.Call (.Name "zip" p) [a,b] [] pos) (Gm fa fb):=by
 refine⟨λpins s σ H R I h=>(aom hg hm (pa_cons ha (pa_cons hb pa_nil (cP hs2 [])) (cP hs [b])) hs hs2).run pins s σ H R I ?_⟩;obtain⟨g,Z,M,SI,h⟩:=h;refine tF.go SI h.bnd λd v H1 h1 e1 r1=>?_;refine tF.go (SI.ex e1) (h1.bnd.mono (λ_ z=>z) λ_ z=>z.ex e1) λd2 v2 H2 h2 e2 r2=>?_;cases hd:qT d with
 |bad=>rw[hd]at h2;exact au0 h2
 |exc x=>cases d<;>cases hd
 |ok ds=>
  cases he:qT d2 with
  |bad=>rw[hd,he]at h2;exact au0 h2
  |exc x=>cases d2<;>cases he
  |ok es=>
   rw[hd,he]at h2;obtain⟨S,hS,hw,hf⟩:=PB (anp e2 (SI.ex e1).kd r1) hd;obtain⟨T,hT,hw2,hf2⟩:=PB r2 he;refine⟨v,v2,S,T,_,_,rfl,hS,hT,hw.choose_spec.1,hw2.choose_spec.1,?_⟩;cases firm with
   |true=>exact h2 _ (λg H=>S.cf X.K ds g H/\T.cf X.K es g H) H2 (e1.trans e2) (acr.of (λ_ _ z=>⟨Src.aey z.1,Src.aey z.2⟩) (λg H H' k c e=>⟨Src.wN true g g H H' k c.1 (Gr.ex e),Src.wN true g g H H' k c.2 (Gr.ex e)⟩) λg g' H H' k c r e=>⟨Src.wN true g g' H H' k c.1 r,Src.wN true g g' H H' k c.2 r⟩) ⟨hf rfl,hf2 rfl⟩ λ_=>λq g g' H H' k c r=>⟨Src.wN q g g' H H' k c.1 r,Src.wN q g g' H H' k c.2 r⟩
   |false=>exact h2 _ _ H2 (e1.trans e2) acr ⟨hw,hw2⟩ λz=>nomatch z
end
def WF:WX:=λ_ _ _ _=>False
def zJ{α:Type}:Out α->Out α
 |.ok a=>.ok a
 |_=>.bad
@[simp]theorem abl {α:Type} (a:α):zJ (.ok a)=.ok a:=rfl
theorem yO{α:Type}{o:Out α}{P:α->Prop}{E E':eX->Prop}(h:(zJ o).sat P E):o.sat P E':=by
 cases o
 .exact h
 .exact au0 h
 .exact h
def cX(tg:gj)(tt:QT)(te:QF)(M:Mo)(Z:Env):List Dat->Out (List Dat)
 |[]=>.ok []
 |d::ds=>match tg d Z with
  |none=>.bad
  |some Z1=>(zJ (tt M Z1)).bind λb=>if b=true then(zJ (te M Z1)).bind λy=>(cX tg tt te M Z ds).bind λr=>.ok (y::r) else cX tg tt te M Z ds
def fu(it:IF)(tg:gj)(vs:List Nat)(tt:QT)(te:QF):QF:=λM Z=>(it M Z).bind λds=>Out.when (decide (ds.length<=50000)) ((cX tg tt te M (bY Z vs) ds).bind λr=>.ok (.list r))
def iT:QT:=λ_ _=>.ok true
def tFr(K:atw)(ak:aX)(W:WX)(f:IF):TE:=λσ H Q=>∃g Z M,SInv K ak σ H g Z M/\(f M Z).sat (λxs=>∀l us H',H l=none->Ex H H'->H' l=some (.lst us)->aQ K (g.add l) H' us xs->Q (.ref l) H') (sU K ak W g H σ)
def zj(it:IF)(tg:gj)(vs:List Nat)(tt:QT)(te:QF):IF:=λM Z=>(it M Z).bind λds=>Out.when (decide (ds.length<=50000)) (cX tg tt te M (bY Z vs) ds)
section
variable{K:atw}{ak:aX}{W:WX}
theorem abh{g:Gh}{H:Hp}{D:Addr}{o o':HO}{vs:List V}{ds:List Dat}(k:Kd g H)(h:H D=some o)(l:g.Lo D)(r:aQ K g H vs ds):aQ K g (upd H D o') vs ds:=r.gr (Gr.upd (q:=true) k h (.inr l)) k
theorem ajy{g:Gh}{H:Hp}{D:Addr}{o o':HO}{v:V}{d:Dat}(k:Kd g H)(h:H D=some o)(l:g.Lo D)(r:Rep K g H v d):Rep K g (upd H D o') v d:=r.gr (Gr.upd (q:=true) k h (.inr l)) k
theorem oM{tg:gj}{tt:QT}{te:QF}{M:Mo}{Z:Env}:∀{ds:List Dat} {x:eX},cX tg tt te M Z ds≠.exc x
 |[],_,h=>nomatch h
 |d::ds,x,h=>by
  rw[cX]at h;split at h
  .cases h
  .next Z1 e=>
   cases h1:tt M Z1 with
   |bad=>rw[h1]at h;cases h
   |exc y=>rw[h1]at h;cases h
   |ok b=>
    rw[h1]at h;cases b with
    |false=>exact oM h
    |true=>
     have h:((zJ (te M Z1)).bind λy=>(cX tg tt te M Z ds).bind λr=>Out.ok (y::r))=.exc x:=h;cases h2:te M Z1 with
     |bad=>rw[h2]at h;cases h
     |exc y=>rw[h2]at h;cases h
     |ok y=>
      rw[h2]at h;cases h3:cX tg tt te M Z ds with
      |bad=>rw[h3]at h;cases h
      |exc z=>exact oM h3
      |ok r=>rw[h3]at h;cases h
theorem SJ(σ:L2.St)(i:Nat):∀vs:List Nat,(L2.wipe σ vs)[i]?=if i∈vs then(σ[i]?).map (λ_=>none) else σ[i]?
 |[]=>by simp[L2.wipe]
 |v::vs=>by
  show((L2.wipe σ vs).set v none)[i]?=_
  by_cases h:v=i
  .subst h;by_cases hl:v<σ.length
   .rw[atX (by rw[wipe_length];exact hl),au5 atD,atz hl];rfl
   .have h1:σ[v]?=none:=List.getElem?_eq_none_iff.mpr (by omega);rw[au5 atD,h1,List.getElem?_eq_none_iff.mpr (by rw[at8,wipe_length];omega)];rfl
  .rw[atH h,SJ σ i vs];have:i∈v::vs↔i∈vs:=⟨λz=>by
    rcases atO.mp z with z|z
    .exact absurd z.symm h
    .exact z,atA _⟩
   simp only[this]
theorem Cq(σ:L2.St)(vs:List Nat):L2.wipe (L2.wipe σ vs) vs=L2.wipe σ vs:=by
 apply at9;intro i;rw[SJ (L2.wipe σ vs) i vs,SJ σ i vs];split
 .cases σ[i]?<;>rfl
 .rfl
theorem aaj{it:IF}{tg:gj}{js vs:List Nat}{tt:QT}{te:QF}(hj:∀j∈js,j∈vs)(σ:L2.St)(H:Hp)(Q:VK)(h:tFr K ak W (zj it tg vs tt te) σ H Q) :
  tLc (tI K ak W false it) (zA K ak js tg) (jV K ak WF tt) (tQ K ak WF te) vs σ H Q:=by
 obtain⟨g,Z,M,I,h⟩:=h;refine⟨g,Z,M,I,h.bnd.mono (λds hk J C H1 e1 w c _ D nD=>?_) λ_ z=>z⟩;obtain⟨hz,hk⟩:=hk.rC;have hlen:=au2 hz;obtain⟨total,htot,hQ⟩:∃total,cX tg tt te M (bY Z vs) ds=.ok total/\∀l us H',H l=none->Ex H H'->H' l=some (.lst us)->aQ K (g.add l) H' us total->Q (.ref l) H':=by
  cases hc:cX tg tt te M (bY Z vs) ds with
  |bad=>rw[hc]at hk;exact au0 hk
  |exc x=>exact absurd hc oM
  |ok total=>
   rw[hc]at hk;exact⟨total,rfl,hk⟩
 have I1:=(I.ex e1).wipe vs;have kD:∀{Ha:Hp} {us:List V},Ex H1 Ha->Ha D=some (.lst us)->SInv K ak (L2.wipe σ vs) Ha (g.add D) (bY Z vs) M:=λea hu=>I1.add nD ea hu trivial
 let Pv:Nat->Hp->Prop:=λi Ha=>Ex H1 Ha/\i<=ds.length/\∃us ys,Ha D=some (.lst us)/\aQ K (g.add D) Ha us ys/\ys.length<=i/\(cX tg tt te M (bY Z vs) (ds.drop i)).sat (λr=>total=ys++r) λ_=>False
 refine⟨λi m Ha=>m=ds.length-i/\Pv i Ha,⟨ds.length,rfl,Ex.new nD,auo _,[],[],au7,.nil,at6 _,?_⟩,?_⟩
 .rw[auT,htot];rfl
 .rintro i m Ha ⟨rfl,ea,hi,us,ys,hu,hU,hy,hs⟩;have Ia:=kD ea hu;have Ca:=w.add g (g.add D) H1 Ha (I.kd.ex e1) c (Gh.Fj nD ea) ea;by_cases hlt:i<ds.length
  .refine .inr ⟨w.go _ i Ha Ca hlt,Pv (i+1),λH' p=>⟨ds.length-(i+1),by omega,rfl,p⟩,λx H' y=>?_⟩;have hd:ds[i]?=some ds[i]:=atz hlt;obtain⟨e2,rx⟩:=w.yld _ i Ha x H' _ Ia.kd Ca hd y;have I2:=Ia.ex e2;rw[aus hlt,cX]at hs;split at hs
   .exact au0 hs
   .next Z1 he=>
    refine⟨g.add D,_,M,_,Z1,I2,rx,he,λws I3=>⟨yP js ws _ vs hj |>.trans (Cq σ vs),?_⟩⟩;refine jV.go I3 (yO hs.bnd) λb H3 hb e3=>?_;have I4:=I3.ex e3;have hu3:=e3 _ _ (e2 _ _ hu);have hU3:=(hU.ex e2 Ia.kd).ex e3 I2.kd;cases b with
    |false=>
     have hb:(cX tg tt te M (bY Z vs) (ds.drop (i+1))).sat (λr=>total=ys++r) λ_=>False:=hb;exact⟨(ea.trans e2).trans e3,hlt,us,ys,hu3,hU3,Nat.le_succ_of_le hy,hb⟩
    |true=>
     have hb:((zJ (te M Z1)).bind λy=>(cX tg tt te M (bY Z vs) (ds.drop (i+1))).bind λr=>Out.ok (y::r)).sat (λr=>total=ys++r) λ_=>False:=hb;refine tQ.go I4 (yO hb.bnd) λy v H4 hyv e4 ry=>?_;have I5:=I4.ex e4;have hu4:=e4 _ _ hu3;have hU4:=hU3.ex e4 I4.kd;have lD:(g.add D).Lo D:=.inr rfl;refine⟨us,hu4,sz_lt (by rw[hU.length];omega),Ex.mut (((ea.trans e2).trans e3).trans e4) nD,hlt,us++[v],ys++[y],au7,?_,by simp;omega,hyv.bnd.mono (λr hr=>?_) λ_ z=>z⟩
     .exact abh I5.kd hu4 lD (hU4.append (.cons ry .nil))
     .have hr:total=ys++y::r:=hr;rw[hr];simp
  .have e:i=ds.length:=by omega
   refine .inl ⟨w.stop _ i Ha Ca e,?_⟩;rw[e,auz]at hs;have hs:total=ys++[]:=hs;rw[aur]at hs;subst hs;exact hQ D us Ha (FT e1 D nD) (e1.trans ea) hu hU
theorem aiE{it:IF}{tg:gj}{js vs:List Nat}{tt:QT}{te:QF}(hj:∀j∈js,j∈vs)(σ:L2.St)(H:Hp)(Q:VK)(h:tQ K ak W (fu it tg vs tt te) σ H Q) :
  tLc (tI K ak W false it) (zA K ak js tg) (jV K ak WF tt) (tQ K ak WF te) vs σ H Q:=by
 obtain⟨g,Z,M,I,h⟩:=h;refine aaj hj σ H Q ⟨g,Z,M,I,?_⟩;unfold zj;unfold fu at h;cases hi:it M Z with
 |bad=>rw[hi]at h;exact au0 h
 |exc x=>rw[hi]at h;exact h
 |ok ds=>
  rw[hi]at h;obtain⟨hz,h⟩:=Out.sat.rC h;have h:=h.bnd
  show(Out.when (decide (ds.length<=50000)) (cX tg tt te M (bY Z vs) ds)).sat _ _
  rw[hz,Out.X4];exact h.mono (λxs z l us H' n e hl r=>z _ H' e (.lst (.inl ⟨.inl hl,I.kd.fresh n⟩) (aQ.less (g:=g.add l) (g':=g) rfl (λa z=>z.elim .inl λz=>.inr (z.elim .inl λz=>.inr (.inl z))) r))) λ_ z=>z
end
section
variable{X:Cx}{ak:aX}{W:WX}{elt tg iter:Expr}{pos p tpos:Pos}
theorem akC{X:Cx}:Takes X WF:=λu s' ⟨a,B,sI,pins,σ,H,cls,d,e,I,nb,up,sky,na,os,ag,w⟩=>au0 w
theorem anC{scope:Scope}{own:List (Str×Nat)}{it:IF}{tgf:gj}{js:List Nat}{tt:QT}{te:QF}{ifs:List Expr}(hc:X.calm=true)(hN:X.N.Nodup)(hi:QI ak X W false tg iter it)(ok:blkC X.N X.env.scope scope own=true)(hj:∀j∈js,j∈own.map (·.2))
  (hg:∀(s:Shared) (H:Hp) (C:Addr) (cl:List (Str×Addr)) (fp:List Addr),QG ak (X.blk s H scope (compEnvC scope cl C X.env) fp) tg js tgf)
  (ht:∀(s:Shared) (H:Hp) (C:Addr) (cl:List (Str×Addr)) (fp:List Addr),PTs (X.blk s H scope (compEnvC scope cl C X.env) fp) ifs (jV X.K ak WF tt))
  (he:∀(s:Shared) (H:Hp) (C:Addr) (cl:List (Str×Addr)) (fp:List Addr),QE ak (X.blk s H scope (compEnvC scope cl C X.env) fp) WF elt te) (hs:∀x,foldedSetIterable iter X.env x=pure x) :
  QE ak X W (.ListComp elt [⟨tg,iter,ifs,0⟩] scope pos) (fu it tgf (own.map (·.2)) tt te):=
 PE.weak (pe_lc (g:=zA X.K ak js tgf) (tt:=jV X.K ak WF tt) (te:=tQ X.K ak WF te) hc hN hi (blkOk_by ok) (λs H C cl fp=>hg s H C cl fp) ht (λs H C cl fp=>he s H C cl fp) hs) λσ H Q h=>aiE hj σ H Q h
theorem an2{scope:Scope}{own:List (Str×Nat)}{it:IF}{tgf:gj}{js:List Nat}{tt:QT}{te:QF}{ifs:List Expr}(hc:X.calm=true)(hN:X.N.Nodup)(hi:QI ak X W false tg iter it)(ok:blkC X.N X.env.scope scope own=true)(hj:∀j∈js,j∈own.map (·.2))
  (hg:∀(s:Shared) (H:Hp) (C:Addr) (cl:List (Str×Addr)) (fp:List Addr),QG ak (X.blk s H scope (compEnvC scope cl C X.env) fp) tg js tgf)
  (ht:∀(s:Shared) (H:Hp) (C:Addr) (cl:List (Str×Addr)) (fp:List Addr),PTs (X.blk s H scope (compEnvC scope cl C X.env) fp) ifs (jV X.K ak WF tt))
  (he:∀(s:Shared) (H:Hp) (C:Addr) (cl:List (Str×Addr)) (fp:List Addr),QE ak (X.blk s H scope (compEnvC scope cl C X.env) fp) WF elt te) (hs:∀x,foldedSetIterable iter X.env x=pure x) :
  PE X (.ListComp elt [⟨tg,iter,ifs,0⟩] scope pos) (tFr X.K ak W (zj it tgf (own.map (·.2)) tt te)):=
 PE.weak (pe_lc (g:=zA X.K ak js tgf) (tt:=jV X.K ak WF tt) (te:=tQ X.K ak WF te) hc hN hi (blkOk_by ok) (λs H C cl fp=>hg s H C cl fp) ht (λs H C cl fp=>he s H C cl fp) hs) λσ H Q h=>aaj hj σ H Q h
end
def bG.sat{α:Type}(o:bG α)(P:α->Mo->Prop)(E:eX->Mo->Prop):Prop:=
 match o with
 |.ok a M=>P a M
 |.exc x M=>E x M
 |.bad=>False
def bG.bind{α β:Type}(o:bG α)(k:α->Mo->bG β):bG β:=
 match o with
 |.ok a M=>k a M
 |.exc x M=>.exc x M
 |.bad=>.bad
@[simp]theorem bG.Av {α β:Type} (a:α) (M:Mo) (k:α->Mo->bG β):(bG.ok a M).bind k=k a M:=rfl
@[simp]theorem bG.ag1 {α β:Type} (x:eX) (M:Mo) (k:α->Mo->bG β):(bG.exc x M:bG α).bind k=.exc x M:=rfl
@[simp]theorem bG.aho {α β:Type} (k:α->Mo->bG β):(bG.bad:bG α).bind k=.bad:=rfl
theorem bG.sat.bnd{α β:Type}{o:bG α}{k:α->Mo->bG β}{P:β->Mo->Prop}{E:eX->Mo->Prop}(h:(o.bind k).sat P E):o.sat (λa M=>(k a M).sat P E) E:=by cases o<;>exact h
theorem bG.sat.mono{α:Type}{o:bG α}{P P':α->Mo->Prop}{E E':eX->Mo->Prop}(h:o.sat P E)(hp:∀a M,P a M->P' a M)(he:∀x M,E x M->E' x M):o.sat P' E':=by
 cases o
 .exact hp _ _ h
 .exact he _ _ h
 .exact h
def Out.at{α:Type}(o:Out α)(M:Mo):bG α:=
 match o with
 |.ok a=>.ok a M
 |.exc x=>.exc x M
 |.bad=>.bad
@[simp]theorem Out.atb {α:Type} (a:α) (M:Mo):(Out.ok a).at M=.ok a M:=rfl
@[simp]theorem Out.aq8 {α:Type} (x:eX) (M:Mo):(Out.exc x:Out α).at M=.exc x M:=rfl
@[simp]theorem Out.aqY {α:Type} (M:Mo):(Out.bad:Out α).at M=.bad:=rfl
theorem Out.jF{α:Type}{o:Out α}{M:Mo}{P:α->Mo->Prop}{E:eX->Mo->Prop}(h:(o.at M).sat P E):o.sat (λa=>P a M) λx=>E x M:=by cases o<;>exact h
abbrev GF:=Mo->Env->bG Dat
abbrev GT:=Mo->Env->bG Bool
def vh.sat(o:vh)(nx:Env->Mo->Prop)(rt:Dat->Mo->Prop)(bk ct:Env->Mo->Prop)(ex:eX->Env->Mo->Prop):Prop:=
 match o with
 |.next Z M=>nx Z M
 |.ret d M=>rt d M
 |.brk Z M=>bk Z M
 |.cont Z M=>ct Z M
 |.exc x Z M=>ex x Z M
 |.bad=>False
theorem vh.sat.mono{o:vh}{nx nx':Env->Mo->Prop}{rt rt':Dat->Mo->Prop}{bk bk' ct ct':Env->Mo->Prop}{ex ex':eX->Env->Mo->Prop}(h:o.sat nx rt bk ct ex)(h1:∀Z M,nx Z M->nx' Z M)(h2:∀d M,rt d M->rt' d M)(h3:∀Z M,bk Z M->bk' Z M)(h4:∀Z M,ct Z M->ct' Z M)(h5:∀x Z M,ex x Z M->ex' x Z M):o.sat nx' rt' bk' ct' ex':=by
 cases o
 .exact h1 _ _ h
 .exact h2 _ _ h
 .exact h3 _ _ h
 .exact h4 _ _ h
 .exact h5 _ _ _ h
 .exact h
abbrev SF:=Mo->Env->vh
def Gh.fr(g:Gh):Gh:={ g with Lo:=λ_=>False }
section
variable(K:atw)(ak:aX)(W:WX)(q:Bool)
def gE(g:Gh)(H:Hp)(σ:L2.St)(Z:Env)(x:eX)(M':Mo):Prop:=∀H' g' c dd,Gr q g g' H H'->SInv K ak σ H' g' Z M'->tR K ak g' H' x c dd->W c dd σ H'
def tE(f:GF):TE:=λσ H Q=>∃g Z M,SInv K ak σ H g Z M/\(f M Z).sat (λd M'=>∀v H' g',Gr q g g' H H'->SInv K ak σ H' g' Z M'->Rep K g' H' v d->Q v H') (gE K ak W q g H σ Z)
def tET(f:GT):TT:=λσ H Q=>∃g Z M,SInv K ak σ H g Z M/\(f M Z).sat (λb M'=>∀H' g',Gr q g g' H H'->SInv K ak σ H' g' Z M'->Q b H') (gE K ak W q g H σ Z)
def sN(k:L2.St->Hp->Prop)(g:Gh)(H:Hp)(Z':Env)(M':Mo):Prop:=∀σ' H' g',Gr q g g' H H'->SInv K ak σ' H' g' Z' M'->k σ' H'
def sR(k:VK)(g:Gh)(H:Hp)(d:Dat)(M':Mo):Prop:=∀v H' g',Gr q g g' H H'->Kd g'.fr H'->gW K ak g'.fr H' M'->Rep K g'.fr H' v d->k v H'
def sX(g:Gh)(H:Hp)(x:eX)(Z':Env)(M':Mo):Prop:=∀σ' H' g' c dd,Gr q g g' H H'->SInv K ak σ' H' g' Z' M'->tR K ak g'.fr H' x c dd->W c dd σ' H'
def tS(f:SF):TS:=λD σ H=>∃g Z M,SInv K ak σ H g Z M/\(f M Z).sat (sN K ak q D.nx g H) (sR K ak q D.rt g H) (sN K ak q D.bk g H) (sN K ak q D.ct g H) (sX K ak W q g H)
end
section
variable{K:atw}{ak:aX}{W:WX}{q:Bool}{g g1:Gh}{H H1:Hp}{σ:L2.St}{Z:Env}{M:Mo}
theorem gE.gr{x:eX}{M':Mo}(r:Gr q g g1 H H1)(h:gE K ak W q g H σ Z x M'):gE K ak W q g1 H1 σ Z x M':=λH' g' c dd r' I z=>h H' g' c dd (r.trans r') I z
theorem sN.gr{k:L2.St->Hp->Prop}{Z':Env}{M':Mo}(r:Gr q g g1 H H1)(h:sN K ak q k g H Z' M'):sN K ak q k g1 H1 Z' M':=λσ' H' g' r' I=>h σ' H' g' (r.trans r') I
theorem sR.gr{k:VK}{d:Dat}{M':Mo}(r:Gr q g g1 H H1)(h:sR K ak q k g H d M'):sR K ak q k g1 H1 d M':=λv H' g' r' I z y=>h v H' g' (r.trans r') I z y
theorem sX.gr{x:eX}{Z':Env}{M':Mo}(r:Gr q g g1 H H1)(h:sX K ak W q g H x Z' M'):sX K ak W q g1 H1 x Z' M':=λσ' H' g' c dd r' I z=>h σ' H' g' c dd (r.trans r') I z
theorem tE.go{f:GF}{k:Dat->Mo->Prop}{Q:VK}(I:SInv K ak σ H g Z M)(h:(f M Z).sat k (gE K ak W q g H σ Z))(hk:∀d M' v H' g',k d M'->Gr q g g' H H'->SInv K ak σ H' g' Z M'->Rep K g' H' v d->Q v H'):tE K ak W q f σ H Q:=
 ⟨g,Z,M,I,h.mono (λd M' hd v H' g' e I' r=>hk d M' v H' g' hd e I' r) λ_ _ z=>z⟩
theorem tET.go{f:GT}{k:Bool->Mo->Prop}{Q:Bool->Hp->Prop}(I:SInv K ak σ H g Z M)(h:(f M Z).sat k (gE K ak W q g H σ Z))(hk:∀b M' H' g',k b M'->Gr q g g' H H'->SInv K ak σ H' g' Z M'->Q b H'):tET K ak W q f σ H Q:=
 ⟨g,Z,M,I,h.mono (λd M' hd H' g' e I'=>hk d M' H' g' hd e I') λ_ _ z=>z⟩
theorem tS.go{f:SF}{D:Ends}(I:SInv K ak σ H1 g1 Z M)(r:Gr q g g1 H H1)(h:(f M Z).sat (sN K ak q D.nx g H) (sR K ak q D.rt g H) (sN K ak q D.bk g H) (sN K ak q D.ct g H) (sX K ak W q g H)):tS K ak W q f D σ H1:=
 ⟨g1,Z,M,I,h.mono (λ_ _ z=>z.gr r) (λ_ _ z=>z.gr r) (λ_ _ z=>z.gr r) (λ_ _ z=>z.gr r) (λ_ _ _ z=>z.gr r)⟩
theorem mX.less{g':Gh}{fs:List (Str×V)}{gs:List (Str×Dat)}(e:g'.tbl=g.tbl)(n:∀a,g'.A a->g.A a)(h:mX K g H fs gs):mX K g' H fs gs:=by
 induction h with
 |nil=>exact .nil
 |cons r _ ih=>exact .cons (r.less e n) ih
theorem tR.less{g':Gh}{x:eX}{c:Value}{dd:Option Addr}(e:g'.tbl=g.tbl)(n:∀a,g'.A a->g.A a)(h:tR K ak g H x c dd):tR K ak g' H x c dd:=by obtain⟨C,h1,h2,h3⟩:=h;refine⟨C,h1,h2,h3.imp id λ⟨a,fs,e1,e2,e3⟩=>⟨a,fs,e1,e2,e3.less e n⟩⟩
theorem yR(g:Gh):∀a,g.fr.A a->g.A a:=λa z=>z.elim .inl λz=>.inr (z.elim .inl λz=>au0 z)
theorem Rep.fr{v:V}{d:Dat}(h:Rep K g H v d):Rep K g.fr H v d:=Rep.less (g:=g) (g':=g.fr) rfl (yR g) h
theorem aQ.fr{v:List V}{d:List Dat}(h:aQ K g H v d):aQ K g.fr H v d:=aQ.less (g:=g) (g':=g.fr) rfl (yR g) h
theorem tR.fr{x:eX}{c:Value}{dd:Option Addr}(h:tR K ak g H x c dd):tR K ak g.fr H x c dd:=tR.less (g:=g) (g':=g.fr) rfl (yR g) h
end
def GE(ak:aX)(X:Cx)(W:WX)(q:Bool)(e:Expr)(f:GF):Prop:=PE X e (tE X.K ak W q f)
def GTe(ak:aX)(X:Cx)(W:WX)(q:Bool)(e:Expr)(f:GT):Prop:=PT X e (tET X.K ak W q f)
def SE(ak:aX)(X:Cx)(W:WX)(q:Bool)(s:Stmt)(f:SF):Prop:=PS X s (tS X.K ak W q f)
def Mu(ak:aX)(X:Cx)(W:WX)(q:Bool)(s:List Stmt)(f:SF):Prop:=PSs X s (tS X.K ak W q f)
theorem PS.weak{X:Cx}{e:Stmt}{t t':TS}(h:PS X e t)(k:∀D σ H,t' D σ H->t D σ H):PS X e t':=⟨λpins s σ H D I z=>h.run pins s σ H D I (k D σ H z)⟩
theorem PSs.weak{X:Cx}{e:List Stmt}{t t':TS}(h:PSs X e t)(k:∀D σ H,t' D σ H->t D σ H):PSs X e t':=⟨λpins s σ H D I z=>h.run pins s σ H D I (k D σ H z)⟩
def gOf(f:QF):GF:=λM Z=>(f M Z).at M
def ah0(f:QT):GT:=λM Z=>(f M Z).at M
section
variable{X:Cx}{ak:aX}{W:WX}{q:Bool}{a b e:Expr}{pos:Pos}
theorem ah8{f:QF}(h:QE ak X W e f):GE ak X W q e (gOf f):=PE.weak h λσ H Q ⟨g,Z,M,I,z⟩=>
 ⟨g,Z,M,I,(Out.jF z).mono (λd k v H' e r=>k v H' g (Gr.ex e) (I.ex e) r) λx k H' c dd e r=>k H' g c dd (Gr.ex e) (I.ex e) r⟩
theorem anT{f:QT}(h:u6 ak X W e f):GTe ak X W q e (ah0 f):=PT.weak h λσ H Q ⟨g,Z,M,I,z⟩=>
 ⟨g,Z,M,I,(Out.jF z).mono (λd k H' e=>k H' g (Gr.ex e) (I.ex e)) λx k H' c dd e r=>k H' g c dd (Gr.ex e) (I.ex e) r⟩
def aK:SF:=λM Z=>.next Z M
def aC(f k:SF):SF:=λM Z=>match f M Z with
 |.next Z' M'=>k M' Z'
 |o=>o
theorem ak5:Mu ak X W q [] aK:=PSs.weak pss_nil λD σ H ⟨g,Z,M,I,z⟩=>z σ H g .refl I
theorem amY{s:Stmt}{f:SF}(h:SE ak X W q s f):Mu ak X W q [s] f:=pss_one h
theorem aj9{s:Stmt}{ss:List Stmt}{f k:SF}(h:SE ak X W q s f)(hs:Mu ak X W q ss k):Mu ak X W q (s::ss) (aC f k):=by
 refine PSs.weak (pss_cons h hs) λD σ H ⟨g,Z,M,I,z⟩=>?_;refine⟨g,Z,M,I,?_⟩;unfold aC at z;cases hf:f M Z with
 |next Z' M'=>
  rw[hf]at z;exact λσ' H' g' r I'=>tS.go I' r z
 |ret d M'=>rw[hf]at z;exact z
 |brk Z' M'=>rw[hf]at z;exact z
 |cont Z' M'=>rw[hf]at z;exact z
 |exc x Z' M'=>rw[hf]at z;exact z
 |bad=>rw[hf]at z;exact z
def bG.then{α:Type}(o:bG α)(Z:Env)(k:α->Mo->vh):vh:=
 match o with
 |.ok a M=>k a M
 |.exc x M=>.exc x Z M
 |.bad=>.bad
@[simp]theorem bG.aqf {α:Type} (a:α) (M:Mo) (Z:Env) (k:α->Mo->vh):(bG.ok a M).then Z k=k a M:=rfl
@[simp]theorem bG.ao1 {α:Type} (x:eX) (M:Mo) (Z:Env) (k:α->Mo->vh):(bG.exc x M:bG α).then Z k=.exc x Z M:=rfl
@[simp]theorem bG.apt {α:Type} (Z:Env) (k:α->Mo->vh):(bG.bad:bG α).then Z k=.bad:=rfl
theorem dN{α:Type}{K:atw}{g:Gh}{H:Hp}{σ:L2.St}{Z:Env}{o:bG α}{k:α->Mo->vh}{nx bk ct:Env->Mo->Prop}{rt:Dat->Mo->Prop}(h:(o.then Z k).sat nx rt bk ct (sX K ak W q g H)):o.sat (λa M=>(k a M).sat nx rt bk ct (sX K ak W q g H)) (gE K ak W q g H σ Z):=by
 cases o with
 |ok a M=>exact h
 |exc x M=>exact λH' g' c dd r I z=>h σ H' g' c dd r I z.fr
 |bad=>exact h
def aZ(tg:gj)(f:GF):SF:=λM Z=>(f M Z).then Z λd M'=>match tg d Z with
 |some Z'=>.next Z' M'
 |none=>.bad
theorem aaX{tg:Expr}{js:List Nat}{tf:gj}{f:GF}(he:GE ak X W q e f)(hg:QG ak X tg js tf)(hs:swapsWithSole [tg] e pos.line X.env=pure false)(hw:swappedStores [tg] e X.env=pure none)(h1:(assignEach [tg] X.env).map (·.2)=[assign tg X.env]):SE ak X W q (.Assign [tg] e pos) (aZ tf f):=by
 refine PS.weak (ps_asg he hg hs hw h1) λD σ H ⟨g,Z,M,I,z⟩=>?_;refine tE.go I (dN (σ:=σ) z) λd M' v H' g' k r I' rv=>?_;split at k
 .next Z' e'=>exact⟨g',Z,M',d,Z',I',rv,e',λvs I2=>k _ H' g' r I2⟩
 .exact au0 k
def cH(f:GF):SF:=λM Z=>(f M Z).then Z λ_ M'=>.next Z M'
theorem Wj{f:GF}(he:GE ak X W q e f)(hs:swapsWith e none pos.line X.env=pure false):SE ak X W q (.Expr e pos) (cH f):=by refine PS.weak (ps_expr he hs) λD σ H ⟨g,Z,M,I,z⟩=>?_;exact tE.go I (dN (σ:=σ) z) λd M' v H' g' k r I' rv=>k σ H' g' r I'
end
def Ve:Cell->Cell
 |.mut xs=>.dat (.list xs)
 |c=>c
def uV(Z:Env):Env:=Z.map λo=>o.map Ve
section
variable{K:atw}{ak:aX}{W:WX}{q:Bool}{g:Gh}{H:Hp}{σ:L2.St}{Z:Env}{M:Mo}
theorem j7.less{g':Gh}{l:Addr}(e:g'.tbl=g.tbl)(n:∀a,g'.A a->g.A a):∀{b:Bool} {kvs:List (Dat×Dat)},j7 K ak g H l b kvs->j7 K ak g' H l b kvs
 |false,_,⟨kv,h1,h2,h3⟩=>⟨kv,h1,h2,h3.less e n⟩
 |true,_,⟨o,xs,vs,h1,h2,h3,h4,h5,h6⟩=>⟨o,xs,vs,h1,h2,h3,h4.less e n,h5,h6.less e n⟩
theorem eU.less{g':Gh}{h:Nat}{f:Str}{v:V}(e:g'.tbl=g.tbl)(e2:g'.ow=g.ow)(n:∀a,g'.A a->g.A a):∀{fl:jN},eU K ak g H h f v fl->eU K ak g' H h f v fl
 |.dat _,z=>Rep.less e n z
 |.lst _ _,⟨l,us,h1,h2,h3,h4,h5⟩=>⟨l,us,h1,h2,by rw[e2];exact h3,h4.less e n,by rw[e];exact h5⟩
 |.dic _ _,⟨l,h1,h2,h3⟩=>⟨l,h1,by rw[e2];exact h2,h3.less e n⟩
theorem cU.less{g':Gh}{h:Nat}(e:g'.tbl=g.tbl)(e2:g'.ow=g.ow)(n:∀a,g'.A a->g.A a):∀{fs:List (Str×V)} {gs:List (Str×jN)},cU K ak g H h fs gs->cU K ak g' H h fs gs
 |_,_,.nil=>.nil
 |_,_,.cons z t=>.cons (eU.less e e2 n z) (cU.less e e2 n t)
theorem gW.less{g':Gh}(e:g'.tbl=g.tbl)(e2:g'.ow=g.ow)(n:∀a,g'.A a->g.A a)(w:gW K ak g H M):gW K ak g' H M where
 len:=by rw[e];exact w.len
 inj:=by rw[e];exact w.inj
 ins:=λh a i ha hi hc=>by
  rw[e]at ha;obtain⟨C,dx,fs,c1,c2,c3⟩:=w.ins h a i ha hi hc;exact⟨C,dx,fs,c1,c2,c3.less e e2 n⟩
 nd:=w.nd
 fd:=w.fd
 tw:=by rw[e,e2];exact w.tw
 dm:=w.dm
 nc:=w.nc
theorem Sy{i:Nat}{c:Cell}(h:(uV Z)[i]?=some (some c)):∃c',Z[i]?=some (some c')/\c=Ve c':=by
 unfold uV at h;rw[atR]at h;cases hr:Z[i]? with
 |none=>rw[hr]at h;cases h
 |some o=>
  rw[hr]at h;cases o with
  |none=>cases h
  |some c'=>
   cases h;exact⟨c',rfl,rfl⟩
theorem SInv.uV(I:SInv K ak σ H g Z M):SInv K ak σ H g.fr (uV Z) M where
 kd:=⟨λa z=>I.kd.ob a (yR g a z),λa z=>au0 z,λa z=>⟨(I.kd.lc a z).1,λy=>y⟩⟩
 wok:=gW.less (g:=g) (g':=g.fr) rfl rfl (yR g) I.wok
 len:=by unfold Rf.uV;rw[atJ];exact I.len
 dat:=λi d h=>by
  obtain⟨c,h1,h2⟩:=Sy h;cases c with
  |dat d'=>
   cases h2;obtain⟨v,e1,e2⟩:=I.dat i _ h1;exact⟨v,e1,e2.fr⟩
  | «mut» xs=>
   cases h2;obtain⟨l,us,e1,e2,e3,e4⟩:=I.own i _ h1;refine⟨_,e1,.lst (.inl ⟨.inl e2,λz=>?_⟩) e4.fr⟩;rcases z with z|z|z
   .exact I.kd.lo l e3 z
   .exact(I.kd.lc l z).2 e3
   .exact z
 own:=λi xs h=>by
  obtain⟨c,h1,h2⟩:=Sy h;cases c<;>cases h2
 sep:=λi j xs ys l ne h1=>by
  obtain⟨c,h1,h2⟩:=Sy h1;cases c<;>cases h2
end
section
variable{K:atw}{ak:aX}{W:WX}{q:Bool}{g g':Gh}{H H':Hp}{σ:L2.St}{Z:Env}{M:Mo}
theorem Kd.fr(k:Kd g H):Kd g.fr H:=⟨λa z=>k.ob a (yR g a z),λa z=>au0 z,λa z=>⟨(k.lc a z).1,λy=>y⟩⟩
theorem gW.fr(w:gW K ak g H M):gW K ak g.fr H M:=gW.less (g:=g) (g':=g.fr) rfl rfl (yR g) w
theorem bM{α:Type}{l:List (Option α)}{j i:Nat}{c:α}{o:Option α}(h:(l.set j o)[i]?=some (some c)):(j=i/\o=some c/\j<l.length)\/(j≠i/\l[i]?=some (some c)):=by
 by_cases z:j=i
 .subst z;have hj:j<l.length:=by
   have:=(aty.mp h).1;rw[at8]at this;exact this
  rw[atX hj]at h;exact .inl ⟨rfl,atY h,hj⟩
 .rw[atH z]at h;exact .inr ⟨z,h⟩
theorem SInv.amj{j:Nat}{l:Addr}{us:List V}{xs:List Dat}(I:SInv K ak σ H g Z M)(n:H l=none)(e:Ex H H')(hl:H' l=some (.lst us))(r:aQ K (g.add l) H' us xs):SInv K ak (σ.set j (some (.ref l))) H' (g.add l) (Z.set j (some (.mut xs))) M:=by
 have I1:=I.add n e hl trivial;have nl:∀(i:Nat) (ys:List Dat),Z[i]?=some (some (.mut ys))->σ[i]?≠some (some (.ref l)):=λi ys h z=>by
  obtain⟨l',us',h1,h2,_⟩:=I.own i ys h;rw[z]at h1;cases h1;rw[n]at h2;cases h2
 refine⟨I1.kd,I1.wok,by rw[at8,at8];exact I.len,λi d h=>?_,λi ys h=>?_,λi k ys zs a ne h1 h2 h3 h4=>?_⟩
 .rcases bM h with⟨_,h,_⟩|⟨ne,h⟩
  .cases h
  .rw[atH ne];exact I1.dat i d h
 .rcases bM h with⟨rfl,h,hj⟩|⟨ne,h⟩
  .cases h;exact⟨l,us,by rw[atX (by rw[I.len];exact hj)],hl,.inr rfl,r⟩
  .rw[atH ne];exact I1.own i ys h
 .rcases bM h1 with⟨rfl,h1,hj⟩|⟨n1,h1⟩
  .rcases bM h2 with⟨rfl,h2,_⟩|⟨n2,h2⟩
   .exact ne rfl
   .rw[atX (by rw[I.len];exact hj)]at h3;cases h3;rw[atH n2]at h4;exact nl k zs h2 h4
  .rcases bM h2 with⟨rfl,h2,hj⟩|⟨n2,h2⟩
   .rw[atX (by rw[I.len];exact hj)]at h4;cases h4;rw[atH n1]at h3;exact nl i ys h1 h3
   .rw[atH n1]at h3;rw[atH n2]at h4;exact I.sep i k ys zs a ne h1 h2 h3 h4
theorem eU.loc{l:Addr}{us us':List V}{h:Nat}{f:Str}{v:V}(k:Kd g H)(hl:H l=some (.lst us))(lo:g.Lo l):∀{fl:jN},eU K ak g H h f v fl->eU K ak g (upd H l (.lst us')) h f v fl:=λ{fl} z=>by
 have r:Gr true g g H (upd H l (.lst us')):=Gr.upd k hl (.inr lo);cases fl with
 |dat d=>exact Rep.gr r k z
 |lst n xs=>
  obtain⟨a,ws,h1,h2,h3,h4,h5⟩:=z;exact⟨a,ws,h1,by rw[upd_ne (λz=>by subst z;exact k.lo _ lo (.inr (by rw[h3];exact λz=>nomatch z)))];exact h2,h3,h4.gr r k,h5⟩
 |dic n kvs=>
  obtain⟨a,h1,h2,h3⟩:=z;have na:a≠l:=λz=>by subst z;exact k.lo _ lo (.inr (by rw[h2];exact λz=>nomatch z))
  refine⟨a,h1,h2,?_⟩;cases n with
  |false=>
   obtain⟨kv,h3,h4,h5⟩:=h3;exact⟨kv,by rw[upd_ne na];exact h3,h4,h5.gr r k⟩
  |true=>
   obtain⟨o,xs,vs,h3,h4,h5,h6,h7,h8⟩:=h3;exact⟨o,xs,vs,by rw[upd_ne na];exact h3,h4,h5,h6.gr r k,h7,h8.gr r k⟩
theorem cU.loc{l:Addr}{us us':List V}{h:Nat}(k:Kd g H)(hl:H l=some (.lst us))(lo:g.Lo l):∀{fs:List (Str×V)} {gs:List (Str×jN)},cU K ak g H h fs gs->cU K ak g (upd H l (.lst us')) h fs gs
 |_,_,.nil=>.nil
 |_,_,.cons z t=>.cons (eU.loc k hl lo z) (cU.loc k hl lo t)
theorem gW.loc{l:Addr}{us us':List V}(k:Kd g H)(hl:H l=some (.lst us))(lo:g.Lo l)(w:gW K ak g H M):gW K ak g (upd H l (.lst us')) M where
 len:=w.len
 inj:=w.inj
 ins:=λh a i ha hi hc=>by
  obtain⟨C,dx,fs,c1,c2,c3⟩:=w.ins h a i ha hi hc;exact⟨C,dx,fs,c1,by rw[upd_ne (λz=>by subst z;exact k.lo _ lo (.inl (atG ha)))];exact c2,c3.loc k hl lo⟩
 nd:=w.nd
 fd:=w.fd
 tw:=w.tw
 dm:=w.dm
 nc:=w.nc
theorem SInv.change{j:Nat}{xs ys:List Dat}(I:SInv K ak σ H g Z M)(hj:Z[j]?=some (some (.mut xs))):∃l us,σ[j]?=some (some (.ref l))/\H l=some (.lst us)/\g.Lo l/\aQ K g H us xs/\∀us',aQ K g H us' ys->SInv K ak σ (upd H l (.lst us')) g (Z.set j (some (.mut ys))) M:=by
 obtain⟨l,us,h1,h2,h3,h4⟩:=I.own j xs hj;refine⟨l,us,h1,h2,h3,h4,λus' r=>?_⟩;have gr:Gr true g g H (upd H l (.lst us')):=Gr.upd I.kd h2 (.inr h3);refine⟨I.kd.upd trivial,I.wok.loc I.kd h2 h3,by rw[at8];exact I.len,λi d h=>?_,λi zs h=>?_,λi k zs ws a ne e1 e2 e3 e4=>?_⟩
 .rcases bM h with⟨_,h,_⟩|⟨ne,h⟩
  .cases h
  .obtain⟨v,e1,e2⟩:=I.dat i d h;exact⟨v,e1,e2.gr gr I.kd⟩
 .rcases bM h with⟨rfl,h,_⟩|⟨ne,h⟩
  .cases h;exact⟨l,us',h1,au7,h3,r.gr gr I.kd⟩
  .obtain⟨l',ws,e1,e2,e3,e4⟩:=I.own i zs h;have nl:l'≠l:=λz=>by
    subst z;exact I.sep i j zs xs l' (Ne.symm ne) h hj e1 h1
   exact⟨l',ws,e1,by rw[upd_ne nl];exact e2,e3,e4.gr gr I.kd⟩
 .have k1:∃xs,Z[i]?=some (some (.mut xs)):=by
   rcases bM e1 with⟨rfl,_,_⟩|⟨_,h⟩
   .exact⟨xs,hj⟩
   .exact⟨zs,h⟩
  have k2:∃xs,Z[k]?=some (some (.mut xs)):=by
   rcases bM e2 with⟨rfl,_,_⟩|⟨_,h⟩
   .exact⟨xs,hj⟩
   .exact⟨ws,h⟩
  obtain⟨x1,k1⟩:=k1;obtain⟨x2,k2⟩:=k2;exact I.sep i k x1 x2 a ne k1 k2 e3 e4
end
section
variable{X:Cx}{ak:aX}{W:WX}{q:Bool}{a b e:Expr}{pos:Pos}
def aP(f:QF):SF:=λM Z=>((f M (uV Z)).at M).then Z λd M'=>.ret d M'
def dw(f:GF):SF:=λM Z=>(f M Z).then Z λd M'=>.ret d M'
theorem anf{f:QF}(he:QE ak X W e f):SE ak X W q (.Return (some e) pos) (aP f):=by
 refine PS.weak (ps_ret he) λD σ H ⟨g,Z,M,I,z⟩=>?_;refine⟨g.fr,uV Z,M,I.uV,?_⟩;unfold aP at z;cases hf:f M (uV Z) with
 |ok d=>
  rw[hf]at z;exact λv H' e r=>z v H' g (Gr.ex e) (I.ex e).kd.fr (I.ex e).wok.fr r
 |exc x=>
  rw[hf]at z;exact λH' c dd e r=>z σ H' g c dd (Gr.ex e) (I.ex e) r
 |bad=>rw[hf]at z;exact au0 z
theorem aiJ{f:GF}(he:GE ak X W q e f):SE ak X W q (.Return (some e) pos) (dw f):=by refine PS.weak (ps_ret he) λD σ H ⟨g,Z,M,I,z⟩=>?_;exact tE.go I (dN (σ:=σ) z) λd M' v H' g' k r I' rv=>k v H' g' r I'.kd.fr I'.wok.fr rv.fr
def bF(t:QT)(f k:SF):SF:=λM Z=>((t M (uV Z)).at M).then Z λc M'=>if c=true then f M' Z else k M' Z
def apn(t:GT)(f k:SF):SF:=λM Z=>(t M Z).then Z λc M'=>if c=true then f M' Z else k M' Z
theorem an7{c:Expr}{s1 s2:List Stmt}{t:QT}{f k:SF}(hc:u6 ak X W c t)(h1:Mu ak X W q s1 f)(h2:Mu ak X W q s2 k):SE ak X W q (.If c s1 s2 pos) (bF t f k):=by
 refine PS.weak (ps_if hc h1 h2) λD σ H ⟨g,Z,M,I,z⟩=>?_;refine⟨g.fr,uV Z,M,I.uV,?_⟩;unfold bF at z;cases hf:t M (uV Z) with
 |ok d=>
  rw[hf]at z;intro H' e;cases d with
  |true=>exact tS.go (I.ex e) (Gr.ex e) z
  |false=>exact tS.go (I.ex e) (Gr.ex e) z
 |exc x=>
  rw[hf]at z;exact λH' c dd e r=>z σ H' g c dd (Gr.ex e) (I.ex e) r
 |bad=>rw[hf]at z;exact au0 z
def dX(tg:gj)(body:SF):List Dat->Mo->Env->vh
 |[],M,Z=>.next Z M
 |d::ds,M,Z=>match tg d Z with
  |none=>.bad
  |some Z1=>match body M Z1 with
   |.next Z2 M2=>dX tg body ds M2 Z2
   |.cont Z2 M2=>dX tg body ds M2 Z2
   |.brk Z2 M2=>.next Z2 M2
   |.ret d M2=>.ret d M2
   |.exc x Z2 M2=>.exc x Z2 M2
   |.bad=>.bad
def oJ(it:IF)(tg:gj)(body:SF):SF:=λM Z=>((it M Z).at M).then Z λds M'=>dX tg body ds M' Z
theorem amo{tg iter:Expr}{body:List Stmt}{it:IF}{js:List Nat}{tf:gj}{f:SF}(hp:PassesOwn (model X.prog X.w) X.A X.env X.xe)(hc:X.calm=true)(hi:QI ak X W true tg iter it)(hg:QG ak X tg js tf)(hb:Mu ak X W q body f)(hs:∀x,foldedSetIterable iter X.env x=pure x) :
  SE ak X W q (.For tg iter body [] pos) (oJ it tf f):=by
 refine PS.weak (ps_for hp hc hi hg hb hs) λD σ H ⟨g,Z,M,I,z⟩=>?_;refine⟨g,Z,M,I,?_⟩;unfold oJ at z;cases hf:it M Z with
 |exc x=>
  rw[hf]at z;exact λH' c dd e r=>z σ H' g c dd (Gr.ex e) (I.ex e) r.fr
 |bad=>rw[hf]at z;exact au0 z
 |ok ds=>
  rw[hf]at z;intro J C H1 e1 w c1 firm;have firm:=firm rfl;have z:(dX tf f ds M Z).sat (sN X.K ak q D.nx g H) (sR X.K ak q D.rt g H) (sN X.K ak q D.bk g H) (sN X.K ak q D.ct g H) (sX X.K ak W q g H):=z
  let Pv:Nat->L2.St->Hp->Prop:=λi σi Hi=>i<=ds.length/\∃gi ρi Mi,Gr q g gi H Hi/\SInv X.K ak σi Hi gi ρi Mi/\C gi Hi/\(dX tf f (ds.drop i) Mi ρi).sat (sN X.K ak q D.nx g H) (sR X.K ak q D.rt g H) (sN X.K ak q D.bk g H) (sN X.K ak q D.ct g H) (sX X.K ak W q g H)
  refine⟨λi m σi Hi=>m=ds.length-i/\Pv i σi Hi,⟨ds.length,rfl,auo _,g,Z,M,Gr.ex e1,I.ex e1,c1,by rw[auT];exact z⟩,?_⟩;rintro i m σi Hi ⟨rfl,hi,gi,ρi,Mi,ri,Ii,Ci,zi⟩;by_cases hlt:i<ds.length
  .refine .inr ⟨w.go _ i Hi Ci hlt,Pv (i+1),λσ' H' p=>⟨ds.length-(i+1),by omega,rfl,p⟩,λx H' y=>?_⟩;have hd:ds[i]?=some ds[i]:=atz hlt;obtain⟨e2,rx⟩:=w.yld _ i Hi x H' _ Ii.kd Ci hd y;rw[aus hlt,dX]at zi;split at zi
   .exact au0 zi
   .next Z1 he=>
    have I2:=Ii.ex e2;refine⟨gi,ρi,Mi,_,Z1,I2,rx,he,λvs I3=>⟨gi,Z1,Mi,I3,?_⟩⟩;have r2:=ri.trans (Gr.ex e2);cases hb':f Mi Z1 with
    |next Z2 M2=>
     rw[hb']at zi;exact λσ' H2 g2 r I'=>⟨hlt,g2,Z2,M2,r2.trans r,I',firm q gi g2 H' H2 I2.kd (w.ex _ _ _ Ii.kd Ci e2) r,zi⟩
    |cont Z2 M2=>
     rw[hb']at zi;exact λσ' H2 g2 r I'=>⟨hlt,g2,Z2,M2,r2.trans r,I',firm q gi g2 H' H2 I2.kd (w.ex _ _ _ Ii.kd Ci e2) r,zi⟩
    |brk Z2 M2=>
     rw[hb']at zi;exact sN.gr r2 zi
    |ret d M2=>
     rw[hb']at zi;exact sR.gr r2 zi
    |exc x Z2 M2=>
     rw[hb']at zi;exact sX.gr r2 zi
    |bad=>rw[hb']at zi;exact au0 zi
  .have e:i=ds.length:=by omega
   refine .inl ⟨w.stop _ i Hi Ci e,?_⟩;rw[e,auz]at zi;exact zi σi Hi gi ri Ii
def Im(j:Nat)(f:QF):SF:=λM Z=>match Z[j]? with
 |some (some (.dat (.int i)))=>((f M Z).at M).then Z λd M'=>match d with
  |.int k=>.next (Z.set j (some (.dat (.int (i+k))))) M'
  |_=>.bad
 |_=>.bad
theorem alr{j:Nat}{x:Str}{f:QF}{pos':Pos}(hN:X.N.Nodup)(hi:X.N[j]?=some x)(hx:Loc X.env.scope x)(hf:X.fn x=true\/X.env.scope.names.lookup x=some .local)(he:QE ak X W e f):SE ak X W q (.AugAssign (.Name x pos') .Add e pos) (Im j f):=by
 refine PS.weak (ps_aug hN hi hx he ip_add hf) λD σ H ⟨g,Z,M,I,z⟩=>?_;unfold Im at z;split at z
 .next i hj=>
  obtain⟨v,h1,h2⟩:=I.dat j _ hj;cases h2;refine⟨.int i,h1,⟨g,Z,M,I,?_⟩⟩;cases hf':f M Z with
  |exc x=>rw[hf']at z;exact λH' c dd e r=>z σ H' g c dd (Gr.ex e) (I.ex e) r.fr
  |bad=>rw[hf']at z;exact au0 z
  |ok d=>
   rw[hf']at z;intro u H' e r;cases d with
   |int k=>
    cases r;exact⟨i,k,rfl,rfl,z _ H' g (Gr.ex e) ((I.ex e).set (.int _))⟩
   |_=>exact au0 z
 .exact au0 z
def FE(ak:aX)(X:Cx)(W:WX)(e:Expr)(f:IF):Prop:=PE X e (tFr X.K ak W f)
def Ba(j:Nat)(f:IF):SF:=λM Z=>((f M Z).at M).then Z λxs M'=>.next (Z.set j (some (.mut xs))) M'
theorem afw{j:Nat}{f:IF}(D:Ends)(σ:L2.St)(H:Hp)(h:tS X.K ak W q (Ba j f) D σ H):tAsg (tFr X.K ak W f) (gName j) D σ H:=by
 obtain⟨g,Z,M,I,z⟩:=h;refine⟨g,Z,M,I,?_⟩;unfold Ba at z;cases hf:f M Z with
 |exc x=>rw[hf]at z;exact λH' c dd e r=>z σ H' g c dd (Gr.ex e) (I.ex e) r.fr
 |bad=>rw[hf]at z;exact au0 z
 |ok xs=>
  rw[hf]at z;intro l us H' n e hl r;have gr:Gr true g (g.add l) H H':=Gh.Fj n e;refine z _ H' (g.add l) ?_ (I.amj n e hl r);cases q with
  |true=>exact gr
  |false=>exact gr.loud
theorem afN{j:Nat}{x:Str}{f:IF}{pos':Pos}(hN:X.N.Nodup)(hi:X.N[j]?=some x)(hx:Loc X.env.scope x)(hf:X.fn x=true\/X.env.scope.names.lookup x=some .local)(he:FE ak X W e f)(hs:swapsWith e (some (.Name x pos')) pos.line X.env=pure false):SE ak X W q (.Assign [.Name x pos'] e pos) (Ba j f):=
 PS.weak (ps_set hN hi hx he hs hf) λD σ H h=>afw D σ H h
def LQ(f:QA):IF:=λM Z=>(f M Z).bind λxs=>Out.when (decide (xs.length<=100000)) (.ok xs)
theorem ahT{K:atw}{g:Gh}{H:Hp}{l:Addr}{vs:List V}{ds:List Dat}(k:Kd g H)(n:H l=none)(r:aQ K g H vs ds){o:HO}:aQ K (g.add l) (upd H l o) vs ds:=r.gr (Gh.Fj n (Ex.new n)) k
theorem alv{es:List Expr}{fr:QA}(h:Gu ak X W es fr):FE ak X W (.List es pos) (LQ fr):=
 PE.weak (pe_lst h) λσ H Q ⟨g,Z,M,I,h⟩=>by
  refine QX.go I h.bnd λds vs H1 h1 e1 r1=>?_;obtain⟨hz,h1⟩:=h1.rC;have hl:vs.length<=100000:=by rw[r1.length];exact au2 hz
  exact⟨sz_of hl,λp np=>h1 p vs _ (FT e1 p np) (e1.trans (Ex.new np)) au7 (ahT (I.kd.ex e1) np r1)⟩
def Zt:Dat->Out (List Dat)
 |.list ds=>.ok ds
 |.tuple ds=>.ok ds
 |_=>.bad
def ag7(f:QF):IF:=λM Z=>(f M Z).bind Zt
def baseOk:Expr->Bool
 |.Call (.Name _ _) _ _ _=>false
 |_=>true
theorem oY{o:Expr}{m:Str}{env:PySem.Env}{w:Sem Value}(h:baseOk o=true):attributeBase o m env w=w:=by
 cases o with
 | Call f as ks p=>cases f<;>first | rfl | cases h
 |_=>rfl
theorem aav{env:PySem.Env}{pos:Pos}:∀(es:List Expr),es.all nst=true->(backTo pos (starEach es env)).all (λx=>!x.1)=true
 |[],_=>by with_unfolding_all rfl
 |a::es,h=>by
  rw[auk,atx]at h;rw[cP h.1];have ih:=aav (env:=env) (pos:=pos) es h.2;unfold backTo at ih |-
  rw[atE,auk,ih];rfl
theorem few{env:PySem.Env}{pos:Pos}{es:List Expr}(h:es.all nst=true)(hl:es.length<30):((backTo pos (starEach es env)).all (λx=>!x.1)&&(backToKw pos (keywordEach [] env)).all (λx=>x.1.isSome)&&decide (es.length+([]:List Keyword).length+(if ([]:List Keyword).isEmpty then 0 else 1)<30))=true:=by
 rw[aav es h];have:(backToKw pos (keywordEach [] env)).all (λx=>x.1.isSome)=true:=by with_unfolding_all rfl
 rw[this];simpa using hl
def CZ(j:Nat)(f:QF):SF:=λM Z=>match Z[j]? with
 |some (some (.mut xs))=>((f M Z).at M).then Z λd M'=>if xs.length<100000 then .next (Z.set j (some (.mut (xs++[d])))) M' else .bad
 |_=>.bad
theorem am7{j:Nat}{x:Str}{f:QF}{p apos:Pos}{epos:Pos}(hN:X.N[j]?=some x)(hv:Vis X.env.scope x)(hd:(x==("__debug__" : Str))=false)(hcd:(x==("__classdict__" : Str))=false)(he:QE ak X W e f)(hs:nst e=true)
  (hl:(apos.endLine==pos.line)=true):SE ak X W q (.Expr (.Call (.Attribute (.Name x p) "append" apos) [e] [] pos) epos) (CZ j f):=by
 have h0:=pe_var (X:=X) (pos:=p) hN hv hd hcd;have h1:=pa_cons he pa_nil (cP hs []);have key:=pe_bm (X:=X) (cpos:=pos) (apos:=apos) PySem.F.plainAttrs_list PySem.F.slot_list_append PySem.F.type_list_append mt_append h0 h1 (oY rfl) (few (by simp[hs]) (by simp)) hl (cP hs []) (by with_unfolding_all rfl);refine PS.weak (ps_expr key (by with_unfolding_all rfl)) λD σ H ⟨g,Z,M,I,z⟩=>?_;unfold CZ at z;split at z
 .next xs hj=>
  obtain⟨l,us,e1,e2,e3,e4⟩:=I.own j xs hj;refine⟨.ref l,e1,.inl ⟨rfl,us,sq_of e2⟩,⟨g,Z,M,I,?_⟩⟩;cases hf:f M Z with
  |exc x=>rw[hf]at z;exact λH' c dd e r=>z σ H' g c dd (Gr.ex e) (I.ex e) r.fr
  |bad=>rw[hf]at z;exact au0 z
  |ok d=>
   rw[hf]at z;intro v H' e r;have z:(if xs.length<100000 then vh.next (Z.set j (some (.mut (xs++[d])))) M else .bad).sat (sN X.K ak q D.nx g H) (sR X.K ak q D.rt g H) (sN X.K ak q D.bk g H) (sN X.K ak q D.ct g H) (sX X.K ak W q g H):=z;split at z
   .next hlen=>
    have I1:=I.ex e;obtain⟨l',us',f1,f2,f3,f4,f5⟩:=I1.change (ys:=xs++[d]) hj;rw[e1]at f1;cases f1;rw[e _ _ e2]at f2;cases f2;refine⟨l,us,v,rfl,rfl,e _ _ e2,sz_lt (by rw[e4.length];exact hlen),?_⟩;exact z _ _ g ((Gr.ex e).trans (Gr.upd I1.kd (e _ _ e2) (.inr f3))) (f5 _ (f4.append (.cons r .nil)))
   .exact au0 z
 .exact au0 z
def an8(j:Nat)(fi f:QF):SF:=λM Z=>match Z[j]? with
 |some (some (.mut xs))=>((f M Z).at M).then Z λd M'=>((fi M' Z).at M').then Z λi M2=>match i with
  |.int k=>match ixN xs.length k with
   |some n=>.next (Z.set j (some (.mut (xs.set n d)))) M2
   |none=>.bad
  |_=>.bad
 |_=>.bad
end
structure Gc(g g':Gh)(H H':Hp):Prop where
 keep:∀a o,H a=some o->¬g.W a->H' a=some o
 dom:∀a,H' a=none->H a=none
 tbl:∃more,g'.tbl=g.tbl++more
 W:∀a,g.W a->g'.W a
 nW:∀a,g'.W a->g.W a\/H a=none
 Lc:g'.Lc=g.Lc
 Lo:g'.Lo=g.Lo
def Yk(K:atw)(ak:aX)(n:Nat)(m:Mo->List Dat->Out Dat):Sp:=λvs H Q E=>vs.length=n/\∃g M ds,Kd g H/\gW K ak g H M/\aQ K g H vs ds/\
 (m M ds).sat (λd=>∀v H',Ex H H'->Rep K g H' v d->Q v H') λx=>∀H' c dd,Ex H H'->tR K ak g H' x c dd->E c dd H'
def Mv(K:atw)(ak:aX)(n:Nat)(m:Mo->List Dat->bG Dat):Sp:=λvs H Q E=>vs.length=n/\∃g M ds,Kd g H/\gW K ak g H M/\aQ K g H vs ds/\
 (m M ds).sat (λd M'=>∀v H' g',Gc g g' H H'->Kd g' H'->gW K ak g' H' M'->Rep K g' H' v d->Q v H') λx M'=>∀H' g' c dd,Gc g g' H H'->Kd g' H'->gW K ak g' H' M'->tR K ak g' H' x c dd->E c dd H'
section
variable{K:atw}{ak:aX}{W:WX}{g g':Gh}{H H':Hp}{σ:L2.St}{Z:Env}{M M':Mo}
theorem Gc.gr(r:Gc g g' H H'):Gr false g g' H H':=⟨λa o h n _=>r.keep a o h n,(λz=>nomatch z),r.dom,r.tbl,r.W,r.nW,(λz=>nomatch z),r.Lc,λa h=>by rw[r.Lo];exact h,λa h=>by rw[r.Lo]at h;exact .inl h⟩
theorem SInv.call(r:Gc g g' H H')(k':Kd g' H')(w':gW K ak g' H' M')(I:SInv K ak σ H g Z M):SInv K ak σ H' g' Z M' where
 kd:=k'
 wok:=w'
 len:=I.len
 dat:=λi d h=>by
  obtain⟨v,h1,h2⟩:=I.dat i d h;exact⟨v,h1,h2.gr r.gr I.kd⟩
 own:=λi xs h=>by
  obtain⟨l,us,h1,h2,h3,h4⟩:=I.own i xs h;exact⟨l,us,h1,r.keep _ _ h2 (I.kd.lo l h3),by rw[r.Lo];exact h3,h4.gr r.gr I.kd⟩
 sep:=I.sep
def Gh.in(g:Gh):Gh:={ g with Lc:=λa=>g.Lc a\/g.Lo a,Lo:=λ_=>False }
theorem aay(g:Gh)(a:Addr):g.in.A a↔g.A a:=by
 constructor
 .rintro(z|(z|z)|z)
  .exact .inl z
  .exact .inr (.inl z)
  .exact .inr (.inr z)
  .exact au0 z
 .rintro(z|z|z)
  .exact .inl z
  .exact .inr (.inl (.inl z))
  .exact .inr (.inl (.inr z))
theorem Kd.in(k:Kd g H):Kd g.in H:=⟨λa z=>k.ob a ((aay g a).mp z),λa z=>au0 z,λa z=>⟨z.elim (λz=>(k.lc a z).1) (λz=>k.lo a z),λy=>y⟩⟩
def ini(n:Nat)(ds:List Dat):Env:=ds.map (λd=>some (.dat d))++List.replicate (n-ds.length) none
theorem ada{N:List Str}{vs:List V}{ds:List Dat}(k:Kd g H)(w:gW K ak g H M)(r:aQ K g H vs ds):SInv K ak (start N vs) H g (ini N.length ds) M where
 kd:=k
 wok:=w
 len:=by unfold L2.start ini;rw[auj,auj,atJ,atJ,List.length_replicate,List.length_replicate,r.length]
 dat:=λi d h=>by
  unfold ini at h;unfold L2.start;by_cases hi:i<ds.length
  .rw[atN (by rw[atJ];exact hi),atR]at h;cases hd:ds[i]? with
   |none=>rw[hd]at h;cases h
   |some d'=>
    rw[hd]at h;cases h;obtain⟨v,h1,h2⟩:=r.get hd;refine⟨v,?_,h2⟩;rw[atN (by rw[atJ,r.length];exact hi),atR,h1];rfl
  .rw[atZ (by rw[atJ];omega)]at h;rw[List.getElem?_replicate]at h;split at h<;>cases h
 own:=λi xs h=>by
  unfold ini at h;by_cases hi:i<ds.length
  .rw[atN (by rw[atJ];exact hi),atR]at h;cases hd:ds[i]? with
   |none=>rw[hd]at h;cases h
   |some d'=>rw[hd]at h;cases h
  .rw[atZ (by rw[atJ];omega)]at h;rw[List.getElem?_replicate]at h;split at h<;>cases h
 sep:=λi j xs ys l ne h=>by
  unfold ini at h;by_cases hi:i<ds.length
  .rw[atN (by rw[atJ];exact hi),atR]at h;cases hd:ds[i]? with
   |none=>rw[hd]at h;cases h
   |some d'=>rw[hd]at h;cases h
  .rw[atZ (by rw[atJ];omega)]at h;rw[List.getElem?_replicate]at h;split at h<;>cases h
end
def mQ(n:Nat)(body:SF):Mo->List Dat->Out Dat:=λM ds=>match body M (ini n ds) with
 |.ret d _=>.ok d
 |.next _ _=>.ok .none
 |.exc x _ _=>.exc x
 |_=>.bad
def mG(n:Nat)(body:SF):Mo->List Dat->bG Dat:=λM ds=>match body M (ini n ds) with
 |.ret d M'=>.ok d M'
 |.next _ M'=>.ok .none M'
 |.exc x _ M'=>.exc x M'
 |_=>.bad
section
variable{P:Program}{w:World}{K:atw}{mg:Str->Option Value}{base:Heap}{ak:aX}
def aha(E:XK):WX:=λc d _ H=>E c d H
theorem Rep.same{g g':Gh}{H:Hp}{v:V}{d:Dat}(e:g'.tbl=g.tbl)(n:∀a,g'.A a↔g.A a)(h:Rep K g H v d):Rep K g' H v d:=h.less e λa z=>(n a).mp z
theorem aed{g g':Gh}{H H':Hp}(r:Gr true g.in g' H H'):Ex H H':=λa o h=>by
 by_cases w:g.W a
 .exact r.keepW rfl a o h w
 .exact r.keep a o h w λz=>z
theorem amP{q:Bool}{g g':Gh}{H H':Hp}(r:Gr q g.in g' H H')(a:Addr):g'.fr.A a↔(g'.W a\/g.Lc a\/g.Lo a):=by
 have hl:g'.Lc=g.in.Lc:=r.Lc;constructor
 .rintro(z|z|z)
  .exact .inl z
  .have z:g'.Lc a:=z;rw[hl]at z;exact .inr z
  .exact au0 z
 .rintro(z|z)
  .exact .inl z
  .refine .inr (.inl ?_);show g'.Lc a;rw[hl];exact z
theorem apA{x qual:Str}{st:Stmt}{f:Addr}{fd:FuncData}{N ps:List Str}{k:Nat}{body:SF}(F:Fun K x qual st f fd)(S:FnScope N ps (defScope st))
  (hb:∀(cdv:Value) (A:Around) (outer:List PySem.Env) (s:Shared) (H:Hp) (E:XK),Room k (A.deeper (envOfC qual (defScope st) s.heap.objs.size f cdv))->Mu ak (cxOf (L2.CX P w) P w K mg base N qual (defScope st) f cdv A outer s H E) (aha E) true (defBody st) body) :
  FnOk P w K mg base (L2.CX P w) (k+1) f fd ps (Yk K ak ps.length (mQ N.length body)):=by
 refine F.okX S (λvs H Q E h=>h.1) (λcdv A outer s H vs Q E hr h=>⟨_,hb cdv A outer s H E hr,?_⟩);obtain⟨hl,g,M,ds,kd,wk,rs,h⟩:=h;have wk':gW K ak g.in H M:=gW.less (g:=g) (g':=g.in) rfl rfl (λa z=>(aay g a).mp z) wk;refine⟨g.in,ini N.length ds,M,ada kd.in wk' (aQ.less (g:=g) (g':=g.in) rfl (λa z=>(aay g a).mp z) rs),?_⟩;have back:∀{g':Gh} {H':Hp},Gr true g.in g' H H'->∀a,g.A a↔g'.fr.A a:=λ{g' H'} r a=>by
  rw[amP r a];have e:=(r.qg rfl);have ew:g'.W a↔g.W a:=by unfold Gh.W;rw[e.1,e.2];rfl
  unfold Gh.A;rw[ew]
 unfold mQ at h;cases hf:body M (ini N.length ds) with
 |next Z' M'=>
  rw[hf]at h;exact λσ' H' g' r I'=>h _ H' (aed r) .non
 |ret d M'=>
  rw[hf]at h;exact λv H' g' r k' w' rv=>h v H' (aed r) (Rep.same (g:=g'.fr) (g':=g) (r.qg rfl).1.symm (back r) rv)
 |exc x Z' M'=>
  rw[hf]at h;exact λσ' H' g' c dd r I' rx=>h H' c dd (aed r) (tR.less (g:=g'.fr) (g':=g) (r.qg rfl).1.symm (λa z=>(back r a).mp z) rx)
 |brk Z' M'=>rw[hf]at h;exact au0 h
 |cont Z' M'=>rw[hf]at h;exact au0 h
 |bad=>rw[hf]at h;exact au0 h
theorem aoP{x qual:Str}{st:Stmt}{f:Addr}{fd:FuncData}{N ps:List Str}{k:Nat}{body:SF}(F:Fun K x qual st f fd)(S:FnScope N ps (defScope st))
  (hb:∀(cdv:Value) (A:Around) (outer:List PySem.Env) (s:Shared) (H:Hp) (E:XK),Room k (A.deeper (envOfC qual (defScope st) s.heap.objs.size f cdv))->Mu ak (cxOf (L2.CX P w) P w K mg base N qual (defScope st) f cdv A outer s H E) (aha E) false (defBody st) body) :
  FnOk P w K mg base (L2.CX P w) (k+1) f fd ps (Mv K ak ps.length (mG N.length body)):=by
 refine F.okX S (λvs H Q E h=>h.1) (λcdv A outer s H vs Q E hr h=>⟨_,hb cdv A outer s H E hr,?_⟩);obtain⟨hl,g,M,ds,kd,wk,rs,h⟩:=h;have wk':gW K ak g.in H M:=gW.less (g:=g) (g':=g.in) rfl rfl (λa z=>(aay g a).mp z) wk;refine⟨g.in,ini N.length ds,M,ada kd.in wk' (aQ.less (g:=g) (g':=g.in) rfl (λa z=>(aay g a).mp z) rs),?_⟩
 let gb:Gh->Gh:=λg'=>{ tbl:=g'.tbl,ow:=g'.ow,Lc:=g.Lc,Lo:=g.Lo }
 have gc:∀{g':Gh} {H':Hp},Gr false g.in g' H H'->Gc g (gb g') H H':=λ{g' H'} r=>⟨λa o h n=>r.keep a o h n λz=>z,r.dom,r.tbl,r.W,r.nW,rfl,rfl⟩;have eA:∀{g':Gh} {H':Hp},Gr false g.in g' H H'->∀a,(gb g').A a↔g'.fr.A a:=λ{g' H'} r a=>by
  rw[amP r a];exact Iff.rfl
 have kk:∀{g':Gh} {H':Hp},Gr false g.in g' H H'->Kd g'.fr H'->Kd (gb g') H':=λ{g' H'} r k'=>by
  have nw:∀a,(g.Lc a\/g.Lo a)->¬g'.W a:=λa z y=>by
   have:g'.fr.Lc a:=by show g'.Lc a;rw[show g'.Lc=g.in.Lc from r.Lc];exact z
   exact(k'.lc a this).1 y
  exact⟨λa z=>k'.ob a ((eA r a).mp z),λa z=>nw a (.inr z),λa z=>⟨nw a (.inl z),(kd.lc a z).2⟩⟩
 unfold mG at h;cases hf:body M (ini N.length ds) with
 |next Z' M'=>
  rw[hf]at h;exact λσ' H' g' r I'=>h _ H' (gb g') (gc r) (kk r I'.kd.fr) (gW.less (g:=g'.fr) (g':=gb g') rfl rfl (λa z=>(eA r a).mp z) I'.wok.fr) .non
 |ret d M'=>
  rw[hf]at h;exact λv H' g' r k' w' rv=>h v H' (gb g') (gc r) (kk r k') (gW.less (g:=g'.fr) (g':=gb g') rfl rfl (λa z=>(eA r a).mp z) w') (Rep.same (g:=g'.fr) (g':=gb g') rfl (eA r) rv)
 |exc x Z' M'=>
  rw[hf]at h;exact λσ' H' g' c dd r I' rx=>h H' (gb g') c dd (gc r) (kk r I'.kd.fr) (gW.less (g:=g'.fr) (g':=gb g') rfl rfl (λa z=>(eA r a).mp z) I'.wok.fr) (tR.less (g:=g'.fr) (g':=gb g') rfl (λa z=>(eA r a).mp z) rx)
 |brk Z' M'=>rw[hf]at h;exact au0 h
 |cont Z' M'=>rw[hf]at h;exact au0 h
 |bad=>rw[hf]at h;exact au0 h
end
def aR(m:Mo->List Dat->Out Dat)(as:QA):QF:=λM Z=>(as M Z).bind λds=>m M ds
section
variable{X:Cx}{ak:aX}{W:WX}{q:Bool}{a b e:Expr}{es:List Expr}{pos p:Pos}{x:Str}{k:Nat}{f:Addr}{fd:FuncData}{ps:List Str}
theorem akg{m:Mo->List Dat->Out Dat}{as:QA}(tk:Takes X W)(F:FnOk X.prog X.w X.K X.mg X.base (L2.CX X.prog X.w) k f fd ps (Yk X.K ak ps.length m))(hr:Room k X.A)(hg:Gl X x)(hm:X.mg x=some (.ref f))(hk:PySem.W.keepIn X.K (.ref f)=true)(hb:Binds X.K fd ps [])
  (ha:Gu ak X W (e::es) as) (hl:(e::es).length=ps.length) (hd:(x==("__debug__" : Str))=false) (hs:(e::es).all nst=true) (hn:∀M Z ds,as M Z=.ok ds->ds.length=(e::es).length):QE ak X W (.Call (.Name x p) (e::es) [] pos) (aR m as):=by
 have hs':=hs;rw[auk,atx]at hs';refine PE.weak (pe_callS (E:=λσ=>WE W σ) F hr hg hm hk hb (λσ=>passAt tk σ) ha hd (cP hs'.1 es) (star_any es hs'.2)) λσ H Q ⟨g,Z,M,I,h⟩=>?_;refine⟨g,Z,M,I,?_⟩;have h:=h.bnd;cases has:as M Z with
 |exc x=>rw[has]at h;exact h
 |bad=>rw[has]at h;exact h
 |ok ds=>
  rw[has]at h;have h:(m M ds).sat (λd=>∀v H',Ex H H'->Rep X.K g H' v d->Q v H') (sU X.K ak W g H σ):=h;intro vs H1 e1 r1;refine⟨by rw[r1.length,hn M Z ds has];exact hl,g,M,ds,I.kd.ex e1,I.wok.ex e1 I.kd,r1,h.mono (λd k v H' e' r'=>k v H' (e1.trans e') r') λx k H' c dd e' r'=>k H' c dd (e1.trans e') r'⟩
end
theorem ahy{n:Nat}(h:n<=16001):n<=sizeLine:=at3 h (by decide)
theorem ant{prog:Program}{w:World}{A:Around}{E:Value->Shared->Prop}{s:Shared}{l:Addr}{v0:Value}{vs:List Value}{Q:List Value->Shared->Prop}(hh:A.handled=none)(hl:s.heap.IsList l (v0::vs).toArray\/IsTup s.heap l (v0::vs).toArray)(hz:vs.length<=16000)
  (h:∀(h₂:Heap) (tk:Nat),(∀b o,s.heap.get? b=some o->h₂.get? b=some o)->Q [v0,.ref h₂.objs.size] { s with heap:=h₂.push { cls:=.type "list",data:=.seq vs.toArray },toks:=tk }):wpAny (model prog w) A (unpackItems (.ref l) 2 (some 1)) Q E s:=by
 have hll:l<s.heap.objs.size:=by rcases hl with⟨o,ho,_⟩|⟨o,ho,_⟩<;>exact Heap.lt_size ho
 have hlt:l≠s.heap.objs.size:=auf hll;have hsz:(v0::vs).toArray.size=vs.length+1:=by simp
 have hb:(v0::vs).toArray.size<=sizeLine:=ahy (by rw[hsz];omega);have hd:(v0::vs).toArray.toList.drop 1=vs:=by simp
 have ht:((v0::vs).toArray.toList.drop 0).take 1=[v0]:=by simp
 have fin:∀(h₂:Heap) (tk:Nat),(∀b o,b≠s.heap.objs.size->s.heap.get? b=some o->h₂.get? b=some o)->wpAny (model prog w) A (newList vs >>= λd=>pure ([v0]++[d]++[])) Q E { s with heap:=h₂,toks:=tk }:=λh₂ tk k=>by
  refine au3 (wpAny_newObj_type (au4 ?_) (ahy (by simp;omega)));exact h h₂ tk λb o e=>k b o (auf (Heap.lt_size e)) e
 unfold unpackItems;refine au3 ?_;unfold notIterableAtAll;rcases hl with hl|hl
 .refine au3 (wpAny_specialOf hl.typeIs slot_list_iter.lookup (au4 ?_));simp only[aud,if_false];refine au3 (wpAny_holding (wpAny_pyIter_list hl ?_));refine au3 (wpAny_holding (PySem.W.kun_draw hlt 1 0 _ _ ⟨_,Heap.get?_push_size _ rfl,rfl,rfl⟩ (hl.push _) (by rw[hsz];omega) λh₁ i1 b1=>?_));have hl₁:=(hl.push _).extBut b1.extBut hlt;obtain⟨oi,hoi,_⟩:=id i1;obtain⟨ol,hol,_⟩:=id hl₁;rw[ht];refine au3 (wpAny_holding (PySem.W.kun_collect (s:={ s with heap:=h₁ }) (T:="list_iterator") (.inr (.inr (.inl rfl))) (Walks.list (A:=A.in1) hh s.heap.objs.size l hlt (v0::vs).toArray) (λj u st=>st.1.typeIs) (k:=1) (by rw[hsz];omega) ⟨i1,hl₁⟩ (Heap.lt_size hoi) (Heap.lt_size hol) (λh₂ tk hk=>?_) hb))
  rw[hd];show wpAny _ _ (if vs.length<0 then _ else newList (vs.take (vs.length-0)) >>= λd=>pure ([v0]++[d]++vs.drop (vs.length-0))) _ _ _;rw[au6 (Nat.not_lt_zero _),Nat.sub_zero,List.take_length,auz];exact fin h₂ tk λb o ne e=>hk b o ne (b1.extBut b o ne (Heap.get?_push_of_some _ e))
 .refine au3 (wpAny_specialOf hl.typeIs slot_tuple_iter.lookup (au4 ?_));simp only[aud,if_false];refine au3 (wpAny_holding (iter_tuple hl ?_));refine au3 (wpAny_holding (draw_tuple hlt 1 0 _ _ ⟨_,Heap.get?_push_size _ rfl,rfl,rfl⟩ (hl.push _) (by rw[hsz];omega) λh₁ i1 b1=>?_));have hl₁:IsTup h₁ l (v0::vs).toArray:=(hl.push _).extBut b1.extBut hlt;obtain⟨oi,hoi,_⟩:=id i1;obtain⟨ol,hol,_⟩:=id hl₁;rw[ht];refine au3 (wpAny_holding (PySem.W.kun_collect (s:={ s with heap:=h₁ }) (T:="tuple_iterator") (.inr (.inr (.inr rfl))) (Walks.tuple (A:=A.in1) hh s.heap.objs.size l hlt (v0::vs).toArray) (λj u st=>st.1.typeIs) (k:=1) (by rw[hsz];omega) ⟨i1,hl₁⟩ (Heap.lt_size hoi) (Heap.lt_size hol) (λh₂ tk hk=>?_) hb))
  rw[hd];show wpAny _ _ (if vs.length<0 then _ else newList (vs.take (vs.length-0)) >>= λd=>pure ([v0]++[d]++vs.drop (vs.length-0))) _ _ _;rw[au6 (Nat.not_lt_zero _),Nat.sub_zero,List.take_length,auz];exact fin h₂ tk λb o ne e=>hk b o ne (b1.extBut b o ne (Heap.get?_push_of_some _ e))
def ail(K:atw)(i j:Nat):TG:=λv σ H Q=>∃a v0 us,v=.ref a/\(SqL K H a (v0::us)\/SqT K H a (v0::us))/\us.length<=16000/\∀D,H D=none->Q ((σ.set i (some v0)).set j (some (.ref D))) (upd H D (.lst us))
def Wi(X:Cx)(j:Nat)(x:Str):Prop:=X.N[j]?=some x/\Loc X.env.scope x/\(X.fn x=true\/X.env.scope.names.lookup x=some .local)
theorem ai9{X:Cx}{i j k:Nat}{x y:Str}{px py ps pos:Pos}(hc:X.calm=true)(hN:X.N.Nodup)(hx:Wi X i x)(hy:Wi X j y):PG X (.Tuple [.Name x px,.Starred (.Name y py) ps] k pos) (ail X.K i j):=by
 refine⟨λpins s σ H v u Q I r h=>?_⟩;obtain⟨a,v0,us,rfl,hq,hz,q⟩:=h;cases r;have e1:assign (.Tuple [.Name x px,.Starred (.Name y py) ps] k pos) X.env (.ref a)=(do standAt pos;unpack (.ref a) (assignEach [.Name x px,.Starred (.Name y py) ps] X.env)):=by with_unfolding_all rfl
 have e2:assignEach [.Name x px,.Starred (.Name y py) ps] X.env=[(false,assign (.Name x px) X.env),(true,assign (.Name y py) X.env)]:=by with_unfolding_all rfl
 rw[e1,e2];refine au3 (wpAny_standAt ?_);unfold unpack;obtain⟨w0,ws,hlw,rv0,rvs⟩:∃w0 ws,(s.heap.IsList a (w0::ws).toArray\/IsTup s.heap a (w0::ws).toArray)/\RelV v0 w0/\Vals us ws:=by
  rcases hq with hq|hq
  .obtain⟨its,rv,p,_⟩:=I.list hq;cases rv with
   |cons r t=>exact⟨_,_,.inl p.isList,r,t⟩
  .obtain⟨its,rv,p,_⟩:=I.tuple hq;cases rv with
   |cons r t=>exact⟨_,_,.inr p,r,t⟩
 refine au3 (wpAny_holding (ant (I.ok.hd hc) hlw (by rw[<-rvs.length];exact hz) λh₂ tk hk=>?_));have I2:L2.Inv X pins σ H { s with heap:=h₂,toks:=tk }:=I.kept (t':=tk) hk;have I3:=I2.lnew (t':=tk) rvs (ahy (by omega));refine assignInOrder_cons (wpAny_assign_Name (store_ok I3 hN hx.1 hx.2.1 rv0 (λs4 I4=>?_) hx.2.2));refine assignInOrder_cons (wpAny_assign_Name (store_ok I4 hN hy.1 hy.2.1 (v:=.ref h₂.objs.size) rfl (λs5 I5=>assignInOrder_nil ?_) hy.2.2));exact⟨_,_,I5,q _ I2.fresh⟩
section
variable{X:Cx}{ak:aX}{W:WX}{q:Bool}{e:Expr}{pos:Pos}
def Zm(i j:Nat)(f:GF):SF:=λM Z=>(f M Z).then Z λd M'=>match d with
 |.list (d0::ds)=>if ds.length<=16000 then .next ((Z.set i (some (.dat d0))).set j (some (.dat (.list ds)))) M' else .bad
 |.tuple (d0::ds)=>if ds.length<=16000 then .next ((Z.set i (some (.dat d0))).set j (some (.dat (.list ds)))) M' else .bad
 |_=>.bad
theorem aj7{i j k:Nat}{x y:Str}{px py ps tp:Pos}{f:GF}(hc:X.calm=true)(hN:X.N.Nodup)(hx:Wi X i x)(hy:Wi X j y)(he:GE ak X W q e f)(hs:swapsWithSole [.Tuple [.Name x px,.Starred (.Name y py) ps] k tp] e pos.line X.env=pure false)(hw:swappedStores [.Tuple [.Name x px,.Starred (.Name y py) ps] k tp] e X.env=pure none) :
  SE ak X W q (.Assign [.Tuple [.Name x px,.Starred (.Name y py) ps] k tp] e pos) (Zm i j f):=by
 refine PS.weak (ps_asg he (ai9 hc hN hx hy) hs hw (by with_unfolding_all rfl)) λD σ H ⟨g,Z,M,I,z⟩=>?_;refine tE.go I (dN (σ:=σ) z) λd M' v H' g' kk r I' rv=>?_;have fin:∀{a:Addr} {v0:V} {us:List V} {d0:Dat} {ds:List Dat},v=.ref a->(SqL X.K H' a (v0::us)\/SqT X.K H' a (v0::us))->Rep X.K g' H' v0 d0->aQ X.K g' H' us ds->(if ds.length<=16000 then vh.next ((Z.set i (some (.dat d0))).set j (some (.dat (.list ds)))) M' else .bad).sat (sN X.K ak q D.nx g H) (sR X.K ak q D.rt g H) (sN X.K ak q D.bk g H) (sN X.K ak q D.ct g H) (sX X.K ak W q g H)->ail X.K i j v σ H' D.nx:=λ{a v0 us d0 ds} ev hq r0 rs kk=>by
  split at kk
  .next hz=>
   refine⟨a,v0,us,ev,hq,by rw[rs.length];exact hz,λp np=>?_⟩;have e1:=Ex.new (o:=.lst us) np;have I2:=I'.ex e1;refine kk _ _ g' (r.trans (Gr.ex e1)) ((I2.set (r0.ex e1 I'.kd)).set (.lst (.inl ⟨.inl au7,I'.kd.fresh np⟩) (rs.ex e1 I'.kd)))
  .exact au0 kk
 split at kk
 .obtain⟨a,us,ev,s1,t1⟩:=jG rv.weak;cases t1 with
  |cons r0 rs=>exact fin ev (.inl s1) r0 rs kk
 .obtain⟨a,us,ev,s1,t1⟩:=nJ rv.weak;cases t1 with
  |cons r0 rs=>exact fin ev (.inr s1) r0 rs kk
 .exact au0 kk
def T7(i j:Nat)(f:GF):SF:=λM Z=>(f M Z).then Z λd M'=>.next ((Z.set i (some (.dat d))).set j (some (.dat d))) M'
theorem ajn{i j:Nat}{x y:Str}{px py:Pos}{f:GF}(hN:X.N.Nodup)(hx:Wi X i x)(hy:Wi X j y)(he:GE ak X W q e f)(hw:swappedStores [.Name x px,.Name y py] e X.env=pure none):SE ak X W q (.Assign [.Name x px,.Name y py] e pos) (T7 i j f):=by refine PS.weak (ps_asg2 he (pg_name hN hx.1 hx.2.1 hx.2.2) (pg_name hN hy.1 hy.2.1 hy.2.2) (by with_unfolding_all rfl) hw) λD σ H ⟨g,Z,M,I,z⟩=>?_;exact tE.go I (dN (σ:=σ) z) λd M' v H' g' kk r I' rv=>kk _ H' g' r ((I'.set rv).set rv)
theorem Uj{pins:List (Addr×Obj)}{H:Hp}{Q:Unit->Shared->Prop}(hN:X.N.Nodup):∀{xs:List Str} {js:List Nat} {vs:List V} {us:List Value} {σ:L2.St} {s:Shared},xs.length=js.length->Vals vs us->us.length=js.length->(∀(n:Nat) (x:Str) (j:Nat),xs[n]?=some x->js[n]?=some j->X.N[j]?=some x/\X.env.scope.names.lookup x=some .local)->L2.Inv X pins σ H s->
  (∀s',L2.Inv X pins (sets σ js vs) H s'->Q () s')->wpAny (model X.prog X.w) X.A (assignInOrder (xs.map λn=>bindName X.env n) us) Q X.xe s
 |[],[],_,[],σ,s,_,.nil,_,_,I,h=>assignInOrder_nil (h s I)
 |[],[],_,_::_,_,_,_,_,e,_,_,_=>nomatch e
 |[],_::_,_,_,_,_,e,_,_,_,_,_=>nomatch e
 |_::_,[],_,_,_,_,e,_,_,_,_,_=>nomatch e
 |x::xs,j::js,_,[],_,_,_,.nil,e,_,_,_=>nomatch e
 |x::xs,j::js,_,_::_,σ,s,e1,.cons r t,e2,hn,I,h=>by
  obtain⟨h1,h2⟩:=hn 0 x j rfl rfl;refine assignInOrder_cons (wpAny_bindName (store_ok I hN h1 (.inl h2) r (λs2 I2=>?_) (.inr h2)));exact Uj hN (auy e1) t (auy e2) (λn x j a b=>hn (n+1) x j a b) I2 h
theorem ab0(σ:L2.St):∀(js:List Nat) (vs:List V) (ks:List Nat) (ws:List V),js.length=vs.length->sets σ (js++ks) (vs++ws)=sets (sets σ js vs) ks ws:=by
 intro js
 induction js generalizing σ with
 |nil=>
  intro vs ks ws e;cases vs with
  |nil=>rfl
  |cons v vs=>cases e
 |cons j js ih=>
  intro vs ks ws e;cases vs with
  |nil=>cases e
  |cons v vs=>exact ih (σ.set j (some v)) vs ks ws (auy e)
theorem Yu(j:Nat)(v:V):∀(js:List Nat) (vs:List V) (σ:L2.St),j∉js->(sets σ js vs).set j (some v)=sets (σ.set j (some v)) js vs
 |[],_,_,_=>by unfold sets;rfl
 |_::_,[],_,_=>by unfold sets;rfl
 |k::js,w::vs,σ,h=>by
  show(sets (σ.set k (some w)) js vs).set j (some v)=sets ((σ.set j (some v)).set k (some w)) js vs
  rw[Yu j v js vs _ λz=>h (atA _ z),List.set_comm _ _ (λz=>h (by rw[z];exact atD))]
theorem aas:∀(js:List Nat) (vs:List V) (σ:L2.St),js.Nodup->js.length=vs.length->sets σ js.reverse vs.reverse=sets σ js vs
 |[],[],_,_,_=>rfl
 |[],_::_,_,_,e=>nomatch e
 |_::_,[],_,_,e=>nomatch e
 |j::js,v::vs,σ,nd,e=>by
  rw[auC]at nd;rw[auK,auK,ab0 _ _ _ _ _ (by rw[auw,auw];exact auy e),aas js vs σ nd.2 (auy e)]
  show(sets σ js vs).set j (some v)=sets (σ.set j (some v)) js vs
  exact Yu j v js vs σ nd.1
theorem vals_rev{vs:List V}{us:List Value}(r:Vals vs us):Vals vs.reverse us.reverse:=by
 induction r with
 |nil=>exact .nil
 |cons h t ih=>
  rw[auK,auK];exact Vals.append ih (.cons h .nil)
def tPN(js:List Nat)(ta:TA):TS:=λD σ H=>ta σ H λvs H1=>vs.length=js.length/\D.nx (sets σ js vs) H1
theorem anL{ts es:List Expr}{xs:List Str}{js:List Nat}{ta:TA}{kt k2:Nat}{pt p2:Pos}(hc:X.calm=true)(hN:X.N.Nodup)(hnd:js.Nodup)(hl:xs.length=js.length)(h3:js.length<=3)(hn:∀(n:Nat) (x:Str) (j:Nat),xs[n]?=some x->js[n]?=some j->X.N[j]?=some x/\X.env.scope.names.lookup x=some .local)(ha:PA X es ta)
  (hw:swappedStores [.Tuple ts kt pt] (.Tuple es k2 p2) X.env=pure (some xs)) (hs:swapsWithSole [.Tuple ts kt pt] (.Tuple es k2 p2) pos.line X.env=pure false):PS X (.Assign [.Tuple ts kt pt] (.Tuple es k2 p2) pos) (tPN js ta):=by
 refine⟨λpins s σ H D I h=>?_⟩;rw[exec_Assign_arm];refine au3 (wpAny_standAt ?_);rw[hs];refine au3 (au4 ?_);rw[au6 (by decide)];refine au3 (Tuple_ (thn (ha.run _ pins s σ H _ I h) λus s1 ⟨vs,H1,I1,r1,e1,q1⟩=>?_));have hu:us.length=js.length:=by rw[<-r1.length];exact e1
 refine wpAny_newObj_type ?_ (at3 (by simp;omega) (show 3<=sizeLine by decide));have I2:L2.Inv X pins σ H1 { s1 with heap:=s1.heap.push { cls:=.type "tuple",data:=.seq us.toArray } }:=I1.kept (t':=s1.toks) λb o z=>Heap.get?_push_of_some _ z
 rw[hw];refine au3 (au4 ?_);show wpAny (model X.prog X.w) X.A (do rule "assign.swapped-stores";let items <-unpackItems (.ref s1.heap.objs.size) xs.length none;assignInOrder (xs.reverse.map λn=>bindName X.env n) items.reverse;pure Flow.next) _ _ _
 have hz:us.toArray.size=xs.length:=by rw[auR,hu,hl]
 have hup:=λ{Q:List Value->Shared->Prop} hQ=>unpackItems_tuple (prog:=X.prog) (w:=X.w) (A:=X.A) (E:=X.xe) (s:={ s1 with heap:=s1.heap.push { cls:=.type "tuple",data:=.seq us.toArray } }) (items:=us.toArray) (Q:=Q) (I.ok.hd hc) (IsTup.new s1.heap _) hQ
 rw[hz]at hup;refine au3 (wpAny_rule (au3 (hup λh' hx'=>?_)));have I3:=I2.kept (h':=h') (t':=s1.toks) λb o z=>hx' b o (auf (Heap.lt_size z)) z;refine au3 (Uj hN (js:=js.reverse) (vs:=vs.reverse) (by rw[auw,auw];exact hl) (vals_rev r1) (by rw[auw,auw];exact hu) (λn x j a b=>?_) I3 λs4 I4=>au4 ?_)
 .have n1:=(aty.mp a).1;have n2:=(aty.mp b).1;rw[auw]at n1 n2;rw[List.getElem?_reverse n1]at a;rw[List.getElem?_reverse n2,<-hl]at b;exact hn _ x j a b
 .rw[aas js vs σ hnd e1.symm]at I4;exact⟨_,H1,I4,q1⟩
def sPN(js:List Nat)(as:QA):SF:=λM Z=>((as M Z).at M).then Z λds M'=>match uN js ds Z with
 |some Z'=>.next Z' M'
 |none=>.bad
theorem aos{ts es:List Expr}{xs:List Str}{js:List Nat}{as:QA}{kt k2:Nat}{pt p2:Pos}(hc:X.calm=true)(hN:X.N.Nodup)(hnd:js.Nodup)(hl:xs.length=js.length)(h3:js.length<=3)(hn:∀(n:Nat) (x:Str) (j:Nat),xs[n]?=some x->js[n]?=some j->X.N[j]?=some x/\X.env.scope.names.lookup x=some .local)(ha:Gu ak X W es as)
  (hw:swappedStores [.Tuple ts kt pt] (.Tuple es k2 p2) X.env=pure (some xs)) (hs:swapsWithSole [.Tuple ts kt pt] (.Tuple es k2 p2) pos.line X.env=pure false):SE ak X W q (.Assign [.Tuple ts kt pt] (.Tuple es k2 p2) pos) (sPN js as):=by
 refine PS.weak (anL hc hN hnd hl h3 hn ha hw hs) λD σ H ⟨g,Z,M,I,z⟩=>?_;refine⟨g,Z,M,I,?_⟩;unfold sPN at z;cases hf:as M Z with
 |exc x=>rw[hf]at z;exact λH' c dd e r=>z σ H' g c dd (Gr.ex e) (I.ex e) r.fr
 |bad=>rw[hf]at z;exact au0 z
 |ok ds=>
  rw[hf]at z;intro vs H' e r;have z:(match uN js ds Z with
   |some Z'=>vh.next Z' M
   |none=>.bad).sat (sN X.K ak q D.nx g H) (sR X.K ak q D.rt g H) (sN X.K ak q D.bk g H) (sN X.K ak q D.ct g H) (sX X.K ak W q g H):=z
  split at z
  .next Z' e'=>
   obtain⟨l1,I1⟩:=J5 (I.ex e) r e';exact⟨l1,z _ H' g (Gr.ex e) I1⟩
  .exact au0 z
theorem aml{j:Nat}{y:Str}{py:Pos}{elt tg iter:Expr}{cpos:Pos}{scope:Scope}{own:List (Str×Nat)}{it:IF}{tgf:gj}{js:List Nat}{tt:QT}{te:QF}{ifs:List Expr}(hc:X.calm=true)(hN:X.N.Nodup)(hy:X.N[j]?=some y)(hyl:X.env.scope.names.lookup y=some .local)
  (hsw:swapsWith (.ListComp elt [⟨tg,iter,ifs,0⟩] scope cpos) (some (.Name y py)) pos.line X.env=pure true) (hi:QI ak X W false tg iter it) (ok:blkC X.N X.env.scope scope own=true) (hj:∀j∈js,j∈own.map (·.2))
  (hg:∀(s:Shared) (H:Hp) (C:Addr) (cl:List (Str×Addr)) (fp:List Addr),QG ak (X.blk s H scope (compEnvC scope cl C X.env) fp) tg js tgf)
  (ht:∀(s:Shared) (H:Hp) (C:Addr) (cl:List (Str×Addr)) (fp:List Addr),PTs (X.blk s H scope (compEnvC scope cl C X.env) fp) ifs (jV X.K ak WF tt))
  (he:∀(s:Shared) (H:Hp) (C:Addr) (cl:List (Str×Addr)) (fp:List Addr),QE ak (X.blk s H scope (compEnvC scope cl C X.env) fp) WF elt te) (hs:∀x,foldedSetIterable iter X.env x=pure x) :
  SE ak X W q (.Assign [.Name y py] (.ListComp elt [⟨tg,iter,ifs,0⟩] scope cpos) pos) (aZ (aF j) (gOf (fu it tgf (own.map (·.2)) tt te))):=by
 refine PS.weak (ps_setLc (g:=zA X.K ak js tgf) (tt:=jV X.K ak WF tt) (te:=tQ X.K ak WF te) hc hN hy hyl hsw hi (blkOk_by ok) (λs H C cl fp=>hg s H C cl fp) ht (λs H C cl fp=>he s H C cl fp) hs) λD σ H ⟨g,Z,M,I,z⟩=>?_;refine aiE hj σ H _ ⟨g,Z,M,I,(Out.jF (dN (σ:=σ) z)).mono (λd kk v H' e r=>?_) λx kk H' c dd e r=>kk H' g c dd (Gr.ex e) (I.ex e) r⟩;exact kk _ H' g (Gr.ex e) ((I.ex e).set r)
end
inductive GV where
 |con (d:Dat)
 |fq (n:Nat) (m:Mo->List Dat->Out Dat)
 |fg (n:Nat) (m:Mo->List Dat->bG Dat)
 |dic (kvs:List (Str×Dat))
 |exc
 |exi (fs:List Str)
 |cls (n:Nat) (m:Mo->List Dat->bG Dat)
inductive MV where
 |q (n:Nat) (m:Mo->List Dat->Out Dat)
 |g (n:Nat) (m:Mo->List Dat->bG Dat)
def FQ(P:Program)(w:World)(K:atw)(mg:Str->Option Value)(base:Heap)(ak:aX)(k:Nat)(f:Addr)(n:Nat)(m:Mo->List Dat->Out Dat):Prop:=
 ∃(fd:FuncData) (ps:List Str) (j:Nat),j<=k/\ps.length=n/\Binds K fd ps []/\FnOk P w K mg base (L2.CX P w) j f fd ps (Yk K ak ps.length m)
def FG(P:Program)(w:World)(K:atw)(mg:Str->Option Value)(base:Heap)(ak:aX)(k:Nat)(f:Addr)(n:Nat)(m:Mo->List Dat->bG Dat):Prop:=
 ∃(fd:FuncData) (ps:List Str) (j:Nat),j<=k/\ps.length=n/\Binds K fd ps []/\FnOk P w K mg base (L2.CX P w) j f fd ps (Mv K ak ps.length m)
def j5(K:atw)(ak:aX):Prop:=∀c C f,ak c=some C->f∈ak.fl c->Cls K C/\NoAttr K C f
def cC(P:Program)(w:World)(K:atw)(mg:Str->Option Value)(base:Heap)(ak:aX)(k:Nat)(c m:Str)(v:MV):Prop:=
 ∃C f,ak c=some C/\Cls K C/\Meth K C m f/\m∉ak.fl c/\match v with
  |.q n mm=>FQ P w K mg base ak k f n mm
  |.g n mm=>FG P w K mg base ak k f n mm
def ahR(C:Addr)(fs:List Str):Sp:=λvs H Q _=>∃(a:Addr) (xs:List V),vs=.ref a::xs/\xs.length=fs.length/\H a=some (exo a C none)/\
 ∀(dx:Addr) (H':Hp),H dx=none->(∀b o,b≠a->H b=some o->H' b=some o)->(∀b,H' b=none->H b=none)->H' a=some (exo a C (some dx))->H' dx=some (exd dx (fs.zip xs).reverse)->Q .non H'
def adN(w:World)(K:atw)(a:Addr)(kvs:List (Str×Dat)):Prop:=∃(es:Array DictEntry) (n:Nat),KDict K w a es n/\(kvs.map (·.1)).Nodup/\
 ∀x:Str,match kvs.lookup x with
  |some d=>∃v u,PySem.W.nsIn K a x=some (some u)/\RelV v u/\∀g H,Rep K g H v d
  |none=>PySem.W.nsIn K a x=some none
def bh(P:Program)(w:World)(K:atw)(mg:Str->Option Value)(base:Heap)(ak:aX)(k:Nat)(x:Str):GV->Prop
 |.con d=>∃v u,mg x=some u/\RelV v u/\∀g H,Rep K g H v d
 |.fq n m=>∃f,mg x=some (.ref f)/\PySem.W.keepIn K (.ref f)=true/\FQ P w K mg base ak k f n m
 |.fg n m=>∃f,mg x=some (.ref f)/\PySem.W.keepIn K (.ref f)=true/\FG P w K mg base ak k f n m
 |.dic kvs=>∃a,mg x=some (.ref a)/\adN w K a kvs
 |.exc=>∃C,mg x=some (.ref C)/\ak x=some C/\PySem.W.excIn K C He.veBase "ValueError.__new__"=true/\PySem.W.keepIn K (.ref C)=true/\PySem.W.subIn K (.ref C) (.type "BaseException")=some true/\PySem.W.typeIn K (.ref C)=some (.type "type")
 |.exi fs=>∃(C fI:Addr) (fd:FuncData) (ps:List Str),mg x=some (.ref C)/\ak x=some C/\OexC K C/\PySem.W.findIn K (.ref C) "__init__"=some (some (.ref fI))/\PySem.W.typeIn K (.ref fI)=some (.type "function")/\2<=k/\ps.length=fs.length+1/\Binds K fd ps []/\FnOk P w K mg base CX0 1 fI fd ps (ahR C fs)
 |.cls n m=>∃(C f:Addr) (fd:FuncData) (ps:List Str) (j:Nat),mg x=some (.ref C)/\ak x=some C/\Cls K C/\Mk K C f/\j+1<=k/\ps.length=n+1/\Binds K fd ps []/\FnOk P w K mg base (L2.CX P w) j f fd ps (Mv K ak ps.length m)
def aei(K:atw)(ak:aX)(y:Str)(tk:Str->Option Bool):Prop:=∀x b C,tk x=some b->ak x=some C->∀D,ak y=some D->PySem.W.exmOne K (.ref C) (.ref D)=some b
def putL(f:Str)(x:jN):List (Str×jN)->List (Str×jN)
 |[]=>[(f,x)]
 |(g,y)::r=>if g=f then(g,x)::r else(g,y)::putL f x r
def Inst.put(i:Inst)(f:Str)(x:jN):Inst:=⟨i.cls,putL f x i.fs⟩
theorem Lp(f:Str)(x:jN):∀gs:List (Str×jN),(putL f x gs).map (·.1)=if f∈gs.map (·.1) then gs.map (·.1) else gs.map (·.1)++[f]
 |[]=>by simp[putL]
 |(g,y)::r=>by
  have ih:=Lp f x r;rw[putL];by_cases e:g=f
  .subst e;simp
  .rw[au6 e,atE,ih];by_cases h:f∈r.map (·.1)
   .rw[au5 h,au5 (by simp[h])];rfl
   .rw[au6 h,au6 (by
     rw[atE,atO]
     rintro(z|z)
     .exact e z.symm
     .exact h z)]
    rfl
theorem aev{f:Str}{x:jN}{gs:List (Str×jN)}(h:(gs.map (·.1)).Nodup):((putL f x gs).map (·.1)).Nodup:=by
 rw[Lp];split
 .exact h
 .next n=>
  rw[auv];refine⟨h,by simp,λa ha b hb e=>?_⟩;subst e;rw[atF]at hb;subst hb;exact n ha
theorem NT{f:Str}{v:V}:∀{fs:List (Str×V)},fs.lookup f=some v->putF f v fs=fs
 |[],h=>nomatch h
 |(g,y)::r,h=>by
  rw[aub]at h;rw[show putF f v ((g,y)::r)=(if g=f then(g,v)::r else(g,y)::putF f v r) from rfl];by_cases e:g=f
  .subst e;simp at h;rw[au5 rfl,h]
  .have ne:(f==g)=false:=by simpa using λz=>e z.symm
   rw[ne]at h;rw[au6 e,NT h]
section
variable{K:atw}{ak:aX}{W:WX}{g g':Gh}{H H':Hp}{σ:L2.St}{Z:Env}{M:Mo}{h:Nat}{f:Str}{v:V}{fl:jN}
theorem cU.put(hk:∀f' v' fl',f'≠f->eU K ak g H h f' v' fl'->eU K ak g' H' h f' v' fl')(new:eU K ak g' H' h f v fl):∀{fs:List (Str×V)} {gs:List (Str×jN)},cU K ak g H h fs gs->(gs.map (·.1)).Nodup->cU K ak g' H' h (putF f v fs) (putL f fl gs)
 |_,_,.nil,_=>.cons new .nil
 |_,_,.cons (f:=f') (v:=v') (fl:=fl') (fs:=fs) (gs:=gs) z t,nd=>by
  rw[show putF f v ((f',v')::fs)=(if f'=f then(f',v)::fs else(f',v')::putF f v fs) from rfl,putL];rw[atE,auC]at nd;by_cases e:f'=f
  .subst e;rw[au5 rfl,au5 rfl];refine .cons new ?_;have go:∀{fs:List (Str×V)} {gs:List (Str×jN)},cU K ak g H h fs gs->f'∉gs.map (·.1)->cU K ak g' H' h fs gs:=λ{fs gs} t=>by
    induction t with
    |nil=>exact λ_=>.nil
    |cons z _ ih=>
     intro n;rw[atE,atO,not_or]at n;exact .cons (hk _ _ _ (λq=>n.1 q.symm) z) (ih n.2)
   exact go t nd.1
  .rw[au6 e,au6 e];exact .cons (hk _ _ _ e z) (cU.put hk new t nd.2)
structure Chg(M:Mo)(g g':Gh)(H H':Hp)(h:Nat)(f:Str):Prop where
 gc:Gc g g' H H'
 kd:Kd g' H'
 tbl:g'.tbl=g.tbl
 ow:∀a p,g.ow a=some p->g'.ow a=some p
 oth:∀a p,g.ow a=some p->p≠(h,f)->H' a=H a
 ins:∀(k:Nat) (a:Addr) (i:Inst),g.tbl[k]?=some a->M[k]?=some i->i.cls≠""->k≠h->H' a=H a
 nt:∀(k:Nat) (a:Addr) (i:Inst),g.tbl[k]?=some a->M[k]?=some i->i.cls≠""->∀p,g'.ow a≠some p
theorem j7.chg{l:Addr}(r:Gr false g g' H H')(k:Kd g H)(e:H' l=H l):∀{n:Bool} {kvs:List (Dat×Dat)},j7 K ak g H l n kvs->j7 K ak g' H' l n kvs
 |false,_,⟨kv,h1,h2,h3⟩=>⟨kv,e.trans h1,h2,h3.gr r k⟩
 |true,_,⟨o,xs,vs,h1,h2,h3,h4,h5,h6⟩=>⟨o,xs,vs,e.trans h1,h2,h3,h4.gr r k,h5,h6.gr r k⟩
theorem eU.chg(c:Chg M g g' H H' h f)(k:Kd g H){h':Nat}{f':Str}{v':V}(ne:(h',f')≠(h,f)):∀{fl':jN},eU K ak g H h' f' v' fl'->eU K ak g' H' h' f' v' fl'
 |.dat _,z=>Rep.gr c.gc.gr k z
 |.lst _ _,⟨l,us,h1,h2,h3,h4,h5⟩=>⟨l,us,h1,(c.oth l _ h3 ne).trans h2,c.ow l _ h3,h4.gr c.gc.gr k,c.gc.gr.tb h5⟩
 |.dic _ _,⟨l,h1,h2,h3⟩=>⟨l,h1,c.ow l _ h2,h3.chg c.gc.gr k (c.oth l _ h2 ne)⟩
theorem gW.chg(w:gW K ak g H M)(k:Kd g H)(c:Chg M g g' H H' h f){a:Addr}{i:Inst}(ha:g.tbl[h]?=some a)(hi:M[h]?=some i)(hne:i.cls≠"")(hf:f∈ak.fl i.cls){C dx:Addr}{fs:List (Str×V)}(hC:ak i.cls=some C)(R:cU K ak g H h fs i.fs)
  (e':H' a=some (.ins C dx (putF f v fs))) (new:eU K ak g' H' h f v fl):gW K ak g' H' (M.set h (i.put f fl)) where
 len:=by rw[c.tbl,at8];exact w.len
 inj:=by rw[c.tbl];exact w.inj
 ins:=λh' a' i' ha' hi' hc'=>by
  rw[c.tbl]at ha';by_cases z:h'=h
  .subst z;rw[ha]at ha';cases ha';rw[atX (aty.mp hi).1]at hi';cases hi';exact⟨C,dx,_,hC,e',R.put (λf' v' fl' ne z=>z.chg c k λq=>ne (congrArg Prod.snd q)) new (w.nd _ i hi)⟩
  .rw[atH (Ne.symm z)]at hi';obtain⟨C',dx',fs',c1,c2,c3⟩:=w.ins h' a' i' ha' hi' hc';refine⟨C',dx',fs',c1,(c.ins h' a' i' ha' hi' hc' z).trans c2,?_⟩;have go:∀{fs:List (Str×V)} {gs:List (Str×jN)},cU K ak g H h' fs gs->cU K ak g' H' h' fs gs:=λ{fs gs} t=>by
    induction t with
    |nil=>exact .nil
    |cons y _ ih=>exact .cons (y.chg c k λq=>z (congrArg Prod.fst q)) ih
   exact go c3
 nd:=λh' i' hi'=>by
  by_cases z:h'=h
  .subst z;rw[atX (aty.mp hi).1]at hi';cases hi';exact aev (w.nd _ i hi)
  .rw[atH (Ne.symm z)]at hi';exact w.nd h' i' hi'
 fd:=λh' i' hi' f' hf'=>by
  by_cases z:h'=h
  .subst z;rw[atX (aty.mp hi).1]at hi';cases hi';have hf':f'∈(putL f fl i.fs).map (·.1):=hf';rw[Lp]at hf';split at hf'
   .exact w.fd _ i hi f' hf'
   .rcases atL.mp hf' with y|y
    .exact w.fd _ i hi f' y
    .rw[atF]at y;rw[y];exact hf
  .rw[atH (Ne.symm z)]at hi';exact w.fd h' i' hi' f' hf'
 tw:=λk' a' i' ha' hi' hc'=>by
  rw[c.tbl]at ha';have:∃i0,M[k']?=some i0/\i0.cls≠"":=by
   by_cases z:k'=h
   .subst z;exact⟨i,hi,hne⟩
   .rw[atH (Ne.symm z)]at hi';exact⟨i',hi',hc'⟩
  obtain⟨i0,m1,m2⟩:=this;cases hz:g'.ow a' with
  |none=>rfl
  |some p=>exact absurd hz (c.nt k' a' i0 ha' m1 m2 p)
 dm:=λh' i' hi' hc'=>by
  by_cases z:h'=h
  .subst z;rw[atX (aty.mp hi).1]at hi';cases hi';exact absurd hc' hne
  .rw[atH (Ne.symm z)]at hi';exact w.dm h' i' hi' hc'
 nc:=w.nc
theorem aop{a:Addr}(ha:g.tbl[h]?=some a):g.W a:=.inl (atG ha)
theorem Wk(k:Kd g H)(w:gW K ak g H M){a:Addr}{i:Inst}(ha:g.tbl[h]?=some a)(hi:M[h]?=some i)(hc:i.cls≠""){C dx:Addr}{fs':List (Str×V)}:Chg M g g H (upd H a (.ins C dx fs')) h f where
 gc:=⟨λb o hb n=>by rw[upd_ne (λz=>by subst z;exact n (aop ha))];exact hb,λb hb=>by
  by_cases z:b=a
  .subst z;rw[au7]at hb;cases hb
  .rw[upd_ne z]at hb;exact hb,⟨[],by simp⟩,λ_ z=>z,λ_ z=>.inl z,rfl,rfl⟩
 kd:=k.upd trivial
 tbl:=rfl
 ow:=λ_ _ z=>z
 oth:=λb p hb _=>upd_ne λz=>by
  subst z;rw[w.tw h _ i ha hi hc]at hb;cases hb
 ins:=λj b i' hb _ _ ne=>upd_ne λz=>by
  subst z;exact ne (w.inj _ _ _ hb ha)
 nt:=λj b i' hb hj hcj p z=>by
  rw[w.tw j b i' hb hj hcj]at z;cases z
def Gh.own(g:Gh)(l:Addr)(h:Nat)(f:Str):Gh:={ g with ow:=λb=>if b=l then some (h,f) else g.ow b }
theorem aod{l a:Addr}(hl:l∈g.tbl):(g.own l h f).W a↔g.W a:=by
 constructor
 .rintro(z|z)
  .exact .inl z
  .by_cases y:a=l
   .subst y;exact .inl hl
   .have z:(if a=l then some (h,f) else g.ow a)≠none:=z;rw[au6 y]at z;exact .inr z
 .rintro(z|z)
  .exact .inl z
  .refine .inr ?_
   show(if a=l then some (h,f) else g.ow a)≠none
   split
   .exact λq=>nomatch q
   .exact z
theorem Ww(k:Kd g H)(w:gW K ak g H M){a l:Addr}{n:Nat}{i:Inst}(ha:g.tbl[h]?=some a)(hi:M[h]?=some i)(hc:i.cls≠"")(hl:g.tbl[n]?=some l)(hn:M[n]?=some ⟨"",[]⟩)(nl:g.ow l=none){C dx:Addr}{fs':List (Str×V)}:Chg M g (g.own l h f) H (upd H a (.ins C dx fs')) h f:=by
 have W':∀{b:Addr},(g.own l h f).W b↔g.W b:=λ{b}=>aod (atG hl);have d:=Wk (f:=f) (C:=C) (dx:=dx) (fs':=fs') k w ha hi hc;refine⟨⟨d.gc.keep,d.gc.dom,⟨[],by simp[Gh.own]⟩,λb z=>W'.mpr z,λb z=>.inl (W'.mp z),rfl,rfl⟩,⟨λb z=>d.kd.ob b ?_,λb z y=>d.kd.lo b z (W'.mp y),λb z=>⟨λy=>(d.kd.lc b z).1 (W'.mp y),(d.kd.lc b z).2⟩⟩,rfl,λb p z=>?_,d.oth,d.ins,λj b i' hb hj hcj p z=>?_⟩
 .rcases z with z|z|z
  .exact .inl (W'.mp z)
  .exact .inr (.inl z)
  .exact .inr (.inr z)
 .show(if b=l then some (h,f) else g.ow b)=some p
  rw[au6 (λy=>by subst y;rw[nl]at z;cases z)];exact z
 .have z:(if b=l then some (h,f) else g.ow b)=some p:=z;by_cases y:b=l
  .subst y;cases w.inj _ _ _ hb hl;rw[hn]at hj;cases hj;exact hcj rfl
  .rw[au6 y,w.tw j b i' hb hj hcj]at z;cases z
theorem agr(k:Kd g H)(w:gW K ak g H M){l:Addr}{o':HO}(ho:g.ow l=some (h,f))(mo:KQ o'):Chg M g g H (upd H l o') h f where
 gc:=⟨λb u hb n=>by rw[upd_ne (λz=>by subst z;exact n (.inr (by rw[ho];exact λy=>nomatch y)))];exact hb,λb hb=>by
  by_cases z:b=l
  .subst z;rw[au7]at hb;cases hb
  .rw[upd_ne z]at hb;exact hb,⟨[],by simp⟩,λ_ z=>z,λ_ z=>.inl z,rfl,rfl⟩
 kd:=k.upd mo
 tbl:=rfl
 ow:=λ_ _ z=>z
 oth:=λb p hb ne=>upd_ne λz=>by
  subst z;rw[ho]at hb;exact ne (atY hb).symm
 ins:=λj b i' hb hj hcj ne=>upd_ne λz=>by
  subst z;rw[w.tw j _ i' hb hj hcj]at ho;cases ho
 nt:=λj b i' hb hj hcj p z=>by
  rw[w.tw j b i' hb hj hcj]at z;cases z
theorem cU.len{fs:List (Str×V)}{gs:List (Str×jN)}(t:cU K ak g H h fs gs):fs.length=gs.length:=by
 induction t with
 |nil=>rfl
 |cons _ _ ih=>simp[ih]
end
def O6(M:Mo)(f:Str):Dat->Option jN
 |.dict [(.none,.int (.ofNat h))]=>(M[h]?).bind λi=>i.fs.lookup f
 |_=>none
def gq(f:Str)(o:QF):QF:=λM Z=>(o M Z).bind λd=>match O6 M f d with
 |some (.dat x)=>.ok x
 |_=>.bad
def bL(f:Str)(o:QF):QF:=λM Z=>(o M Z).bind λd=>match O6 M f d with
 |some (.dat x)=>.ok x
 |some (.lst _ xs)=>.ok (.list xs)
 |_=>.bad
theorem ago{M:Mo}{f:Str}{d:Dat}{fl:jN}(h:O6 M f d=some fl):∃n i,d=obj n/\M[n]?=some i/\i.fs.lookup f=some fl:=by
 unfold O6 at h;split at h
 .next n=>
  obtain⟨i,h1,h2⟩:=atv.mp h;exact⟨n,i,rfl,h1,h2⟩
 .cases h
theorem lookup_mem{f:Str}{fl:jN}:∀{gs:List (Str×jN)},gs.lookup f=some fl->f∈gs.map (·.1)
 |[],h=>nomatch h
 |(g,y)::r,h=>by
  rw[aub]at h;cases hb:f==g with
  |true=>rw[au8 hb];simp
  |false=>
   rw[hb]at h;exact atA _ (lookup_mem h)
section
variable{K:atw}{ak:aX}{g:Gh}{H:Hp}{M:Mo}
theorem aaF(co:j5 K ak)(w:gW K ak g H M){f:Str}{d:Dat}{fl:jN}{v:V}(h:O6 M f d=some fl)(r:eZ K g H v d):∃n i a C dx fs u,d=obj n/\M[n]?=some i/\i.fs.lookup f=some fl/\g.tbl[n]?=some a/\v=.ref a/\ak i.cls=some C/\H a=some (.ins C dx fs)/\cU K ak g H n fs i.fs/\Cls K C/\NoAttr K C f/\fs.lookup f=some u/\eU K ak g H n f u fl:=by
 obtain⟨n,i,rfl,h1,h2⟩:=ago h;obtain⟨a,rfl,ha⟩:=Nh r;have hc:i.cls≠"":=λz=>by
  rw[w.dm n i h1 z]at h2;cases h2
 obtain⟨C,dx,fs,c1,c2,c3⟩:=w.ins n a i ha h1 hc;obtain⟨u,l1,l2⟩:=c3.get h2;obtain⟨k1,k2⟩:=co i.cls C f c1 (w.fd n i h1 f (lookup_mem h2));exact⟨n,i,a,C,dx,fs,u,rfl,h1,h2,ha,rfl,c1,c2,c3,k1,k2,l1,l2⟩
end
section
variable{X:Cx}{ak:aX}{W:WX}{o e:Expr}{es:List Expr}{fo:QF}{f m:Str}{pos apos:Pos}
theorem amQ(co:j5 X.K ak)(ho:QW ak X W o fo)(hb:baseOk o=true):QE ak X W (.Attribute o f pos) (gq f fo):=
 PE.weak (pe_fld ho (oY hb)) λσ H Q ⟨g,Z,M,I,h⟩=>by
  refine tW.go I h.bnd λd v H1 h1 e1 r1=>?_;split at h1
  .next x hx=>
   obtain⟨n,i,a,C,dx,fs,u,_,_,_,_,rfl,_,c2,_,k1,k2,l1,l2⟩:=aaF co (I.ex e1).wok hx r1;exact⟨a,C,dx,fs,u,rfl,c2,k1,k2,l1,h1 u H1 e1 l2⟩
  .exact au0 h1
theorem akR(co:j5 X.K ak)(ho:QW ak X W o fo)(hb:baseOk o=true):QW ak X W (.Attribute o f pos) (bL f fo):=
 PE.weak (pe_fld ho (oY hb)) λσ H Q ⟨g,Z,M,I,h⟩=>by
  refine tW.go I h.bnd λd v H1 h1 e1 r1=>?_;split at h1
  .next x hx=>
   obtain⟨n,i,a,C,dx,fs,u,_,_,_,_,rfl,_,c2,_,k1,k2,l1,l2⟩:=aaF co (I.ex e1).wok hx r1;exact⟨a,C,dx,fs,u,rfl,c2,k1,k2,l1,h1 u H1 e1 (Rep.weak l2)⟩
  .next xs hx=>
   obtain⟨n,i,a,C,dx,fs,u,_,_,_,_,rfl,_,c2,_,k1,k2,l1,l,us,rfl,s1,s2,s3,_⟩:=aaF co (I.ex e1).wok hx r1;exact⟨a,C,dx,fs,_,rfl,c2,k1,k2,l1,h1 _ H1 e1 ⟨l,us,rfl,sq_of s1,s3⟩⟩
  .exact au0 h1
def TJ(X:Cx)(W:WX)(m:Str)(ta:TE)(t:TA):TE:=λσ H Q=>ta σ H λx H1=>∃(a C dx:Addr) (fs:List (Str×V)) (f:Addr) (fd:FuncData) (ps:List Str) (sp:Sp) (k:Nat),x=.ref a/\H1 a=some (.ins C dx fs)/\fs.lookup m=none/\Cls X.K C/\Meth X.K C m f/\Room k X.A/\Binds X.K fd ps []/\
 FnOk X.prog X.w X.K X.mg X.base (L2.CX X.prog X.w) k f fd ps sp/\t σ H1 λvs H2=>sp (x::vs) H2 Q (WE W σ)
theorem Xl{M:Model}{A:Around}{E:Value->Shared->Prop}{s:Shared}{env:PySem.Env}{args:List Expr}{Q:Value->Shared->Prop}(hbase:baseOk o=true)(hs:args.all nst=true)(hz:args.length<30)(hl:(apos.endLine==pos.line)=true)
  (h:wpAny M A (eval o env) (λov s₁=>∀pl:Sem Bool,wpAny M A (getMethod ov m pl) (λfx s₂=>wpAny M A (callWith pos fx.1 fx.2 (backTo pos (starEach args env)) (backToKw pos (keywordEach [] env))) Q E s₂) E s₁) E s) :
  wpAny M A (eval (.Call (.Attribute o m apos) args [] pos) env) Q E s:=by
 have hform:methodCallForm (args.length+([]:List Keyword).length) (backTo pos (starEach args env)) (backToKw pos (keywordEach [] env))=true:=few hs hz;have hpos:methodCallPos true o env apos pos=pure pos:=by unfold methodCallPos;simp[hl]
 rw[arm_eval_Call,oY hbase];refine au3 (wpAny_mono h (λov s₁ h₁=>?_) λ_ _ e=>e);refine au3 (wpAny_standAt ?_);unfold methodCall;rw[hform];refine au3 (wpAny_holding ?_);refine wpAny_mono (h₁ _) (λfx s₂ h₂=>?_) λ_ _ e=>e;exact au3 (wpAny_of_eq hpos h₂)
theorem Zy{ta:TE}{t:TA}(tk:Takes X W)(ho:PE X o ta)(ha:PA X (e::es) t)(hb:baseOk o=true)(hs:(e::es).all nst=true)(hl:(apos.endLine==pos.line)=true)(hz:(e::es).length<30):PE X (.Call (.Attribute o m apos) (e::es) [] pos) (TJ X W m ta t):=by have hs':=hs;rw[auk,atx]at hs';refine⟨λpins s σ H Q I h=>?_⟩;refine Xl hb hs hz hl (thn (ho.run pins s σ H _ I h) λu s1 ⟨x,G,J,rx,a,C,dx,fs,f,fd,ps,sp,k,ex,ea,l,c,hm,hr,hB,F,q⟩ pl=>?_);subst ex;cases rx;refine getmeth_ok J ea c hm l ?_;refine PySem.W.callWith_K (first:=[.ref a]) (h₀:=X.base) I.ok.mod.kin hm.kp (thn (ha.run pos pins s1 σ G _ J q) λus s2 ⟨vs,G2,J2,r,q2⟩=>⟨J2.kIn,?_⟩) (cP hs'.1 es) (star_any es hs'.2);exact run_fnS (us:=.ref a::us) (vs:=.ref a::vs) F hr hB (passAt tk σ) J2 (.cons rfl r) q2
theorem W9{ta:TE}(tk:Takes X W)(ho:PE X o ta)(hb:baseOk o=true)(hl:(apos.endLine==pos.line)=true):PE X (.Call (.Attribute o m apos) [] [] pos) (TJ X W m ta tNil):=by refine⟨λpins s σ H Q I h=>?_⟩;refine Xl hb rfl (by decide) hl (thn (ho.run pins s σ H _ I h) λu s1 ⟨x,G,J,rx,a,C,dx,fs,f,fd,ps,sp,k,ex,ea,l,c,hm,hr,hB,F,q⟩ pl=>?_);subst ex;cases rx;refine getmeth_ok J ea c hm l ?_;exact PySem.W.callWith_K0 (first:=[.ref a]) J.kIn hm.kp (run_fnS (us:=[.ref a]) (vs:=[.ref a]) F hr hB (passAt tk σ) J (.cons rfl .nil) q)
def G4(tb:List (Str×MV))(M:Mo):Dat->Option MV
 |.dict [(.none,.int (.ofNat h))]=>(M[h]?).bind λi=>tb.lookup i.cls
 |_=>none
def aV(tb:List (Str×MV))(o:QF)(as:QA):QF:=λM Z=>(o M Z).bind λd=>match G4 tb M d with
 |some (.q _ m)=>(as M Z).bind λds=>m M (d::ds)
 |_=>.bad
def bW(tb:List (Str×MV))(o:QF)(as:QA):GF:=λM Z=>((o M Z).at M).bind λd _=>match G4 tb M d with
 |some (.q _ m)=>((as M Z).at M).bind λds _=>(m M (d::ds)).at M
 |some (.g _ m)=>((as M Z).at M).bind λds _=>m M (d::ds)
 |none=>.bad
def KD(X:Cx)(ak:aX)(k:Nat)(m:Str)(n:Nat)(tb:List (Str×MV)):Prop:=∀c v,tb.lookup c=some v->cC X.prog X.w X.K X.mg X.base ak k c m v/\match v with
  |.q j _=>j=n
  |.g j _=>j=n
theorem KD.cls{k n:Nat}{tb:List (Str×MV)}(T:KD X ak k m n tb):∀c v,tb.lookup c=some v->ak c≠none:=λc v h z=>by
 obtain⟨⟨C,f,c1,_⟩,_⟩:=T c v h;rw[z]at c1;cases c1
theorem Vo{K:atw}{g:Gh}{H:Hp}{M:Mo}{tb:List (Str×MV)}{d:Dat}{v:V}{mv:MV}(ht:∀c v,tb.lookup c=some v->ak c≠none)(w:gW K ak g H M)(h:G4 tb M d=some mv)(r:eZ K g H v d):∃n i a C dx fs,d=obj n/\M[n]?=some i/\tb.lookup i.cls=some mv/\g.tbl[n]?=some a/\v=.ref a/\ak i.cls=some C/\H a=some (.ins C dx fs)/\cU K ak g H n fs i.fs:=by
 unfold G4 at h;split at h
 .next n=>
  obtain⟨i,h1,h2⟩:=atv.mp h;obtain⟨a,rfl,ha⟩:=Nh r;obtain⟨C,dx,fs,c1,c2,c3⟩:=w.ins n a i ha h1 λz=>ht _ _ h2 (by rw[z];exact w.nc);exact⟨n,i,a,C,dx,fs,rfl,h1,h2,ha,rfl,c1,c2,c3⟩
 .cases h
theorem abp{K:atw}{g:Gh}{H:Hp}{M:Mo}{n:Nat}{i:Inst}{fs:List (Str×V)}(w:gW K ak g H M)(hi:M[n]?=some i)(R:cU K ak g H n fs i.fs)(h:m∉ak.fl i.cls):fs.lookup m=none:=by
 refine R.no ?_;cases hl:i.fs.lookup m with
 |none=>rfl
 |some x=>exact absurd (w.fd n i hi m (lookup_mem hl)) h
theorem ae9{tb:List (Str×MV)}{as:QA}{n k:Nat}{t:TA}(hr:Room k X.A)(T:KD X ak k m n tb)(hn:∀M Z ds,as M Z=.ok ds->ds.length+1=n)(ht:∀σ H Q,QX X.K ak W as σ H Q->t σ H Q)(σ:L2.St)(H:Hp)(Q:VK)(h:tQ X.K ak W (aV tb fo as) σ H Q):TJ X W m (tW X.K ak W fo) t σ H Q:=by
 obtain⟨g,Z,M,I,h⟩:=h;refine tW.go I h.bnd λd v H1 h1 e1 r1=>?_;have I1:=I.ex e1;split at h1
 .next j mm hmv=>
  obtain⟨hd,i,a,C,dx,fs,rfl,hi,hl,ha,rfl,c1,c2,c3⟩:=Vo T.cls I1.wok hmv r1;obtain⟨⟨C',f,cc,cl,me,nf,fd,ps,j',hj,hp,hB,F⟩,en⟩:=T _ _ hl;have en:j=n:=en;rw[c1]at cc;cases cc;refine⟨a,C,dx,fs,f,fd,ps,_,j',rfl,c2,abp I1.wok hi c3 nf,cl,me,hr.mono hj,hB,F,ht σ H1 _ ⟨g,Z,M,I1,?_⟩⟩;have h2:=h1.bnd;cases has:as M Z with
  |exc x=>rw[has]at h2;exact sU.ex e1 h2
  |bad=>rw[has]at h2;exact au0 h2
  |ok ds=>
   rw[has]at h2;intro vs H2 e2 r2;refine⟨by rw[hp,en,<-hn M Z ds has,atQ,r2.length],g,M,obj hd::ds,(I1.ex e2).kd,(I1.ex e2).wok,.cons (.obj ha) r2,?_⟩;exact Out.sat.mono h2 (λd k v H' e' r'=>k v H' ((e1.trans e2).trans e') r') λx k H' c dd e' r'=>k H' c dd ((e1.trans e2).trans e') r'
 .exact au0 h1
theorem aks{tb:List (Str×MV)}{as:QA}{k:Nat}(tk:Takes X W)(hr:Room k X.A)(T:KD X ak k m ((e::es).length+1) tb)(ho:QW ak X W o fo)(ha:Gu ak X W (e::es) as)(hn:∀M Z ds,as M Z=.ok ds->ds.length=(e::es).length)(hb:baseOk o=true)(hs:(e::es).all nst=true)(hl:(apos.endLine==pos.line)=true)(hz:(e::es).length<30) :
  QE ak X W (.Call (.Attribute o m apos) (e::es) [] pos) (aV tb fo as):=
 PE.weak (Zy tk ho ha hb hs hl hz) λσ H Q h=>ae9 hr T (λM Z ds z=>by rw[hn M Z ds z]) (λ_ _ _ z=>z) σ H Q h
theorem ahl{tb:List (Str×MV)}{k:Nat}(tk:Takes X W)(hr:Room k X.A)(T:KD X ak k m 1 tb)(ho:QW ak X W o fo)(hb:baseOk o=true)(hl:(apos.endLine==pos.line)=true) :
  QE ak X W (.Call (.Attribute o m apos) [] [] pos) (aV tb fo au):=
 PE.weak (W9 tk ho hb hl) λσ H Q h=>ae9 hr T (λM Z ds z=>by cases z;rfl) (λσ H Q ⟨g,Z,M,I,z⟩=>z [] H (Ex.refl H) .nil) σ H Q h
theorem aeJ{tb:List (Str×MV)}{as:QA}{n k:Nat}{t:TA}(hr:Room k X.A)(T:KD X ak k m n tb)(hn:∀M Z ds,as M Z=.ok ds->ds.length+1=n)(ht:∀σ H Q,QX X.K ak W as σ H Q->t σ H Q)(σ:L2.St)(H:Hp)(Q:VK)(h:tE X.K ak W false (bW tb fo as) σ H Q):TJ X W m (tW X.K ak W fo) t σ H Q:=by
 obtain⟨g,Z,M,I,h⟩:=h;have quiet:∀{x:eX},gE X.K ak W false g H σ Z x M->sU X.K ak W g H σ x:=λ{x} z H' c dd e r=>z H' g c dd (Gr.ex e) (I.ex e) r;have h:=h.bnd;refine⟨g,Z,M,I,?_⟩;cases ho:fo M Z with
 |exc x=>rw[ho]at h;exact quiet h
 |bad=>rw[ho]at h;exact au0 h
 |ok d=>
  rw[ho]at h;intro v H1 e1 r1;have I1:=I.ex e1;have h:(match G4 tb M d with
   |some (.q _ m)=>((as M Z).at M).bind λds _=>(m M (d::ds)).at M
   |some (.g _ m)=>((as M Z).at M).bind λds _=>m M (d::ds)
   |none=>.bad).sat (λd M'=>∀v H' g',Gr false g g' H H'->SInv X.K ak σ H' g' Z M'->Rep X.K g' H' v d->Q v H') (gE X.K ak W false g H σ Z):=h
  split at h
  .next j mm hmv=>
   obtain⟨hd,i,a,C,dx,fs,rfl,hi,hl,ha,rfl,c1,c2,c3⟩:=Vo T.cls I1.wok hmv r1;obtain⟨⟨C',f,cc,cl,me,nf,fd,ps,j',hj,hp,hB,F⟩,en⟩:=T _ _ hl;have en:j=n:=en;rw[c1]at cc;cases cc;refine⟨a,C,dx,fs,f,fd,ps,_,j',rfl,c2,abp I1.wok hi c3 nf,cl,me,hr.mono hj,hB,F,ht σ H1 _ ⟨g,Z,M,I1,?_⟩⟩;have h2:=h.bnd;cases has:as M Z with
   |exc x=>rw[has]at h2;exact sU.ex e1 (quiet h2)
   |bad=>rw[has]at h2;exact au0 h2
   |ok ds=>
    rw[has]at h2;intro vs H2 e2 r2;have e12:=e1.trans e2;refine⟨by rw[hp,en,<-hn M Z ds has,atQ,r2.length],g,M,obj hd::ds,(I1.ex e2).kd,(I1.ex e2).wok,.cons (.obj ha) r2,?_⟩;exact Out.sat.mono (Out.jF h2) (λd k v H' e' r'=>k v H' g (Gr.ex (e12.trans e')) (I.ex (e12.trans e')) r') λx k H' c dd e' r'=>k H' g c dd (Gr.ex (e12.trans e')) (I.ex (e12.trans e')) r'
  .next j mm hmv=>
   obtain⟨hd,i,a,C,dx,fs,rfl,hi,hl,ha,rfl,c1,c2,c3⟩:=Vo T.cls I1.wok hmv r1;obtain⟨⟨C',f,cc,cl,me,nf,fd,ps,j',hj,hp,hB,F⟩,en⟩:=T _ _ hl;have en:j=n:=en;rw[c1]at cc;cases cc;refine⟨a,C,dx,fs,f,fd,ps,_,j',rfl,c2,abp I1.wok hi c3 nf,cl,me,hr.mono hj,hB,F,ht σ H1 _ ⟨g,Z,M,I1,?_⟩⟩;have h2:=h.bnd;cases has:as M Z with
   |exc x=>rw[has]at h2;exact sU.ex e1 (quiet h2)
   |bad=>rw[has]at h2;exact au0 h2
   |ok ds=>
    rw[has]at h2;intro vs H2 e2 r2;have e12:=e1.trans e2;refine⟨by rw[hp,en,<-hn M Z ds has,atQ,r2.length],g,M,obj hd::ds,(I1.ex e2).kd,(I1.ex e2).wok,.cons (.obj ha) r2,?_⟩;exact bG.sat.mono h2 (λd M' k v H' g' c kd wk r'=>k v H' g' ((Gr.ex e12).trans c.gr) ((I.ex e12).call c kd wk) r') λx M' k H' g' cc dd c kd wk r'=>k H' g' cc dd ((Gr.ex e12).trans c.gr) ((I.ex e12).call c kd wk) r'
  .exact au0 h
theorem ajU{tb:List (Str×MV)}{as:QA}{k:Nat}(tk:Takes X W)(hr:Room k X.A)(T:KD X ak k m ((e::es).length+1) tb)(ho:QW ak X W o fo)(ha:Gu ak X W (e::es) as)(hn:∀M Z ds,as M Z=.ok ds->ds.length=(e::es).length)(hb:baseOk o=true)(hs:(e::es).all nst=true)(hl:(apos.endLine==pos.line)=true)(hz:(e::es).length<30) :
  GE ak X W false (.Call (.Attribute o m apos) (e::es) [] pos) (bW tb fo as):=
 PE.weak (Zy tk ho ha hb hs hl hz) λσ H Q h=>aeJ hr T (λM Z ds z=>by rw[hn M Z ds z]) (λ_ _ _ z=>z) σ H Q h
theorem ahP{tb:List (Str×MV)}{k:Nat}(tk:Takes X W)(hr:Room k X.A)(T:KD X ak k m 1 tb)(ho:QW ak X W o fo)(hb:baseOk o=true)(hl:(apos.endLine==pos.line)=true) :
  GE ak X W false (.Call (.Attribute o m apos) [] [] pos) (bW tb fo au):=
 PE.weak (W9 tk ho hb hl) λσ H Q h=>aeJ hr T (λM Z ds z=>by cases z;rfl) (λσ H Q ⟨g,Z,M,I,z⟩=>z [] H (Ex.refl H) .nil) σ H Q h
end
def fJ(x:Str):SF:=λM Z=>.exc ⟨x,[]⟩ Z M
def Ek(x:Str)(fs:List Str)(as:QA):SF:=λM Z=>((as M Z).at M).then Z λds M'=>.exc ⟨x,(fs.zip ds).reverse⟩ Z M'
section
variable{X:Cx}{ak:aX}{W:WX}{q:Bool}{x:Str}{pos p p1:Pos}{k:Nat}
theorem ah1(hc:X.calm=true)(tk:Takes X W)(hg:Gl X x)(hd:(x==("__debug__" : Str))=false)(g:bh X.prog X.w X.K X.mg X.base ak k x .exc):SE ak X W q (.Raise (some (.Call (.Name x p) [] [] p1)) none pos) (fJ x):=by obtain⟨C,g1,g2,g3,g4,g5,g6⟩:=g;exact PS.weak (ps_raise hc tk (Ear.ahJ PySem.F.excBase_ValueError g3 g1 g4 (raises_own g5 g6) hg hd)) λD σ H ⟨g,Z,M,I,z⟩=>z σ H g (.ref C) none Gr.refl I ⟨C,g2,rfl,.inl ⟨rfl,rfl⟩⟩
theorem mX.gr{K:atw}{g g':Gh}{H H':Hp}{q:Bool}(r:Gr q g g' H H')(k:Kd g H){fs:List (Str×V)}{gs:List (Str×Dat)}(h:mX K g H fs gs):mX K g' H' fs gs:=by
 induction h with
 |nil=>exact .nil
 |cons z _ ih=>exact .cons (z.gr r k) ih
theorem mX.snoc{K:atw}{g:Gh}{H:Hp}{f:Str}{v:V}{d:Dat}(z:Rep K g H v d){fs:List (Str×V)}{gs:List (Str×Dat)}(h:mX K g H fs gs):mX K g H (fs++[(f,v)]) (gs++[(f,d)]):=by
 induction h with
 |nil=>exact .cons z .nil
 |cons y _ ih=>exact .cons y ih
theorem afR{K:atw}{g:Gh}{H:Hp}:∀{fs:List Str} {vs:List V} {ds:List Dat},aQ K g H vs ds->mX K g H (fs.zip vs).reverse (fs.zip ds).reverse
 |[],_,_,_=>.nil
 |_::_,_,_,.nil=>.nil
 |f::fs,_,_,.cons z t=>by
  rw[auH,auH,auK,auK];exact(afR t).snoc z
theorem aeH{e:Expr}{es:List Expr}{fs:List Str}{as:QA}(hc:X.calm=true)(tk:Takes X W)(hr:Room k X.A)(hg:Gl X x)(hd:(x==("__debug__" : Str))=false)(g:bh X.prog X.w X.K X.mg X.base ak k x (.exi fs))(ha:Gu ak X W (e::es) as)
  (hs:(e::es).all nst=true) (hn:∀M Z ds,as M Z=.ok ds->ds.length=fs.length) (hz:fs.length<=1000):SE ak X W q (.Raise (some (.Call (.Name x p) (e::es) [] p1)) none pos) (Ek x fs as):=by
 obtain⟨C,fI,fd,ps,g1,g2,g3,g4,g5,hk,hp,hB,F⟩:=g;have hs':=hs;rw[auk,atx]at hs';refine PS.weak (ps_raise hc tk (pmk_oex g3 g4 g5 F (hr.mono hk) hB .nil pass0 hg g1 ha hd (cP hs'.1 es) (star_any es hs'.2))) λD σ H ⟨g,Z,M,I,z⟩=>?_;refine⟨g,Z,M,I,?_⟩;unfold Ek at z;cases has:as M Z with
 |exc y=>rw[has]at z;exact λH' c dd e r=>z σ H' g c dd (Gr.ex e) (I.ex e) r.fr
 |bad=>rw[has]at z;exact au0 z
 |ok ds=>
  rw[has]at z;intro vs H1 e1 r1;have hl:vs.length=fs.length:=by rw[r1.length,hn M Z ds has]
  refine⟨by omega,λa na=>⟨a,vs++[],rfl,by simpa using hl,au7,λdx H' nd kp dm ha' hd'=>?_⟩⟩;have ne:dx≠a:=λz=>by
   subst z;rw[au7]at nd;cases nd
  rw[upd_ne ne]at nd;refine⟨rfl,dx,_,ha',hd',nd,?_⟩;have kp':∀b o,H1 b=some o->(upd (del H' a) dx (.xd (fs.zip (vs++[])).reverse)) b=some o:=λb o hb=>by
   have nb:b≠a:=λz=>by subst z;rw[na]at hb;cases hb
   have nd':b≠dx:=λz=>by subst z;rw[nd]at hb;cases hb
   rw[upd_ne nd',del_ne nb];exact kp b o nb (by rw[upd_ne nb];exact hb)
  have ex:Ex H1 (upd (del H' a) dx (.xd (fs.zip (vs++[])).reverse)):=λb o hb=>kp' b o hb;have I1:=I.ex e1;refine z σ _ g (.ref C) (some dx) (Gr.ex (e1.trans ex)) (I1.ex ex) ⟨C,g2,rfl,.inr ⟨dx,_,rfl,au7,?_⟩⟩;rw[aur];have:=(afR (fs:=fs) r1).gr (Gr.ex (q:=true) ex) I1.kd;rw[aur]at this;exact mX.less (g:=g) (g':=g.fr) rfl (yR g) this
end
section
variable{P:Program}{w:World}{K:atw}{mg:Str->Option Value}{base:Heap}{C f:Addr}{fd:FuncData}{qual:Str}{st:Stmt}
theorem vis_par{N ps:List Str}{sc:Scope}(S:FnScope N ps sc){y:Str}(h:y∈ps):Vis sc y:=(S.par y h).elim (λz=>.inl z) λz=>.inr (.inl z)
theorem agy{s a1 a2 a3 f1 f2 f3:Str}{p1 p2 p3 p4 p5 p6 p7 p8 p9 p10 p11 p12:Pos}(F:L2.Fun K "__init__" qual st f fd)(S:FnScope [s,a1,a2,a3] [s,a1,a2,a3] (defScope st))(T:OexC K C)
  (hb:defBody st=[.Assign [.Attribute (.Name s p1) f1 p2] (.Name a1 p3) p4,.Assign [.Attribute (.Name s p5) f2 p6] (.Name a2 p7) p8,.Assign [.Attribute (.Name s p9) f3 p10] (.Name a3 p11) p12])
  (dz:∀y∈[s,a1,a2,a3],(y==("__debug__" : Str))=false/\(y==("__classdict__" : Str))=false) (n1:PySem.W.findIn K (.ref C) f1=some none) (n2:PySem.W.findIn K (.ref C) f2=some none) (n3:PySem.W.findIn K (.ref C) f3=some none) :
  FnOk P w K mg base CX0 1 f fd [s,a1,a2,a3] (ahR C [f1,f2,f3]):=by
 refine F.ok S (λvs H Q E h=>?_) (λcdv A outer s0 H vs Q E hr h=>?_)
 .obtain⟨a,xs,rfl,hl,_⟩:=h;simp[hl]
 .obtain⟨a,xs,rfl,hl,ha,q⟩:=h
  match xs,hl with
  |[x,y,z],_=>
  rw[hb];have v0:=vis_par S (y:=s) (by simp);have v1:=vis_par S (y:=a1) (by simp);have v2:=vis_par S (y:=a2) (by simp);have v3:=vis_par S (y:=a3) (by simp);obtain⟨c0,k0⟩:=dz s (by simp);obtain⟨c1,k1⟩:=dz a1 (by simp);obtain⟨c2,k2⟩:=dz a2 (by simp);obtain⟨c3,k3⟩:=dz a3 (by simp);refine⟨_,pss_cons (ps_ost (pe_var (i:=0) rfl v0 c0 k0) (pe_var (i:=1) rfl v1 c1 k1)) (pss_cons (ps_ost (pe_var (i:=0) rfl v0 c0 k0) (pe_var (i:=2) rfl v2 c2 k2)) (pss_one (ps_ost (pe_var (i:=0) rfl v0 c0 k0) (pe_var (i:=3) rfl v3 c3 k3)))),?_⟩;refine⟨_,rfl,_,rfl,a,C,rfl,T,n1,.inl ⟨ha,λdx nd ne=>?_⟩⟩;refine⟨_,rfl,_,rfl,a,C,rfl,T,n2,.inr ⟨dx,[(f1,x)],au7,(by rw[upd_ne ne];exact au7),(show 1<=900 by decide),?_⟩⟩;refine⟨_,rfl,_,rfl,a,C,rfl,T,n3,.inr ⟨dx,_,(by rw[upd_ne ne.symm];exact au7),au7,(show 2<=900 by decide),?_⟩⟩;refine q dx _ nd (λb o hb hB=>?_) (λb hB=>?_) (by rw[upd_ne ne.symm,upd_ne ne.symm];exact au7) au7
  .have hbd:b≠dx:=ne_of_none hB nd;rw[upd_ne hbd,upd_ne hbd,upd_ne hb,upd_ne hbd];exact hB
  .by_cases e:b=dx
   .rw[e];exact nd
   .by_cases e2:b=a
    .subst e2;rw[upd_ne e,upd_ne e,au7]at hB;cases hB
    .rw[upd_ne e,upd_ne e,upd_ne e2,upd_ne e]at hB;exact hB
end
structure Cl where
 c:Value
 nm:Option Nat
 ts:Addr->Value->Option Addr->TS
def aoW(D:Ends)(i:Nat):Ends:={ nx:=λτ G=>D.nx (τ.set i none) G,rt:=D.rt,bk:=λτ G=>D.bk (τ.set i none) G,ct:=λτ G=>D.ct (τ.set i none) G }
def aa9(K:atw)(Wo:WX)(D:Ends):List Cl->WX
 |[]=>Wo
 |l::r=>λcls d τ G=>∃b,PySem.W.exmOne K cls l.c=some b/\(b=true->∀a,G a=none->(match l.nm with
   |none=>l.ts a cls d D τ G
   |some i=>l.ts a cls d (aoW D i) (τ.set i (some (.ref a))) G))/\(b=false->aa9 K Wo D r cls d τ G)
inductive DN(X:Cx):List ExceptHandler->List Cl->Prop
 |nil:DN X [] []
 |one {x:Str} {l:Cl} {s0:Stmt} {su:List Stmt} {np cp:Pos} {hds:List ExceptHandler} {ls:List Cl} (hc:Names X x l.c) (hn:l.nm=none)
   (hsu:∀(a:Addr) (oe:Obj) (cls:Value) (d:Option Addr) (pn:List (Addr×Obj)),Zc cls d oe->(∃vs,oe.data=.fields vs)->PSs (X.suite a ((a,oe)::pn)) (s0::su) (l.ts a cls d)) (r:DN X hds ls) :
   DN X (.ExceptHandler (some (.Name x np)) none (s0::su) cp::hds) (l::ls)
 |as {x n:Str} {i:Nat} {l:Cl} {s0:Stmt} {su:List Stmt} {np cp:Pos} {hds:List ExceptHandler} {ls:List Cl} (hc:Names X x l.c) (hn:l.nm=some i) (hi:X.N[i]?=some n) (hl:X.env.kindOf n=some .local)
   (hsu:∀(a:Addr) (oe:Obj) (cls:Value) (d:Option Addr) (pn:List (Addr×Obj)),Zc cls d oe->(∃vs,oe.data=.fields vs)->PSs (X.suite a ((a,oe)::pn)) (s0::su) (l.ts a cls d)) (r:DN X hds ls) :
   DN X (.ExceptHandler (some (.Name x np)) (some n) (s0::su) cp::hds) (l::ls)
section
variable{X:Cx}{body:List Stmt}{h0:ExceptHandler}{hds:List ExceptHandler}{ls:List Cl}{pos:Pos}{tb:WX->TS}{Wo:WX}
theorem aiU(hs:X.stack=X.env::X.outer)(hf:X.env.frame=some X.env.locals)(hN:X.N.Nodup)(tk:Takes X Wo)
  (hb:∀(W:WX) (pn:List (Addr×Obj)) (xe:Value->Shared->Prop),Takes (X.tr pn xe) W->PassesOwn (model X.prog X.w) X.A X.env xe->PSs (X.tr pn xe) body (tb W))
  (hh:DN X (h0::hds) ls):PS X (.Try body (h0::hds) [] [] pos) (λD σ H=>tb (aa9 X.K Wo D ls) D σ H):=by
 constructor;intro pins s σ H D I h;have ok:=I.ok;have frm:X.A.frames=some (X.env::X.outer):=by rw[ok.frames,hs]
 have run:=(hb (aa9 X.K Wo D ls) (X.pn++pins) (λe t₁=>wpAny (model X.prog X.w) X.A (noteFrame e X.env) (λ_ t₂=>wpAny (model X.prog X.w) X.A (setFlight e none) (λ_ t₃=>wpAny (model X.prog X.w) X.A (handleBy e X.env (h0::hds)) (SP X pins D) X.xe t₃) X.xe t₂) X.xe t₁) (λu t xx=>by
  obtain⟨a,B,sI,pins2,τ,G,cls,d,rfl,J2,nb,up,sky,na,os,ag,w⟩:=xx;have J:Inv X pins τ G sI:=J2.ofTry ok;have sky2:Sky B (X.env::X.outer) a (Zc cls d) X.env.locals t.heap:=by rw[<-hs];exact sky
  show wpAny (model X.prog X.w) X.A (noteFrame (.ref a) X.env) _ _ _;refine Sky.land Zc.steady frm hf sky2 ?_;intro h3 fl3 up3;have J3:Inv X pins τ G { t with heap:=h3 }:=J.landed nb fl3.1 (up.trans up3) os ag;obtain⟨oe3,vs3,he3,hz3,hd3⟩:=fl3.there;have notF:a∉frs (X.env::X.outer):=λhm=>by
   obtain⟨_,o,eo,hnf⟩:=Heap.FunFrames.mem fl3.2.2.1 hm;rw[he3]at eo;cases eo;exact hnf _ hd3
  have nL:a≠X.env.locals:=λz=>notF (List.mem_filterMap.mpr ⟨X.env,atD,(by rw[hf,z])⟩);have nF:a∉X.fs:=λhm=>by
   obtain⟨e,he,q⟩:=List.mem_filterMap.mp hm;exact notF (List.mem_filterMap.mpr ⟨e,atA _ he,q⟩)
  have S3:=J3.suite he3 hd3 na nL nF;have look:PySem.W.Looks (model X.prog X.w) h3 (typeOf (.ref a)) cls:=λA Q E s k q=>wpAny_typeOf_ref (k _ _ he3) (by rw[hz3.1];exact q);have named:∀{x:Str} {c:Value} {np:Pos} {Q:Value->Shared->Prop} {E:Value->Shared->Prop},Names X x c->Q c { t with heap:=h3 }->wpAny (model X.prog X.w) (X.A.mark (some (.ref a))) (eval (.Name x np) X.env) Q E { t with heap:=h3 }:=by
   intro x c np Q E hc q;obtain⟨hg,hdb,hm⟩:=hc;rcases hm with hm|⟨hm,hv,hnn⟩
   .exact ld_glob (X:=X.suite a ((a,oe3)::(X.pn++pins))) S3 hg hm q hdb
   .exact ld_blt (X:=X.suite a ((a,oe3)::(X.pn++pins))) S3 hg hm hv q hnn hdb
  have all:∀{hds2:List ExceptHandler} {ls2:List Cl},DN X hds2 ls2->aa9 X.K Wo D ls2 cls d τ G->wpAny (model X.prog X.w) X.A (handleBy (.ref a) X.env hds2) (SP X pins D) X.xe { t with heap:=h3 }:=by
   intro hds2 ls2 hk
   induction hk with
   |nil=>
    intro w;refine wpAny_handleBy_nil ?_;obtain⟨k1,k2,k3,oe,vs,T,oT,ts2,he,hz,hd,h1,hr⟩:=id fl3;unfold PySem.passOn;refine au3 (wpAny_field he hd h1 ?_);have nT:¬((Value.ref T==Value.none)=true):=by simp
    rw[au6 nT];have fin:wpAny (model X.prog X.w) X.A (setFlight (.ref a) X.env.frame) (λ_ s4=>wpAny (model X.prog X.w) X.A (throw (.ref a):Sem Flow) (SP X pins D) X.xe s4) X.xe { t with heap:=h3 }:=by rw[hf];refine HandSPX.setFlight_upZ fl3 ?_;intro h4 hh4 up4;refine wpAny_throw (tk _ _ ?_);exact⟨a,B,sI,pins,τ,G,cls,d,rfl,J,nb,(up.trans up3).trans up4,.inr (.inr (by rw[hs];exact hh4)),na,os,ag,w⟩
    first
     |exact au3 (au4 (au3 fin))
     |exact au3 fin
   | @one x l s0 su np cp hds3 ls3 hc hn hsu r ih=>
    intro w;obtain⟨b,hb1,yes,no⟩:=w;rw[hn]at yes;have LM:=PySem.W.exm_one (M:=model X.prog X.w) J3.kIn look hb1;refine wpAny_handleBy_cons (codeAny_handlers_test ?_) (by intro q;cases q);refine named hc (LM.here ?_);cases b with
    |false=>exact ih (no rfl)
    |true=>
     refine codeAny_handlers_suite ?_;refine HandSPX.lands_againZ fl3 ?_;intro h4 fl4 up4;have J4:Inv X pins τ G { t with heap:=h4 }:=J.landed nb fl4.1 ((up.trans up3).trans up4) os ag;obtain⟨oe4,vs4,he4,hz4,hd4⟩:=fl4.there;have S4:=J4.suite he4 hd4 na nL nF;refine wpAny_mono ((hsu a oe4 cls d (X.pn++pins) hz4 ⟨_,hd4⟩).run [] _ _ G _ S4 (yes rfl a na)) ?_ (λ_ _ z=>au0 z);intro f s6 sp6;cases f with
     |ret u=>
      obtain⟨v6,τ6,G6,S6,r6,q6⟩:=sp6;exact⟨_,_,_,S6.unsuite ok,r6,q6⟩
     |next=>
      obtain⟨τ6,G6,S6,q6⟩:=sp6;exact⟨_,_,S6.unsuite ok,q6⟩
     |brk=>
      obtain⟨τ6,G6,S6,q6⟩:=sp6;exact⟨_,_,S6.unsuite ok,q6⟩
     |cont=>
      obtain⟨τ6,G6,S6,q6⟩:=sp6;exact⟨_,_,S6.unsuite ok,q6⟩
   | @as x n i l s0 su np cp hds3 ls3 hc hn hi hl hsu r ih=>
    intro w;obtain⟨b,hb1,yes,no⟩:=w;rw[hn]at yes;have LM:=PySem.W.exm_one (M:=model X.prog X.w) J3.kIn look hb1;refine wpAny_handleBy_cons (codeAny_handlers_test ?_) (by intro q;cases q);refine named hc (LM.here ?_);cases b with
    |false=>exact ih (no rfl)
    |true=>
     refine codeAny_handlers_suite_as ?_;refine HandSPX.lands_againZ fl3 ?_;intro h4 fl4 up4;have J4:Inv X pins τ G { t with heap:=h4 }:=J.landed nb fl4.1 ((up.trans up3).trans up4) os ag;obtain⟨oe4,vs4,he4,hz4,hd4⟩:=fl4.there;have S4:=J4.suite he4 hd4 na nL nF;refine store_ok (X:=X.suite a ((a,oe4)::(X.pn++pins))) (v:=.ref a) S4 hN hi (.inl hl) rfl ?_ (.inr hl);intro s5 S5;refine wpAny_mono ((hsu a oe4 cls d (X.pn++pins) hz4 ⟨_,hd4⟩).run [] s5 _ G _ S5 (yes rfl a na)) ?_ (λ_ _ z=>au0 z);intro f s6 sp6;have bye:∀{τ6:L2.St} {G6:Hp} {Q:Shared->Prop},Inv (X.suite a ((a,oe4)::(X.pn++pins))) [] τ6 G6 s6->(∀s7,Inv X pins (τ6.set i none) G6 s7->Q s7)->
       wpAny (model X.prog X.w) X.A (do bindName X.env n .none;unbindBehindTheSuite X.env n cp) (λ_ s7=>Q s7) X.xe s6:=λS6 hq=>gone_ok (S6.unsuite ok) hN hi hl hq
     cases f with
     |ret u=>
      obtain⟨v6,τ6,G6,S6,r6,q6⟩:=sp6;exact bye S6 λs7 J7=>⟨_,_,_,J7,r6,q6⟩
     |next=>
      obtain⟨τ6,G6,S6,q6⟩:=sp6;exact bye S6 λs7 J7=>⟨_,_,J7,q6⟩
     |brk=>
      obtain⟨τ6,G6,S6,q6⟩:=sp6;exact bye S6 λs7 J7=>⟨_,_,J7,q6⟩
     |cont=>
      obtain⟨τ6,G6,S6,q6⟩:=sp6;exact bye S6 λs7 J7=>⟨_,_,J7,q6⟩
  exact all hh w) PassesOwn.looking).run [] s σ H D (I.toTry _) h
 refine wpAny_Try_except (wpAny_mono run ?_ (λ_ _ z=>z));intro f s1 sp1;cases f with
 |ret u=>
  obtain⟨v,τ,G,J2,r,q⟩:=sp1;exact⟨v,τ,G,J2.ofTry ok,r,q⟩
 |next=>
  obtain⟨τ,G,J2,q⟩:=sp1;exact wpAny_execs_nil ⟨τ,G,J2.ofTry ok,q⟩
 |brk=>
  obtain⟨τ,G,J2,q⟩:=sp1;exact⟨τ,G,J2.ofTry ok,q⟩
 |cont=>
  obtain⟨τ,G,J2,q⟩:=sp1;exact⟨τ,G,J2.ofTry ok,q⟩
end
inductive Ie where
 |con (d:Dat)|fld (f:Str)|flds (fs:List Str)
def abf(y:Str)(x:eX)(f:Str):Option Dat:=match x.cls==y with
 |true=>(x.fs.lookup f).bind λd=>match lf d with
  |true=>some d
  |false=>none
 |false=>none
def Tw(y:Str)(x:eX):List Str->Option (List Dat)
 |[]=>some []
 |f::fs=>(abf y x f).bind λd=>(Tw y x fs).bind λds=>some (d::ds)
def abC(y:Str)(x:eX):Ie->Option Dat
 |.con d=>some d
 |.fld f=>abf y x f
 |.flds fs=>(Tw y x fs).bind λds=>some (.tuple ds)
def Hl(y:Str)(x:eX):List (Nat×Ie)->Env->Option Env
 |[],Z=>some Z
 |(j,e)::r,Z=>(abC y x e).bind λd=>Hl y x r (Z.set j (some (.dat d)))
structure Hd where
 y:Str
 tk:Str->Option Bool
 nm:Option Nat
 st:List (Nat×Ie)
def V4(Z:Env):Option Nat->Env
 |none=>Z
 |some i=>Z.set i none
def adF(Z:Env):Option Nat->Bool
 |none=>true
 |some i=>decide (i<Z.length)
def hdl:List Hd->eX->Env->Mo->vh
 |[],x,Z,M=>.exc x Z M
 |h::r,x,Z,M=>match h.tk x.cls with
  |some true=>match adF Z h.nm with
   |true=>match Hl h.y x h.st (V4 Z h.nm) with
    |some Z2=>.next (V4 Z2 h.nm) M
    |none=>.bad
   |false=>.bad
  |some false=>hdl r x Z M
  |none=>.bad
def Oi(f:SF)(hs:List Hd):SF:=λM Z=>match f M Z with
 |.exc x Z' M'=>hdl hs x Z' M'
 |o=>o
structure XIn(K:atw)(ak:aX)(σ:L2.St)(H:Hp)(g:Gh)(Z:Env)(M:Mo)(x:eX)(a:Addr)(cls:Value)(d:Option Addr)(i:Option Nat):Prop where
 inv:SInv K ak σ H g Z M
 xr:tR K ak g.fr H x cls d
 sl:∀j,i=some j->σ[j]?=some (some (.ref a))
section
variable(K:atw)(ak:aX)(a:Addr)(cls:Value)(d:Option Addr)(i:Option Nat)
def tU(f:eX->Option Dat):TE:=λσ H Q=>∃g Z M x z,XIn K ak σ H g Z M x a cls d i/\f x=some z/\∀v H',Ex H H'->Rep K g H' v z->Q v H'
def tUA(f:eX->Option (List Dat)):TA:=λσ H Q=>∃g Z M x z,XIn K ak σ H g Z M x a cls d i/\f x=some z/\∀v H',Ex H H'->aQ K g H' v z->Q v H'
def tSu(y:Str)(st:List (Nat×Ie)):TS:=λD σ H=>∃g Z M x Z2,XIn K ak σ H g Z M x a cls d i/\Hl y x st Z=some Z2/\(∀p∈st,i≠some p.1)/\∀σ' H',Ex H H'->SInv K ak σ' H' g Z2 M->D.nx σ' H'
end
section
variable{K:atw}{ak:aX}{a:Addr}{cls:Value}{d:Option Addr}{i:Option Nat}{σ:L2.St}{H H':Hp}{g:Gh}{Z:Env}{M:Mo}{x:eX}
theorem mX.ex{fs:List (Str×V)}{gs:List (Str×Dat)}(e:Ex H H')(k:Kd g H)(h:mX K g H fs gs):mX K g H' fs gs:=h.gr (Gr.ex (q:=true) e) k
theorem tR.ex{c:Value}{dd:Option Addr}(e:Ex H H')(k:Kd g H)(h:tR K ak g H x c dd):tR K ak g H' x c dd:=by obtain⟨C,h1,h2,h3⟩:=h;exact⟨C,h1,h2,h3.imp id λ⟨b,fs,e1,e2,e3⟩=>⟨b,fs,e1,e _ _ e2,e3.ex e k⟩⟩
theorem XIn.ex(e:Ex H H')(h:XIn K ak σ H g Z M x a cls d i):XIn K ak σ H' g Z M x a cls d i:=⟨h.inv.ex e,h.xr.ex e h.inv.kd.fr,h.sl⟩
theorem mX.get{f:Str}{z:Dat}{fs:List (Str×V)}{gs:List (Str×Dat)}(h:mX K g H fs gs)(e:gs.lookup f=some z):∃v,fs.lookup f=some v/\Rep K g H v z:=by
 induction h with
 |nil=>cases e
 | @cons f' v d' _ _ r _ ih=>
  rw[aub]at e;rw[aub];cases hb:f==f' with
  |true=>
   rw[hb]at e;cases e;exact⟨v,rfl,r⟩
  |false=>
   rw[hb]at e;exact ih e
end
section
variable{X:Cx}{ak:aX}{a C:Addr}{oe:Obj}{cls:Value}{d:Option Addr}{pn:List (Addr×Obj)}{y n:Str}{pos p:Pos}{j:Nat}
theorem afS{e:Expr}{z:Dat}{i:Option Nat}{t:TE}(h:PE (X.suite a ((a,oe)::pn)) e t)(ht:∀σ H Q,tU X.K ak a cls d i (λ_=>some z) σ H Q->t σ H Q):PE (X.suite a ((a,oe)::pn)) e (tU X.K ak a cls d i λ_=>some z):=PE.weak h ht
theorem afb{f:Str}(hC:ak y=some C)(T:XfC X.K C)(hno:PySem.W.findIn X.K (.ref C) f=some none)(hz:Zc cls d oe)(hf:∃vs,oe.data=.fields vs)(hN:X.N[j]?=some n)(hv:Vis X.env.scope n)(hd:(n==("__debug__" : Str))=false)(hcd:(n==("__classdict__" : Str))=false) :
  PE (X.suite a ((a,oe)::pn)) (.Attribute (.Name n p) f pos) (tU X.K ak a cls d (some j) λx=>abf y x f):=by
 refine PE.weak (pe_xf T hno hz hf (pe_var (i:=j) (X:=X.suite a ((a,oe)::pn)) hN hv hd hcd)) λσ H Q ⟨g,Z,M,x,z,I,e,k⟩=>?_;have e:abf y x f=some z:=e;unfold abf at e;split at e
 .next ey=>
  obtain⟨z',l,e⟩:=atv.mp e;split at e
  .next hl=>
   cases e;obtain⟨C',c1,c2,c3⟩:=I.xr;rw[au8 ey,hC]at c1;cases c1;rcases c3 with⟨c3,_⟩|⟨b,fs,c3,c4,c5⟩
   .rw[c3]at l;cases l
   .obtain⟨v,l1,l2⟩:=c5.get l;exact⟨.ref a,I.sl j rfl,rfl,c2,b,fs,v,c3,c4,l1,k v H (Ex.refl H) (Rep.free (g:=g.fr) (g':=g) rfl hl l2)⟩
  .cases e
 .cases e
theorem aeR{i:Option Nat}:PA (X.suite a ((a,oe)::pn)) [] (tUA X.K ak a cls d i λ_=>some []):=PA.weak pa_nil λσ H Q ⟨g,Z,M,x,z,I,e,k⟩=>by
 cases e;exact k [] H (Ex.refl H) .nil
theorem aj2{e:Expr}{es:List Expr}{i:Option Nat}{f:eX->Option Dat}{fr:eX->Option (List Dat)}(h:PE (X.suite a ((a,oe)::pn)) e (tU X.K ak a cls d i f))(hr:PA (X.suite a ((a,oe)::pn)) es (tUA X.K ak a cls d i fr))(hs:nst e=true) :
  PA (X.suite a ((a,oe)::pn)) (e::es) (tUA X.K ak a cls d i λx=>(f x).bind λz=>(fr x).bind λzs=>some (z::zs)):=by
 refine PA.weak (pa_cons h hr (cP hs es)) λσ H Q ⟨g,Z,M,x,z,I,e,k⟩=>?_;obtain⟨z1,e1,e⟩:=atv.mp e;obtain⟨z2,e2,e⟩:=atv.mp e;cases e;exact⟨g,Z,M,x,z1,I,e1,λv H1 x1 r1=>⟨g,Z,M,x,z2,I.ex x1,e2,λvs H2 x2 r2=>k (v::vs) H2 (x1.trans x2) (.cons (r1.ex x2 (I.ex x1).inv.kd) r2)⟩⟩
theorem aeK{es:List Expr}{kk:Nat}{i:Option Nat}{fr:eX->Option (List Dat)}(hr:PA (X.suite a ((a,oe)::pn)) es (tUA X.K ak a cls d i fr))(hn:∀x zs,fr x=some zs->zs.length<=100000):PE (X.suite a ((a,oe)::pn)) (.Tuple es kk pos) (tU X.K ak a cls d i λx=>(fr x).bind λzs=>some (.tuple zs)):=by refine PE.weak (pe_tup hr) λσ H Q ⟨g,Z,M,x,z,I,e,k⟩=>?_;obtain⟨zs,e1,e⟩:=atv.mp e;cases e;refine⟨g,Z,M,x,zs,I,e1,λvs H1 x1 r1=>⟨sz_of (by rw[r1.length];exact hn x zs e1),λp np=>?_⟩⟩;exact k (.ref p) _ (x1.trans (Ex.new np)) (.tup (st_of au7) (r1.ex (Ex.new np) (I.ex x1).inv.kd))
theorem Ye{x:eX}:∀{fs:List Str} {zs:List Dat},Tw y x fs=some zs->zs.length=fs.length
 |[],zs,h=>by cases h;rfl
 |f::fs,zs,h=>by
  rw[Tw]at h;obtain⟨z1,e1,h⟩:=atv.mp h;obtain⟨z2,e2,h⟩:=atv.mp h;cases h;simp[Ye e2]
theorem ak9{i:Option Nat}{se:Ie}{st:List (Nat×Ie)}{D D':Ends}{σ:L2.St}{H:Hp}(h:tSu X.K ak a cls d i y ((j,se)::st) D σ H)(nx:∀σ' H',tSu X.K ak a cls d i y st D σ' H'->D'.nx σ' H') :
  tAsg (tU X.K ak a cls d i λx=>abC y x se) (gName j) D' σ H:=by
 obtain⟨g,Z,M,x,Z2,I,e,nj,k⟩:=h;rw[Hl]at e;obtain⟨z,e1,e⟩:=atv.mp e;refine⟨g,Z,M,x,z,I,e1,λv H' x1 r1=>nx _ _ ⟨g,Z.set j (some (.dat z)),M,x,Z2,⟨(I.ex x1).inv.set r1,(I.ex x1).xr,λjj hj=>?_⟩,e,λp hp=>nj p (atA _ hp),λσ' H2 x2 I2=>k σ' H2 (x1.trans x2) I2⟩⟩;have ne:j≠jj:=λz=>nj (j,se) atD (by rw[hj,z]);rw[atH ne];exact I.sl jj hj
theorem amU{i:Option Nat}{D:Ends}{σ:L2.St}{H:Hp}(h:tSu X.K ak a cls d i y [] D σ H):D.nx σ H:=by obtain⟨g,Z,M,x,Z2,I,e,nj,k⟩:=h;cases e;exact k σ H (Ex.refl H) I.inv
end
def ao5(K:atw)(ak:aX)(h:Hd)(l:Cl):Prop:=(∃D,ak h.y=some D/\l.c=.ref D)/\aei K ak h.y h.tk/\l.nm=h.nm/\(l.ts=λa cls d=>tSu K ak a cls d h.nm h.y h.st)/\∀p∈h.st,h.nm≠some p.1
inductive Jm(K:atw)(ak:aX):List Hd->List Cl->Prop
 |nil:Jm K ak [] []
 |cons {h:Hd} {l:Cl} {hs:List Hd} {ls:List Cl} (o:ao5 K ak h l) (r:Jm K ak hs ls):Jm K ak (h::hs) (l::ls)
theorem SInv.off{K:atw}{ak:aX}{σ:L2.St}{H:Hp}{g:Gh}{Z:Env}{M:Mo}(I:SInv K ak σ H g Z M)(i:Nat)(v:Option V):SInv K ak (σ.set i v) H g (Z.set i none) M:=by
 have I2:=I.forget (j:=i);refine⟨I2.kd,I2.wok,by rw[at8,at8];exact I.len,λj d h=>?_,λj xs h=>?_,λj k xs ys l ne h1 h2 h3=>?_⟩
 .by_cases e:j=i
  .subst e;rw[auE]at h;split at h<;>first | (split at h<;>cases h) | (exact absurd rfl ‹¬_›)
  .obtain⟨v',a1,a2⟩:=I2.dat j d h;rw[atH (Ne.symm e)]at a1;exact⟨v',by rw[atH (Ne.symm e)];exact a1,a2⟩
 .by_cases e:j=i
  .subst e;rw[auE]at h;split at h<;>first | (split at h<;>cases h) | (exact absurd rfl ‹¬_›)
  .obtain⟨l,us,a1,a2⟩:=I2.own j xs h;rw[atH (Ne.symm e)]at a1;exact⟨l,us,by rw[atH (Ne.symm e)];exact a1,a2⟩
 .have n1:j≠i:=λz=>by
   subst z;rw[auE]at h1;split at h1<;>first | (split at h1<;>cases h1) | (exact absurd rfl ‹¬_›)
  have n2:k≠i:=λz=>by
   subst z;rw[auE]at h2;split at h2<;>first | (split at h2<;>cases h2) | (exact absurd rfl ‹¬_›)
  rw[atH (Ne.symm n1)]at h1 h3;rw[atH (Ne.symm n2)]at h2 |-
  exact I.sep j k xs ys l ne h1 h2 h3
section
variable{X:Cx}{ak:aX}{W:WX}{q:Bool}{body:List Stmt}{h0:ExceptHandler}{hds:List ExceptHandler}{hs:List Hd}{ls:List Cl}{pos:Pos}{f:SF}
theorem am4{D:Ends}{g g':Gh}{H H':Hp}{σ':L2.St}{Z':Env}{M':Mo}{x:eX}{c:Value}{dd:Option Addr}(ha:Jm X.K ak hs ls)(r:Gr q g g' H H')(I:SInv X.K ak σ' H' g' Z' M')(xr:tR X.K ak g'.fr H' x c dd)
  (z:(hdl hs x Z' M').sat (sN X.K ak q D.nx g H) (sR X.K ak q D.rt g H) (sN X.K ak q D.bk g H) (sN X.K ak q D.ct g H) (sX X.K ak W q g H)):aa9 X.K W D ls c dd σ' H':=by
 induction ha with
 |nil=>exact z σ' H' g' c dd r I xr
 | @cons h l hs ls o _ ih=>
  obtain⟨⟨D0,o1,o2⟩,o3,o4,o5,o6⟩:=o;rw[hdl]at z;obtain⟨C,c1,c2,c3⟩:=id xr;split at z
  .next ht=>
   refine⟨true,by rw[c2,o2];exact o3 _ _ _ ht c1 _ o1,λ_ a na=>?_,λy=>nomatch y⟩;rw[o4,o5];split at z
   .next hm=>
    split at z
    .next Z2 hr=>
     cases hnm:h.nm with
     |none=>
      rw[hnm]at hr z o6;exact⟨g',Z',M',x,Z2,⟨I,xr,λj hj=>nomatch hj⟩,hr,o6,λσ2 H2 e2 I2=>z σ2 H2 g' (r.trans (Gr.ex e2)) I2⟩
     |some i=>
      rw[hnm]at hr z o6 hm;refine⟨g',Z'.set i none,M',x,Z2,⟨I.off i _,xr,λj hj=>?_⟩,hr,o6,λσ2 H2 e2 I2=>z _ H2 g' (r.trans (Gr.ex e2)) (I2.off i none)⟩;cases hj;have hl:i<Z'.length:=au2 hm;rw[atX (by rw[I.len];exact hl)]
    .exact au0 z
   .exact au0 z
  .next ht=>exact⟨false,by rw[c2,o2];exact o3 _ _ _ ht c1 _ o1,(λy=>nomatch y),λ_=>ih z⟩
  .exact au0 z
theorem alH(st:X.stack=X.env::X.outer)(hf:X.env.frame=some X.env.locals)(hN:X.N.Nodup)(tk:Takes X W)
  (hb:∀(W':WX) (pn:List (Addr×Obj)) (xe:Value->Shared->Prop),Takes (X.tr pn xe) W'->PassesOwn (model X.prog X.w) X.A X.env xe->Mu ak (X.tr pn xe) W' q body f)
  (hh:DN X (h0::hds) ls) (ha:Jm X.K ak hs ls):SE ak X W q (.Try body (h0::hds) [] [] pos) (Oi f hs):=by
 refine PS.weak (aiU (tb:=λW'=>tS X.K ak W' q f) st hf hN tk (λW' pn xe t p=>hb W' pn xe t p) hh) λD σ H ⟨g,Z,M,I,z⟩=>?_;refine⟨g,Z,M,I,?_⟩;unfold Oi at z;cases hfm:f M Z with
 |next Z' M'=>rw[hfm]at z;exact z
 |ret d M'=>rw[hfm]at z;exact z
 |brk Z' M'=>rw[hfm]at z;exact z
 |cont Z' M'=>rw[hfm]at z;exact z
 |bad=>rw[hfm]at z;exact z
 |exc x Z' M'=>
  rw[hfm]at z;exact λσ' H' g' c dd r I' xr=>am4 ha r I' xr z
end
section
variable{K:atw}{ak:aX}{W:WX}{g g':Gh}{H H':Hp}{σ:L2.St}{Z:Env}{M:Mo}
theorem j7.grow{l:Addr}(r:Gr false g g' H H')(e:Ex H H')(k:Kd g H):∀{n:Bool} {kvs:List (Dat×Dat)},j7 K ak g H l n kvs->j7 K ak g' H' l n kvs
 |false,_,⟨kv,h1,h2,h3⟩=>⟨kv,e _ _ h1,h2,h3.gr r k⟩
 |true,_,⟨o,xs,vs,h1,h2,h3,h4,h5,h6⟩=>⟨o,xs,vs,e _ _ h1,h2,h3,h4.gr r k,h5,h6.gr r k⟩
theorem eU.grow{h:Nat}{f:Str}{v:V}(r:Gr false g g' H H')(e:Ex H H')(o:g'.ow=g.ow)(k:Kd g H):∀{fl:jN},eU K ak g H h f v fl->eU K ak g' H' h f v fl
 |.dat _,z=>Rep.gr r k z
 |.lst _ _,⟨l,us,h1,h2,h3,h4,h5⟩=>⟨l,us,h1,e _ _ h2,by rw[o];exact h3,h4.gr r k,r.tb h5⟩
 |.dic _ _,⟨l,h1,h2,h3⟩=>⟨l,h1,by rw[o];exact h2,h3.grow r e k⟩
theorem cU.grow{h:Nat}(r:Gr false g g' H H')(e:Ex H H')(o:g'.ow=g.ow)(k:Kd g H){fs:List (Str×V)}{gs:List (Str×jN)}(t:cU K ak g H h fs gs):cU K ak g' H' h fs gs:=by
 induction t with
 |nil=>exact .nil
 |cons z _ ih=>exact .cons (z.grow r e o k) ih
def Gh.push(g:Gh)(x:Addr):Gh:={ g with tbl:=g.tbl++[x] }
theorem aaG{x a:Addr}(z:(g.push x).A a):g.A a\/a=x:=by
 rcases z with(z|z)|z|z
 .rcases atL.mp z with z|z
  .exact .inl (.inl (.inl z))
  .exact .inr (atF.mp z)
 .exact .inl (.inl (.inr z))
 .exact .inl (.inr (.inl z))
 .exact .inl (.inr (.inr z))
theorem abg{x a:Addr}(z:(g.push x).W a):g.W a\/a=x:=by
 rcases z with z|z
 .rcases atL.mp z with z|z
  .exact .inl (.inl z)
  .exact .inr (atF.mp z)
 .exact .inl (.inr z)
theorem VR{x:Addr}(e:Ex H H')(nx:H x=none):Gr false g (g.push x) H H' where
 keep:=λa o h _ _=>e a o h
 keepW:=λz=>nomatch z
 dom:=FT e
 tbl:=⟨[x],rfl⟩
 W:=λa z=>z.elim (λz=>.inl (aui _ z)) .inr
 nW:=λa z=>(abg z).imp id λz=>by rw[z];exact nx
 qg:=λz=>nomatch z
 Lc:=rfl
 Lo:=λ_ z=>z
 nLo:=λ_ z=>.inl z
theorem acg{x:Addr}{o:HO}(k:Kd g H)(e:Ex H H')(nx:H x=none)(hx:H' x=some o)(m:KQ o):Kd (g.push x) H' where
 ob:=λa z=>by
  rcases aaG z with z|rfl
  .obtain⟨u,h1,h2⟩:=k.ob a z;exact⟨u,e _ _ h1,h2⟩
  .exact⟨o,hx,m⟩
 lo:=λa z y=>by
  rcases abg y with y|rfl
  .exact k.lo a z y
  .obtain⟨u,h1,_⟩:=k.ob a (.inr (.inr z));rw[nx]at h1;cases h1
 lc:=λa z=>by
  refine⟨λy=>?_,(k.lc a z).2⟩;rcases abg y with y|rfl
  .exact(k.lc a z).1 y
  .obtain⟨u,h1,_⟩:=k.ob a (.inr (.inl z));rw[nx]at h1;cases h1
theorem aaA{x:Addr}{c:Str}(k:Kd g H)(w:gW K ak g H M)(e:Ex H H')(nx:H x=none)(hx:c=""\/∃C dx,ak c=some C/\H' x=some (.ins C dx [])):gW K ak (g.push x) H' (M++[⟨c,[]⟩]):=by
 have gt:∀{h:Nat} {a:Addr},(g.push x).tbl[h]?=some a->(g.tbl[h]?=some a)\/(h=M.length/\a=x):=λ{h a} z=>by
  have z:(g.tbl++[x])[h]?=some a:=z;by_cases hl:h<g.tbl.length
  .rw[atN hl]at z;exact .inl z
  .rw[atZ (by omega)]at z;have:=(aty.mp z).1;simp at this;have e0:h-g.tbl.length=0:=by omega
   rw[e0]at z;cases z;exact .inr ⟨by rw[<-w.len];omega,rfl⟩
 have nin:∀{h:Nat},¬g.tbl[h]?=some x:=λ{h} z=>by
  obtain⟨u,h1,_⟩:=k.ob x (.inl (.inl (atG z)));rw[nx]at h1;cases h1
 have ex:∀{h:Nat} {i:Inst},(M++[(⟨c,[]⟩:Inst)])[h]?=some i->M[h]?=some i\/i=⟨c,[]⟩:=λ{h i} h1=>by
  by_cases hl:h<M.length
  .rw[atN hl]at h1;exact .inl h1
  .rw[atZ (by omega)]at h1;exact .inr (atF.mp (atG h1))
 refine⟨by show(g.tbl++[x]).length=_;simp[w.len],λh j a h1 h2=>?_,λh a i h1 h2 hcn=>?_,λh i h1=>?_,λh i h1=>?_,λh a i h1 h2 hcn=>?_,λh i h1 hcn=>?_,w.nc⟩
 .rcases gt h1 with z1|⟨z1,rfl⟩
  .rcases gt h2 with z2|⟨z2,rfl⟩
   .exact w.inj h j a z1 z2
   .exact absurd z1 nin
  .rcases gt h2 with z2|⟨z2,_⟩
   .exact absurd z2 nin
   .omega
 .rcases gt h1 with z1|⟨rfl,rfl⟩
  .have hl:h<M.length:=by rw[<-w.len];exact(aty.mp z1).1
   rw[atN hl]at h2;obtain⟨C',dx',fs,c1,c2,c3⟩:=w.ins h a i z1 h2 hcn;exact⟨C',dx',fs,c1,e _ _ c2,c3.grow (VR e nx) e rfl k⟩
  .rw[atZ (at6 _),Nat.sub_self]at h2;cases h2;rcases hx with rfl|⟨C,dx,hc,hx⟩
   .exact absurd rfl hcn
   .exact⟨C,dx,[],hc,hx,.nil⟩
 .rcases ex h1 with h1|rfl
  .exact w.nd h i h1
  .exact auS
 .rcases ex h1 with h1|rfl
  .exact w.fd h i h1
  .exact λf hf=>absurd hf auc
 .rcases gt h1 with z1|⟨_,rfl⟩
  .have hl:h<M.length:=by rw[<-w.len];exact(aty.mp z1).1
   rw[atN hl]at h2;exact w.tw h a i z1 h2 hcn
  .cases hz:g.ow a with
   |none=>exact hz
   |some p=>
    obtain⟨u,h2,_⟩:=k.ob a (.inl (.inr (by rw[hz];exact λy=>nomatch y)));rw[nx]at h2;cases h2
 .rcases ex h1 with h1|rfl
  .exact w.dm h i h1 hcn
  .rfl
theorem SInv.grow{M':Mo}(r:Gr false g g' H H')(e:Ex H H')(lo:g'.Lo=g.Lo)(k':Kd g' H')(w':gW K ak g' H' M')(I:SInv K ak σ H g Z M):SInv K ak σ H' g' Z M' where
 kd:=k'
 wok:=w'
 len:=I.len
 dat:=λi d h=>by
  obtain⟨v,h1,h2⟩:=I.dat i d h;exact⟨v,h1,h2.gr r I.kd⟩
 own:=λi xs h=>by
  obtain⟨l,us,h1,h2,h3,h4⟩:=I.own i xs h;exact⟨l,us,h1,e _ _ h2,by rw[lo];exact h3,h4.gr r I.kd⟩
 sep:=I.sep
end
theorem adU{P:Program}{w:World}{K:atw}{mg:Str->Option Value}{base:Heap}{k:Nat}{f:Addr}{fd:FuncData}{ps:List Str}{sp:Sp}(F:FnOk P w K mg base (L2.CX P w) k f fd ps sp):FnOk P w K mg base L2.CX0 k f fd ps λvs H Q _=>sp vs H Q λ_ _ _=>False:=
 ⟨λvs H Q E h=>F.len vs H Q _ h,λA outer s H args us vs Q E hr he hb hv h=>codeAny_mono (F.run A outer s H args us vs Q _ hr he hb hv h) λr s' z=>by
  unfold CR at z |-
  split at z
  .exact z
  .exact z
  .obtain⟨a,B,H',cls,d,_,_,_,_,_,_,_,y⟩:=z;exact au0 y⟩
def Dj(x:Str)(m:Mo->List Dat->bG Dat)(as:QA):GF:=λM Z=>((as M Z).at M).bind λds _=>match m (M++[⟨x,[]⟩]) (obj M.length::ds) with
 |.ok .none M'=>.ok (obj M.length) M'
 |_=>.bad
section
variable{X:Cx}{ak:aX}{W:WX}{x:Str}{pos p:Pos}{k n:Nat}{m:Mo->List Dat->bG Dat}{as:QA}{t:TA}{e:Expr}{es:List Expr}
theorem agp{C f:Addr}{fd:FuncData}{ps:List Str}(hc:ak x=some C)(hp:ps.length=n+1)(hn:∀M Z ds,as M Z=.ok ds->ds.length=n)(ht:∀σ H Q,QX X.K ak W as σ H Q->t σ H Q)(σ:L2.St)(H:Hp)(Q:VK)(h:tE X.K ak W false (Dj x m as) σ H Q) :
  tMake C (λvs H Q _=>Mv X.K ak ps.length m vs H Q λ_ _ _=>False) [] (λ_ _ _=>False) t σ H Q:=by
 obtain⟨g,Z,M,I,h⟩:=h;unfold Dj at h;have h:=h.bnd;refine ht σ H _ ⟨g,Z,M,I,?_⟩;cases has:as M Z with
 |exc x=>rw[has]at h;exact λH' c dd e r=>h H' g c dd (Gr.ex e) (I.ex e) r
 |bad=>rw[has]at h;exact au0 h
 |ok ds=>
  rw[has]at h;intro vs H1 e1 r1 y dx ny ndx ne;have I1:=I.ex e1;have e2:Ex H1 (upd (upd H1 dx (.own y)) y (.ins C dx [])):=by refine(Ex.new ndx).trans (Ex.new ?_);rw[upd_ne ne.symm];exact ny
  have hy:upd (upd H1 dx (.own y)) y (.ins C dx []) y=some (.ins C dx []):=au7;have gr:=VR (g:=g) e2 ny;have kd:=acg I1.kd e2 ny hy trivial;have wk:=aaA (c:=x) I1.kd I1.wok e2 ny (.inr ⟨C,dx,hc,hy⟩);have I2:=I1.grow gr e2 rfl kd wk;have hb:(g.push y).tbl[M.length]?=some y:=by
   show(g.tbl++[y])[M.length]?=_
   rw[<-I1.wok.len,atZ (at6 _),Nat.sub_self];rfl
  refine⟨by rw[aur,atQ,r1.length,hn M Z ds has,hp],g.push y,M++[⟨x,[]⟩],obj M.length::ds,kd,wk,.cons (.obj hb) (by rw[aur];exact r1.gr gr I1.kd),?_⟩;have h:bG.sat (match m (M++[(⟨x,[]⟩:Inst)]) (obj M.length::ds) with
   |.ok .none M'=>bG.ok (obj M.length) M'
   |_=>.bad) (λd M'=>∀v H' g',Gr false g g' H H'->SInv X.K ak σ H' g' Z M'->Rep X.K g' H' v d->Q v H') (gE X.K ak W false g H σ Z):=h
  cases hm:m (M++[⟨x,[]⟩]) (obj M.length::ds) with
  |bad=>rw[hm]at h;exact au0 h
  |exc z M'=>rw[hm]at h;exact au0 h
  |ok d M'=>
   rw[hm]at h;cases d with
   |none=>exact λv H' g' c k' w' r'=>⟨by cases r';rfl,h (.ref y) H' g' (((Gr.ex e1).trans gr).trans c.gr) (I2.call c k' w') (.obj (c.gr.tb hb))⟩
   |_=>exact au0 h
theorem akP(hr:Room k X.A)(g:bh X.prog X.w X.K X.mg X.base ak k x (.cls n m))(hg:Gl X x)(hd:(x==("__debug__" : Str))=false)(ha:Gu ak X W (e::es) as)(hs:(e::es).all nst=true)(hn:∀M Z ds,as M Z=.ok ds->ds.length=n) :
  GE ak X W false (.Call (.Name x p) (e::es) [] pos) (Dj x m as):=by
 obtain⟨C,f,fd,ps,j,g1,g2,_,g3,hj,hp,hB,F⟩:=g;have hs':=hs;rw[auk,atx]at hs';exact PE.weak (pe_make (E:=λ_ _ _=>False) g3 (adU F) (hr.mono hj) hg g1 hB .nil pass0 ha hd (cP hs'.1 es) (star_any es hs'.2)) λσ H Q h=>agp (f:=f) (fd:=fd) g2 hp hn (λ_ _ _ z=>z) σ H Q h
theorem aiQ(hr:Room k X.A)(g:bh X.prog X.w X.K X.mg X.base ak k x (.cls 0 m))(hg:Gl X x)(hd:(x==("__debug__" : Str))=false):GE ak X W false (.Call (.Name x p) [] [] pos) (Dj x m au):=by obtain⟨C,f,fd,ps,j,g1,g2,_,g3,hj,hp,hB,F⟩:=g;exact PE.weak (pe_make0 (E:=λ_ _ _=>False) g3 (adU F) (hr.mono hj) hg g1 hB .nil pass0 hd) λσ H Q h=>agp (f:=f) (fd:=fd) (as:=au) g2 hp (λM Z ds z=>by cases z;rfl) (λσ H Q ⟨g,Z,M,I,z⟩=>z [] H (Ex.refl H) .nil) σ H Q h
end
def Bx(m:Mo->List Dat->bG Dat)(as:QA):GF:=λM Z=>((as M Z).at M).bind λds _=>m M ds
section
variable{X:Cx}{ak:aX}{W:WX}{e:Expr}{es:List Expr}{pos p:Pos}{x:Str}{k:Nat}{f:Addr}{fd:FuncData}{ps:List Str}
theorem ajs{m:Mo->List Dat->bG Dat}{as:QA}(tk:Takes X W)(F:FnOk X.prog X.w X.K X.mg X.base (L2.CX X.prog X.w) k f fd ps (Mv X.K ak ps.length m))(hr:Room k X.A)(hg:Gl X x)(hm:X.mg x=some (.ref f))(hk:PySem.W.keepIn X.K (.ref f)=true)(hb:Binds X.K fd ps [])
  (ha:Gu ak X W (e::es) as) (hl:(e::es).length=ps.length) (hd:(x==("__debug__" : Str))=false) (hs:(e::es).all nst=true) (hn:∀M Z ds,as M Z=.ok ds->ds.length=(e::es).length):GE ak X W false (.Call (.Name x p) (e::es) [] pos) (Bx m as):=by
 have hs':=hs;rw[auk,atx]at hs';refine PE.weak (pe_callS (E:=λσ=>WE W σ) F hr hg hm hk hb (λσ=>passAt tk σ) ha hd (cP hs'.1 es) (star_any es hs'.2)) λσ H Q ⟨g,Z,M,I,h⟩=>?_;refine⟨g,Z,M,I,?_⟩;have h:=h.bnd;cases has:as M Z with
 |exc x=>rw[has]at h;exact λH' c dd e r=>h H' g c dd (Gr.ex e) (I.ex e) r
 |bad=>rw[has]at h;exact au0 h
 |ok ds=>
  rw[has]at h;have h:(m M ds).sat (λd M'=>∀v H' g',Gr false g g' H H'->SInv X.K ak σ H' g' Z M'->Rep X.K g' H' v d->Q v H') (gE X.K ak W false g H σ Z):=h;intro vs H1 e1 r1;exact⟨by rw[r1.length,hn M Z ds has];exact hl,g,M,ds,I.kd.ex e1,I.wok.ex e1 I.kd,r1,h.mono (λd M' kk v H' g' c k' w' r'=>kk v H' g' ((Gr.ex e1).trans c.gr) ((I.ex e1).call c k' w') r') λx M' kk H' g' cc dd c k' w' r'=>kk H' g' cc dd ((Gr.ex e1).trans c.gr) ((I.ex e1).call c k' w') r'⟩
end
def Ft.has(ft:Ft)(c f:Str):Bool:=match ft.lookup c with
 |some fs=>fs.contains f
 |none=>false
def Ph(ft:Ft)(ak:aX):Prop:=∀c f,ft.has c f=true->f∈ak.fl c
def unH:Dat->Option Nat
 |.dict [(.none,.int (.ofNat h))]=>some h
 |_=>none
theorem ahZ{d:Dat}{h:Nat}(e:unH d=some h):d=obj h:=by
 unfold unH at e;split at e
 .cases e;rfl
 .cases e
def lQ(M:Mo)(d:Dat):Option (Nat×Inst):=(unH d).bind λh=>(M[h]?).bind λi=>match i.cls=="" with
 |true=>none
 |false=>some (h,i)
theorem LC{M:Mo}{d:Dat}{h:Nat}{i:Inst}(e:lQ M d=some (h,i)):d=obj h/\M[h]?=some i/\i.cls≠"":=by
 unfold lQ at e;obtain⟨h',e1,e⟩:=atv.mp e;obtain⟨i',e2,e⟩:=atv.mp e;split at e
 .cases e
 .next hc=>
  cases e;exact⟨ahZ e1,e2,λz=>by rw[z]at hc;cases hc⟩
def wM(ft:Ft)(o:QF)(f:Str)(e:GF):SF:=λM Z=>(e M Z).then Z λd M1=>((o M1 Z).at M1).then Z λod M2=>match lQ M2 od with
 |some (h,i)=>match ft.has i.cls f&&decide (i.fs.length<100) with
  |true=>.next Z (M2.set h (i.put f (.dat d)))
  |false=>.bad
 |none=>.bad
theorem SInv.chg{K:atw}{ak:aX}{σ:L2.St}{H H':Hp}{g g':Gh}{Z:Env}{M M':Mo}{h:Nat}{f:Str}(I:SInv K ak σ H g Z M)(c:Chg M g g' H H' h f)(w:gW K ak g' H' M'):SInv K ak σ H' g' Z M':=I.call c.gc c.kd w
section
variable{X:Cx}{ak:aX}{W:WX}{o e:Expr}{f:Str}{pos pos':Pos}{ft:Ft}{fo:QF}
theorem JR{K:atw}{g:Gh}{H:Hp}{M:Mo}{d:Dat}{v:V}{h:Nat}{i:Inst}(co:j5 K ak)(fk:Ph ft ak)(w:gW K ak g H M)(r:eZ K g H v d)(hi:lQ M d=some (h,i))(hf:ft.has i.cls f=true):∃a C dx fs,d=obj h/\M[h]?=some i/\i.cls≠""/\g.tbl[h]?=some a/\v=.ref a/\ak i.cls=some C/\H a=some (.ins C dx fs)/\cU K ak g H h fs i.fs/\Cls K C/\NoAttr K C f/\f∈ak.fl i.cls:=by obtain⟨rfl,h1,h2⟩:=LC hi;obtain⟨a,rfl,ha⟩:=Nh r;obtain⟨C,dx,fs,c1,c2,c3⟩:=w.ins h a i ha h1 h2;have hfl:=fk _ _ hf;obtain⟨k1,k2⟩:=co i.cls C f c1 hfl;exact⟨a,C,dx,fs,rfl,h1,h2,ha,rfl,c1,c2,c3,k1,k2,hfl⟩
theorem aiP{fe:GF}(co:j5 X.K ak)(fk:Ph ft ak)(ho:QW ak X W o fo)(he:GE ak X W false e fe)(hs:swapsWith e (some (.Attribute o f pos')) pos.line X.env=pure false):SE ak X W false (.Assign [.Attribute o f pos'] e pos) (wM ft fo f fe):=by
 refine PS.weak (ps_fld ho he hs) λD σ H ⟨g,Z,M,I,z⟩=>?_;refine tE.go I (dN (σ:=σ) z) λd M1 v H1 g1 k1 r1 I1 rv=>?_;refine tW.go I1 (k:=λod=>((match lQ M1 od with
  |some (h,i)=>match ft.has i.cls f&&decide (i.fs.length<100) with
   |true=>vh.next Z (M1.set h (i.put f (.dat d)))
   |false=>.bad
  |none=>.bad).sat (sN X.K ak false D.nx g H) (sR X.K ak false D.rt g H) (sN X.K ak false D.bk g H) (sN X.K ak false D.ct g H) (sX X.K ak W false g H))) ?_ λod u H2 k2 e2 ru=>?_
 .have k1:=Out.jF (dN (σ:=σ) k1);exact k1.mono (λ_ y=>y) λx y H' c dd ex rx=>y H' g1 c dd (r1.trans (Gr.ex ex)) (I1.ex ex) rx
 .have I2:=I1.ex e2;split at k2
  .next h i hi=>
   split at k2
   .next hb=>
    rw[atx]at hb;obtain⟨a,C,dx,fs,_,m1,m2,ha,rfl,c1,c2,c3,c4,c5,c6⟩:=JR co fk I2.wok ru hi hb.1;refine⟨a,C,dx,fs,rfl,c2,c4,c5,?_,?_⟩
    .have:=au2 hb.2;rw[c3.len];omega
    .have ch:=Wk (f:=f) (C:=C) (dx:=dx) (fs':=putF f v fs) I2.kd I2.wok ha m1 m2;have w':=I2.wok.chg I2.kd ch ha m1 m2 c6 c1 c3 au7 (fl:=.dat d) (show Rep X.K g1 _ v d from(rv.ex e2 I1.kd).gr ch.gc.gr I2.kd);exact k2 σ _ g1 ((r1.trans (Gr.ex e2)).trans ch.gc.gr) (I2.chg ch w')
   .exact au0 k2
  .exact au0 k2
end
mutual
theorem Rep.mv{K:atw}{g g':Gh}{H:Hp}(tb:∀(h:Nat) (a:Addr),g.tbl[h]?=some a->g'.tbl[h]?=some a)(n:∀a,g'.A a->g.A a):∀{v:V} {d:Dat},Rep K g H v d->Rep K g' H v d
 |_,_,.non=>.non
 |_,_,.bl b=>.bl b
 |_,_,.int i=>.int i
 |_,_,.str x=>.str x
 |_,_,.tup h t=>.tup h (aQ.mv tb n t)
 |_,_,.lst h t=>.lst (h.elim (λz=>.inl ⟨z.1,λy=>z.2 (n _ y)⟩) .inr) (aQ.mv tb n t)
 |_,_,.obj h=>.obj (tb _ _ h)
theorem aQ.mv{K:atw}{g g':Gh}{H:Hp}(tb:∀(h:Nat) (a:Addr),g.tbl[h]?=some a->g'.tbl[h]?=some a)(n:∀a,g'.A a->g.A a):∀{vs:List V} {ds:List Dat},aQ K g H vs ds->aQ K g' H vs ds
 |_,_,.nil=>.nil
 |_,_,.cons h t=>.cons (Rep.mv tb n h) (aQ.mv tb n t)
end
def GJ(ft:Ft)(o:QF)(f:Str)(e:IF):SF:=λM Z=>((e M Z).at M).then Z λxs M0=>((o (M0++[⟨"",[]⟩]) Z).at (M0++[⟨"",[]⟩])).then Z λod M2=>match lQ M2 od with
 |some (h,i)=>match ft.has i.cls f&&decide (i.fs.length<100) with
  |true=>.next Z (M2.set h (i.put f (.lst M0.length xs)))
  |false=>.bad
 |none=>.bad
theorem Ov{K:atw}{ak:aX}{σ:L2.St}{H H':Hp}{g:Gh}{Z:Env}{M:Mo}{l:Addr}{o:HO}(I:SInv K ak σ H g Z M)(nl:H l=none)(e:Ex H H')(hl:H' l=some o)(m:KQ o):Gr false g (g.push l) H H'/\SInv K ak σ H' (g.push l) Z (M++[⟨"",[]⟩])/\(g.push l).tbl[M.length]?=some l/\(g.push l).ow l=none/\(M++[(⟨"",[]⟩:Inst)])[M.length]?=some ⟨"",[]⟩:=by
 have gr:=VR (g:=g) e nl;have kd:=acg I.kd e nl hl m;have wk:=aaA (c:="") I.kd I.wok e nl (.inl rfl)
 refine⟨gr,I.grow gr e rfl kd wk,?_,?_,?_⟩
 .show(g.tbl++[l])[M.length]?=_
  rw[<-I.wok.len,atZ (at6 _),Nat.sub_self];rfl
 .cases hz:g.ow l with
  |none=>exact hz
  |some p=>
   obtain⟨u,h1,_⟩:=I.kd.ob l (.inl (.inr (by rw[hz];exact λy=>nomatch y)));rw[nl]at h1;cases h1
 .rw[atZ (at6 _),Nat.sub_self];rfl
section
variable{X:Cx}{ak:aX}{W:WX}{o e:Expr}{f:Str}{pos pos' p1 apos epos spos:Pos}{ft:Ft}{fo:QF}
theorem ajr{fe:IF}(co:j5 X.K ak)(fk:Ph ft ak)(ho:QW ak X W o fo)(he:FE ak X W e fe)(hs:swapsWith e (some (.Attribute o f pos')) pos.line X.env=pure false):SE ak X W false (.Assign [.Attribute o f pos'] e pos) (GJ ft fo f fe):=by
 refine PS.weak (ps_fld ho he hs) λD σ H ⟨g,Z,M,I,z⟩=>?_;refine⟨g,Z,M,I,?_⟩;unfold GJ at z;cases hf:fe M Z with
 |exc x=>rw[hf]at z;exact λH' c dd e r=>z σ H' g c dd (Gr.ex e) (I.ex e) r.fr
 |bad=>rw[hf]at z;exact au0 z
 |ok xs=>
  rw[hf]at z;intro l us H1 nl e1 hl rs;obtain⟨gr,I1,tb,ow,mm⟩:=Ov I nl e1 hl trivial;have rs1:aQ X.K (g.push l) H1 us xs:=aQ.mv (g:=g.add l) (g':=g.push l) (λh a z=>gr.tb (g:=g) z) (λa z=>by
   rcases aaG z with z|rfl
   .rcases z with z|z|z
    .exact .inl z
    .exact .inr (.inl z)
    .exact .inr (.inr (show g.Lo a\/a=l from Or.inl z))
   .exact .inr (.inr (show g.Lo a\/a=a from Or.inr rfl))) rs
  have z:(((fo (M++[⟨"",[]⟩]) Z).at (M++[⟨"",[]⟩])).then Z λod M2=>match lQ M2 od with
   |some (h,i)=>match ft.has i.cls f&&decide (i.fs.length<100) with
    |true=>.next Z (M2.set h (i.put f (.lst M.length xs)))
    |false=>.bad
   |none=>.bad).sat (sN X.K ak false D.nx g H) (sR X.K ak false D.rt g H) (sN X.K ak false D.bk g H) (sN X.K ak false D.ct g H) (sX X.K ak W false g H):=z
  have k1:=Out.jF (dN (σ:=σ) z);refine tW.go I1 (k1.mono (λ_ y=>y) λx y H' c dd ex rx=>y H' _ c dd (gr.trans (Gr.ex ex)) (I1.ex ex) rx) λod u H2 k2 e2 ru=>?_;have I2:=I1.ex e2;split at k2
  .next h i hi=>
   split at k2
   .next hb=>
    rw[atx]at hb;obtain⟨a,C,dx,fs,_,m1,m2,ha,rfl,c1,c2,c3,c4,c5,c6⟩:=JR co fk I2.wok ru hi hb.1;have nla:l≠a:=λz=>by
     subst z;cases I2.wok.inj _ _ _ ha tb;rw[mm]at m1;cases m1;exact m2 rfl
    refine⟨a,C,dx,fs,rfl,c2,c4,c5,?_,?_⟩
    .have:=au2 hb.2;rw[c3.len];omega
    .have ch:=Ww (f:=f) (C:=C) (dx:=dx) (fs':=putF f (.ref l) fs) I2.kd I2.wok ha m1 m2 tb mm ow;have w':=I2.wok.chg I2.kd ch ha m1 m2 c6 c1 c3 au7 (v:=.ref l) (fl:=.lst M.length xs) ⟨l,us,rfl,by rw[upd_ne nla];exact e2 _ _ hl,au5 rfl,(rs1.ex e2 I1.kd).gr ch.gc.gr I2.kd,ch.gc.gr.tb tb⟩;exact k2 σ _ _ ((gr.trans (Gr.ex e2)).trans ch.gc.gr) (I2.chg ch w')
   .exact au0 k2
  .exact au0 k2
def Ir(M:Mo)(f:Str)(d:Dat):Option (Nat×Inst×Nat×List Dat):=(lQ M d).bind λp=>match p.2.fs.lookup f with
 |some (.lst n xs)=>some (p.1,p.2,n,xs)
 |_=>none
theorem WM{K:atw}{g:Gh}{H:Hp}{M:Mo}{d:Dat}{v:V}{h n:Nat}{i:Inst}{xs:List Dat}(co:j5 K ak)(w:gW K ak g H M)(r:eZ K g H v d)(hi:Ir M f d=some (h,i,n,xs)) :
  ∃a C dx fs l us,d=obj h/\M[h]?=some i/\i.cls≠""/\i.fs.lookup f=some (.lst n xs)/\g.tbl[h]?=some a/\v=.ref a/\ak i.cls=some C/\H a=some (.ins C dx fs)/\cU K ak g H h fs i.fs/\Cls K C/\NoAttr K C f/\f∈ak.fl i.cls/\fs.lookup f=some (.ref l)/\H l=some (.lst us)/\g.ow l=some (h,f)/\aQ K g H us xs/\g.tbl[n]?=some l:=by
 unfold Ir at hi;obtain⟨⟨h',i'⟩,h1,hi⟩:=atv.mp hi;split at hi
 .next n' xs' hl=>
  cases hi;obtain⟨rfl,m1,m2⟩:=LC h1;obtain⟨a,rfl,ha⟩:=Nh r;obtain⟨C,dx,fs,c1,c2,c3⟩:=w.ins _ a _ ha m1 m2;have hfl:=w.fd _ _ m1 f (lookup_mem hl);obtain⟨k1,k2⟩:=co _ C f c1 hfl;obtain⟨u,l1,l,us,rfl,l3,l4,l5,l6⟩:=c3.get hl;exact⟨a,C,dx,fs,l,us,rfl,m1,m2,hl,ha,rfl,c1,c2,c3,k1,k2,hfl,l1,l3,l4,l5,l6⟩
 .cases hi
theorem acK{K:atw}{σ:L2.St}{Z:Env}{g:Gh}{H:Hp}{M:Mo}{h n:Nat}{i:Inst}{ys:List Dat}{a C dx l:Addr}{fs:List (Str×V)}{us':List V}(I:SInv K ak σ H g Z M)(m1:M[h]?=some i)(m2:i.cls≠"")(ha:g.tbl[h]?=some a)(c1:ak i.cls=some C)(c2:H a=some (.ins C dx fs))(c3:cU K ak g H h fs i.fs)(hfl:f∈ak.fl i.cls)(l1:fs.lookup f=some (.ref l))(l4:g.ow l=some (h,f))(l6:g.tbl[n]?=some l)(rs:aQ K g H us' ys) :
  Gr false g g H (upd H l (.lst us'))/\SInv K ak σ (upd H l (.lst us')) g Z (M.set h (i.put f (.lst n ys))):=by
 have ch:=agr (o':=.lst us') I.kd I.wok l4 trivial;have nla:a≠l:=λz=>by
  subst z;rw[I.wok.tw h a i ha m1 m2]at l4;cases l4
 have w':=I.wok.chg I.kd ch ha m1 m2 hfl c1 (dx:=dx) c3 (v:=.ref l) (fl:=.lst n ys) (by rw[upd_ne nla,NT l1];exact c2) ⟨l,us',rfl,au7,l4,rs.gr ch.gc.gr I.kd,l6⟩;exact⟨ch.gc.gr,I.chg ch w'⟩
def Hw(f:Str)(o:QF)(e:GF):SF:=λM Z=>((o M Z).at M).then Z λod M0=>match Ir M0 f od with
 |some (_,_,n,_)=>(e M0 Z).then Z λd M1=>match Ir M1 f od with
  |some (h,i,n',xs)=>match n==n'&&decide (xs.length<100000) with
   |true=>.next Z (M1.set h (i.put f (.lst n (xs++[d]))))
   |false=>.bad
  |none=>.bad
 |none=>.bad
theorem ai0{fe:GF}(co:j5 X.K ak)(ho:QW ak X W o fo)(hb:baseOk o=true)(he:GE ak X W false e fe)(hs:nst e=true)(hl:(apos.endLine==pos.line)=true) :
  SE ak X W false (.Expr (.Call (.Attribute (.Attribute o f p1) "append" apos) [e] [] pos) epos) (Hw f fo fe):=by
 have h0:=pe_fld (X:=X) (pos:=p1) (f:=f) ho (oY hb);have h1:=pa_cons he pa_nil (cP hs []);have key:=pe_bm (X:=X) (cpos:=pos) (apos:=apos) PySem.F.plainAttrs_list PySem.F.slot_list_append PySem.F.type_list_append mt_append h0 h1 (oY rfl) (few (by simp[hs]) (by simp)) hl (cP hs []) (by with_unfolding_all rfl);refine PS.weak (ps_expr key (by with_unfolding_all rfl)) λD σ H ⟨g,Z,M,I,z⟩=>?_;unfold Hw at z;have k1:=Out.jF (dN (σ:=σ) z);refine tW.go I (k1.mono (λ_ y=>y) λx y H' c dd ex rx=>y H' _ c dd (Gr.ex ex) (I.ex ex) rx) λod u H1 k2 e1 ru=>?_;have I1:=I.ex e1;split at k2
 .next h0' i0 n xs0 hi=>
  obtain⟨a,C,dx,fs,l,us,rfl,m1,m2,ml,ha,rfl,c1,c2,c3,c4,c5,c6,l1,l3,l4,l5,l6⟩:=WM co I1.wok ru hi;refine⟨a,C,dx,fs,.ref l,rfl,c2,c4,c5,l1,.inl ⟨rfl,us,sq_of l3⟩,?_⟩;refine tE.go I1 ((dN (σ:=σ) k2).mono (λ_ _ y=>y) λx M' y=>y.gr (Gr.ex e1)) λd M1 v H2 g2 k3 r2 I2 rv=>?_;split at k3
  .next h i n' xs hi2=>
   split at k3
   .next hg=>
    rw[atx]at hg;cases au8 hg.1;have ru2:eZ X.K g2 H2 (.ref a) (obj h0'):=Rep.weak (.obj (r2.tb ha));obtain⟨a',C',dx',fs',l',us',eh,n1,n2,nl,hb',ea,d1,d2,d3,d4,d5,d6,p1,p3,p4,p5,p6⟩:=WM co I2.wok ru2 hi2;cases ea;have el:l'=l:=atY (p6.symm.trans (r2.tb l6));subst el;obtain⟨gr,I3⟩:=acK (us':=us'++[v]) (ys:=xs++[d]) I2 n1 n2 hb' d1 d2 d3 d6 p1 p4 p6 (p5.append (.cons rv .nil));refine⟨l',us',v,rfl,rfl,p3,sz_lt (by rw[p5.length];exact au2 hg.2),?_⟩;exact k3 σ _ g2 (((Gr.ex e1).trans r2).trans gr) I3
   .exact au0 k3
  .exact au0 k3
 .exact au0 k2
def Tz(f:Str)(o fi e:QF):SF:=λM Z=>((e M Z).at M).then Z λd _=>((o M Z).at M).then Z λod _=>match Ir M f od with
 |some (h,i,n,xs)=>((fi M Z).at M).then Z λk _=>match k with
  |.int k=>match ixN xs.length k with
   |some j=>.next Z (M.set h (i.put f (.lst n (xs.set j d))))
   |none=>.bad
  |_=>.bad
 |none=>.bad
theorem aj8{i:Expr}{fi fe:QF}(co:j5 X.K ak)(ho:QW ak X W o fo)(hb:baseOk o=true)(he:QE ak X W e fe)(hi:QE ak X W i fi)
  (ha:∀v,assign (.Subscript (.Attribute o f p1) i spos) X.env v=(do
   let ov <-holding [v] (eval (.Attribute o f p1) X.env)
   let iv <-holding [v,ov] (eval i X.env)
   standAt spos
   holding [v,ov,iv] (setItem ov iv v)
   release [v,ov,iv] []))
  (hs:swapsWithSole [.Subscript (.Attribute o f p1) i spos] e pos.line X.env=pure false) (h1:(assignEach [.Subscript (.Attribute o f p1) i spos] X.env).map (·.2)=[assign (.Subscript (.Attribute o f p1) i spos) X.env]):SE ak X W false (.Assign [.Subscript (.Attribute o f p1) i spos] e pos) (Tz f fo fi fe):=by
 have h0:=pe_fld (X:=X) (pos:=p1) (f:=f) ho (oY hb);refine PS.weak (ps_asg he (pg_sub h0 hi set_list ha) hs (by with_unfolding_all rfl) h1) λD σ H ⟨g,Z,M,I,z⟩=>?_;unfold Tz at z;have k1:=Out.jF (dN (σ:=σ) z);refine tQ.go I (k1.mono (λ_ y=>y) λx y H' c dd ex rx=>y H' _ c dd (Gr.ex ex) (I.ex ex) rx) λd v H1 k2 e1 rv=>?_;have I1:=I.ex e1;have k2:=Out.jF (dN (σ:=σ) k2);refine tW.go I1 (k2.mono (λ_ y=>y) λx y H' c dd ex rx=>y H' _ c dd ((Gr.ex e1).trans (Gr.ex ex)) (I1.ex ex) rx) λod u H2 k3 e2 ru=>?_;have I2:=I1.ex e2;have e12:=e1.trans e2;split at k3
 .next h i' n xs hl=>
  obtain⟨a,C,dx,fs,l,us,rfl,m1,m2,ml,ha',rfl,c1,c2,c3,c4,c5,c6,l1,l3,l4,l5,l6⟩:=WM co I2.wok ru hl;refine⟨a,C,dx,fs,.ref l,rfl,c2,c4,c5,l1,?_⟩;have k3:=Out.jF (dN (σ:=σ) k3);refine tQ.go I2 (k3.mono (λ_ y=>y) λx y H' c dd ex rx=>y H' _ c dd ((Gr.ex e12).trans (Gr.ex ex)) (I2.ex ex) rx) λk w H3 k4 e3 rw'=>?_;have I3:=I2.ex e3;cases k with
  |int k=>
   simp only at k4;split at k4
   .next j hj=>
    cases rw';obtain⟨gr,I4⟩:=acK (us':=us.set j v) (ys:=xs.set j d) I3 m1 m2 ha' c1 (e3 _ _ c2) (c3.ex e3 I2.kd) c6 l1 l4 l6 (((l5.ex e3 I2.kd).set ((rv.ex e2 I1.kd).ex e3 I2.kd) j));refine⟨l,us,k,j,rfl,rfl,e3 _ _ l3,by rw[l5.length];exact hj,?_⟩;exact k4 σ _ g ((Gr.ex (e12.trans e3)).trans gr) I4
   .exact au0 k4
  |_=>exact au0 k4
 .exact au0 k3
def Ux(ft:Ft)(f:Str)(o e:QF):SF:=λM Z=>((o M Z).at M).then Z λod _=>match lQ M od with
 |some (h,i)=>match i.fs.lookup f,ft.has i.cls f&&decide (i.fs.length<100) with
  |some (.dat (.int a)),true=>((e M Z).at M).then Z λd _=>match d with
   |.int b=>.next Z (M.set h (i.put f (.dat (.int (a+b)))))
   |_=>.bad
  |_,_=>.bad
 |none=>.bad
theorem ahh:InOp X .Add (λx y H Q=>∃i j,x=.int i/\y=.int j/\Q (.int (i+j)) H):=by intro pins s σ H x y u v Q I rx ry h;obtain⟨i,j,rfl,rfl,q⟩:=h;exact iop_add pins s σ H _ _ u v Q I rx ry ⟨i,j,rfl,rfl,q⟩
theorem ajX{fe:QF}{tpos:Pos}(co:j5 X.K ak)(fk:Ph ft ak)(ho:QW ak X W o fo)(he:QE ak X W e fe):SE ak X W false (.AugAssign (.Attribute o f tpos) .Add e pos) (Ux ft f fo fe):=by
 refine PS.weak (ps_fldaug ho he ahh) λD σ H ⟨g,Z,M,I,z⟩=>?_;unfold Ux at z;have k1:=Out.jF (dN (σ:=σ) z);refine tW.go I (k1.mono (λ_ y=>y) λx y H' c dd ex rx=>y H' _ c dd (Gr.ex ex) (I.ex ex) rx) λod u H1 k2 e1 ru=>?_;have I1:=I.ex e1;split at k2
 .next h i hi=>
  split at k2
  .next b hlk hb=>
   rw[atx]at hb;obtain⟨a,C,dx,fs,_,m1,m2,ha,rfl,c1,c2,c3,c4,c5,c6⟩:=JR co fk I1.wok ru hi hb.1;obtain⟨v,l1,l2⟩:=c3.get hlk;refine⟨a,C,dx,fs,v,rfl,c2,c4,c5,l1,?_⟩;have k2:=Out.jF (dN (σ:=σ) k2);refine tQ.go I1 (k2.mono (λ_ y=>y) λx y H' c dd ex rx=>y H' _ c dd ((Gr.ex e1).trans (Gr.ex ex)) (I1.ex ex) rx) λd w H2 k3 e2 rd=>?_;have I2:=I1.ex e2;cases d with
   |int j=>
    cases rd;have l2:Rep X.K g H1 v (.int b):=l2;cases l2;refine⟨b,j,rfl,rfl,dx,fs,e2 _ _ c2,?_,?_⟩
    .have:=au2 hb.2;rw[c3.len];omega
    .have ch:=Wk (f:=f) (C:=C) (dx:=dx) (fs':=putF f (.int (b+j)) fs) I2.kd I2.wok ha m1 m2;have w':=I2.wok.chg I2.kd ch ha m1 m2 c6 c1 (c3.ex e2 I1.kd) au7 (v:=.int (b+j)) (fl:=.dat (.int (b+j))) (show Rep X.K g _ _ _ from .int _);exact k3 σ _ g ((Gr.ex (e1.trans e2)).trans ch.gc.gr) (I2.chg ch w')
   |_=>exact au0 k3
  .exact au0 k2
 .exact au0 k2
end
mutual
def vJ:Dat->Option NestedKey
 |.none=>some .none
 |.int i=>some (.num i)
 |.str x=>some (.text x)
 |.tuple ds=>(zB ds).map .tup
 |.bool _=>none
 |.list _=>none
 |.dict _=>none
def zB:List Dat->Option (List NestedKey)
 |[]=>some []
 |d::ds=>(vJ d).bind λk=>(zB ds).bind λks=>some (k::ks)
end
mutual
theorem Ce:∀{d:Dat} {k:NestedKey},vJ d=some k->k.data=d
 |.none,_,h=>by cases h;rfl
 |.int i,_,h=>by cases h;rfl
 |.str x,_,h=>by cases h;rfl
 |.tuple ds,_,h=>by
  rw[vJ,aun]at h;obtain⟨ks,h1,rfl⟩:=h;rw[NestedKey.data,Tp h1]
theorem Tp:∀{ds:List Dat} {ks:List NestedKey},zB ds=some ks->NestedKey.datas ks=ds
 |[],_,h=>by cases h;rfl
 |d::ds,_,h=>by
  rw[zB]at h;obtain⟨k,h1,h⟩:=atv.mp h;obtain⟨ks,h2,h⟩:=atv.mp h;cases h;rw[NestedKey.datas,Ce h1,Tp h2]
end
mutual
theorem acZ:∀a b:NestedKey,PyData.eqv a.data b.data=NestedKey.beq a b
 |.none,.none=>by simp[NestedKey.data,PyData.eqv,NestedKey.beq]
 |.none,.num _=>by simp[NestedKey.data,PyData.eqv,NestedKey.beq]
 |.none,.text _=>by simp[NestedKey.data,PyData.eqv,NestedKey.beq]
 |.none,.tup _=>by simp[NestedKey.data,PyData.eqv,NestedKey.beq]
 |.num _,.none=>by simp[NestedKey.data,PyData.eqv,NestedKey.beq]
 |.num a,.num b=>by simp[NestedKey.data,PyData.eqv,NestedKey.beq];rfl
 |.num _,.text _=>by simp[NestedKey.data,PyData.eqv,NestedKey.beq]
 |.num _,.tup _=>by simp[NestedKey.data,PyData.eqv,NestedKey.beq]
 |.text _,.none=>by simp[NestedKey.data,PyData.eqv,NestedKey.beq]
 |.text _,.num _=>by simp[NestedKey.data,PyData.eqv,NestedKey.beq]
 |.text a,.text b=>by simp[NestedKey.data,PyData.eqv,NestedKey.beq];rfl
 |.text _,.tup _=>by simp[NestedKey.data,PyData.eqv,NestedKey.beq]
 |.tup _,.none=>by simp[NestedKey.data,PyData.eqv,NestedKey.beq]
 |.tup _,.num _=>by simp[NestedKey.data,PyData.eqv,NestedKey.beq]
 |.tup _,.text _=>by simp[NestedKey.data,PyData.eqv,NestedKey.beq]
 |.tup as,.tup bs=>by
  rw[NestedKey.data,NestedKey.data,PyData.eqv,NestedKey.beq];exact aa2 as bs
theorem aa2:∀as bs:List NestedKey,PyData.eqvAll (NestedKey.datas as) (NestedKey.datas bs)=NestedKey.beqAll as bs
 |[],[]=>by simp[NestedKey.datas,PyData.eqvAll,NestedKey.beqAll]
 |[],_::_=>by simp[NestedKey.datas,PyData.eqvAll,NestedKey.beqAll]
 |_::_,[]=>by simp[NestedKey.datas,PyData.eqvAll,NestedKey.beqAll]
 |a::as,b::bs=>by
  rw[NestedKey.datas,NestedKey.datas,PyData.eqvAll,NestedKey.beqAll,acZ a b,aa2 as bs]
end
theorem ac5(a b:NestedKey):PyData.eqv a.data b.data=decide (a=b):=by rw[acZ,NestedKey.decide_eq]
section
variable{X:Cx}{pins:List (Addr×Obj)}{σ:L2.St}{H:Hp}{s:Shared}{g:Gh}
mutual
theorem key_is(I:L2.Inv X pins σ H s):∀{v:V} {d:Dat} {k:NestedKey} {u:Value},Rep X.K g H v d->vJ d=some k->RelV v u->NestedIs s.heap k u
 |_,_,_,u,.non,e,r=>by
  cases e
  obtain rfl:u=.none:=r
  exact .none
 |_,_,_,_,.int i,e,r=>by
  cases e;obtain⟨t,rfl⟩:=r;exact .int i t
 |_,_,_,_,.str x,e,r=>by
  cases e;obtain⟨t,rfl⟩:=r;exact .text x t
 |_,_,_,u,.tup (a:=a) h t,e,r=>by
  rw[vJ,aun]at e;obtain⟨ks,h1,rfl⟩:=e
  obtain rfl:u=.ref a:=r
  obtain⟨its,r1,⟨o,e1,c1,n,d1⟩,_⟩:=I.tuple h;exact .tup e1 c1 d1 (by simpa using acD I t h1 r1)
 |_,_,_,_,.bl b,e,r=>by cases e
 |_,_,_,_,.lst _ _,e,r=>by cases e
 |_,_,_,_,.obj _,e,r=>by cases e
theorem acD(I:L2.Inv X pins σ H s):∀{vs:List V} {ds:List Dat} {ks:List NestedKey} {us:List Value},aQ X.K g H vs ds->zB ds=some ks->Vals vs us->NestedAll s.heap ks us
 |_,_,_,_,.nil,e,r=>by
  cases e;cases r;exact .nil
 |_,_,_,_,.cons h t,e,r=>by
  rw[zB]at e;obtain⟨k,h1,e⟩:=atv.mp e;obtain⟨ks,h2,e⟩:=atv.mp e;cases e;cases r with
  |cons r1 r2=>exact .cons (key_is I h h1 r1) (acD I t h2 r2)
end
end
mutual
theorem ac4:∀k:NestedKey,vJ k.data=some k
 |.none=>rfl
 |.num _=>rfl
 |.text _=>rfl
 |.tup ks=>by rw[NestedKey.data,vJ,aaJ ks];rfl
theorem aaJ:∀ks:List NestedKey,zB (NestedKey.datas ks)=some ks
 |[]=>rfl
 |k::ks=>by rw[NestedKey.datas,zB,ac4 k,aaJ ks];rfl
end
def dhas:Bool->List (Dat×Dat)->Dat->Out Bool
 |false,kvs,.int i=>.ok (kvs.any λp=>PyData.eqv p.1 (.int i))
 |true,kvs,.tuple ds=>match vJ (.tuple ds) with
  |some k=>match decide (k.depth<=8) with
   |true=>.ok (kvs.any λp=>PyData.eqv p.1 (.tuple ds))
   |false=>.bad
  |none=>.bad
 |_,_,_=>.bad
def Bp(M:Mo)(f:Str)(d:Dat):Option (Nat×Inst×Bool×List (Dat×Dat)):=(lQ M d).bind λp=>match p.2.fs.lookup f with
 |some (.dic b kvs)=>some (p.1,p.2,b,kvs)
 |_=>none
section
variable{ak:aX}{f:Str}
theorem Jg{K:atw}{g:Gh}{H:Hp}{M:Mo}{d:Dat}{v:V}{h:Nat}{i:Inst}{b:Bool}{kvs:List (Dat×Dat)}(co:j5 K ak)(w:gW K ak g H M)(r:eZ K g H v d)(hi:Bp M f d=some (h,i,b,kvs)) :
  ∃a C dx fs l,d=obj h/\M[h]?=some i/\i.cls≠""/\i.fs.lookup f=some (.dic b kvs)/\g.tbl[h]?=some a/\v=.ref a/\ak i.cls=some C/\H a=some (.ins C dx fs)/\cU K ak g H h fs i.fs/\Cls K C/\NoAttr K C f/\f∈ak.fl i.cls/\fs.lookup f=some (.ref l)/\g.ow l=some (h,f)/\j7 K ak g H l b kvs:=by
 unfold Bp at hi;obtain⟨⟨h',i'⟩,h1,hi⟩:=atv.mp hi;split at hi
 .next b' kvs' hl=>
  cases hi;obtain⟨rfl,m1,m2⟩:=LC h1;obtain⟨a,rfl,ha⟩:=Nh r;obtain⟨C,dx,fs,c1,c2,c3⟩:=w.ins _ a _ ha m1 m2;have hfl:=w.fd _ _ m1 f (lookup_mem hl);obtain⟨k1,k2⟩:=co _ C f c1 hfl;obtain⟨u,l1,l,rfl,l3,l4⟩:=c3.get hl;exact⟨a,C,dx,fs,l,rfl,m1,m2,hl,ha,rfl,c1,c2,c3,k1,k2,hfl,l1,l3,l4⟩
 .cases hi
end
theorem Ws{kv:List (Key×V)}{i:Int}:∀{kvs:List (Dat×Dat)},kvs.map (·.1)=kv.map (λp=>keyD p.1)->(kvs.any λp=>PyData.eqv p.1 (.int i))=(valV kv (Sum.inl i)).isSome:=by
 induction kv with
 |nil=>
  intro kvs e;cases kvs with
  |nil=>rfl
  |cons _ _=>cases e
 |cons p r ih=>
  intro kvs e;cases kvs with
  |nil=>cases e
  |cons q t=>
   simp only[atE,List.cons.injEq]at e;rw[auF,ih e.2,e.1];by_cases h:p.1=Sum.inl i
   .rw[valV_pos h,h];simp[keyD,PyData.eqv]
   .rw[valV_neg h];have:PyData.eqv (keyD p.1) (.int i)=false:=by
     cases hp:p.1 with
     |inl j=>
      have:j≠i:=λz=>h (by rw[hp,z]);simp[keyD,PyData.eqv,this]
     |inr x=>simp[keyD,PyData.eqv]
    rw[this,Bool.false_or]
theorem Lf{xs:List pH}{k:NestedKey}:∀{kvs:List (Dat×Dat)},kvs.map (·.1)=xs.map (λx=>x.1.data)->(kvs.any λp=>PyData.eqv p.1 k.data)=(atKey xs k).isSome:=by
 induction xs with
 |nil=>
  intro kvs e;cases kvs with
  |nil=>rfl
  |cons _ _=>cases e
 |cons p r ih=>
  intro kvs e;cases kvs with
  |nil=>cases e
  |cons q t=>
   simp only[atE,List.cons.injEq]at e;rw[auF,ih e.2,e.1,ac5];unfold atKey;rw[List.find?_cons];cases hd:decide (p.1=k) with
   |true=>rfl
   |false=>rfl
theorem Jt{X:Cx}{pins:List (Addr×Obj)}{σ:L2.St}{H:Hp}{s:Shared}{g:Gh}{l:Addr}{o:Obj}{xs:List pH}{ks:List Dat}(I:L2.Inv X pins σ H s)(h1:H l=some (jr l o))(h2:m7 X.w l o xs)(h3:ks=xs.map λx=>x.1.data)(h4:aQ X.K g H (xs.map λx=>V.ref x.2.1) ks) :
  s.heap.DictOfH (nestedKind X.prog X.w) l xs:=by
 obtain⟨z1,_,_⟩:=(show ObjOk X.prog X.w H s.heap l (jr l o) from I.hok l _ h1);obtain⟨es,ep,e1,e2⟩:=h2.ent;refine⟨o,es,ep,z1,h2.ex,e1,e2,λx hx=>?_,h2.nd⟩;refine⟨?_,h2.dep x hx⟩;obtain⟨n,hn⟩:=List.mem_iff_getElem?.mp hx;obtain⟨d,hd1,hd2⟩:=h4.get' (i:=n) (v:=V.ref x.2.1) (by rw[atR,hn];rfl);rw[h3,atR,hn]at hd1;cases hd1;exact key_is I hd2 (ac4 x.1) rfl
def rInD(X:Cx)(neg:Bool):R2:=λx y H Q=>(∃l kv i,y=.ref l/\H l=some (.dK kv)/\x=.int i/\Q (.bl (neg ^^ (valV kv (Sum.inl i)).isSome)) H)\/
 ∃(l:Addr) (o:Obj) (xs:List pH) (g:Gh) (d:Dat) (b:Addr) (k:NestedKey),y=.ref l/\H l=some (jr l o)/\m7 X.w l o xs/\aQ X.K g H (xs.map λx=>V.ref x.2.1) (xs.map λx=>x.1.data)/\x=.ref b/\Rep X.K g H x d/\vJ d=some k/\k.depth<=8/\Q (.bl (neg ^^ (atKey xs k).isSome)) H
section
variable{X:Cx}
theorem op_inD(hu:X.A.units+64<cLine):OpR X (compareOp .In) (rInD X false):=by
 intro pins s σ H x y v u Q I rx ry h;rcases h with⟨l,kv,i,rfl,hl,rfl,q⟩|⟨l,o,xs,g,d,b,k,rfl,h1,h2,h3,rfl,h4,h5,h6,q⟩
 .obtain rfl:u=Value.ref l:=ry
  exact d_in (by omega) I (DGet.k (k:=Sum.inl i) hl) rx λs' I'=>⟨.bl _,H,I',rfl,by simpa using q⟩
 .obtain rfl:u=Value.ref l:=ry
  obtain rfl:v=Value.ref b:=rx
  refine wpAny_in_heap (knd:=nestedKind X.prog X.w) (k:=k) (show X.A.in1.units+8<cLine by show X.A.units+1+8<cLine;omega) ⟨key_is I h4 h5 rfl,h6⟩ h2.sys (Jt I h1 h2 rfl h3) ?_;exact⟨.bl _,H,I.tok _,rfl,by simpa using q⟩
theorem op_notInD(hu:X.A.units+64<cLine):OpR X (compareOp .NotIn) (rInD X true):=by
 intro pins s σ H x y v u Q I rx ry h;rcases h with⟨l,kv,i,rfl,hl,rfl,q⟩|⟨l,o,xs,g,d,b,k,rfl,h1,h2,h3,rfl,h4,h5,h6,q⟩
 .obtain rfl:u=Value.ref l:=ry
  exact d_notIn (by omega) I (DGet.k (k:=Sum.inl i) hl) rx λs' I'=>⟨.bl _,H,I',rfl,by simpa using q⟩
 .obtain rfl:u=Value.ref l:=ry
  obtain rfl:v=Value.ref b:=rx
  refine notIn_keyed (knd:=nestedKind X.prog X.w) (k:=k) (show X.A.in1.units+8<cLine by show X.A.units+1+8<cLine;omega) ⟨key_is I h4 h5 rfl,h6⟩ h2.sys ⟨xs,Jt I h1 h2 rfl h3,rfl⟩ ?_;rw[valueAt_pairsH,Option.isSome_map];exact⟨.bl _,H,I.tok _,rfl,by simpa using q⟩
end
def SN(neg:Bool)(f:Str)(k o:QF):QF:=λM Z=>(k M Z).bind λd=>(o M Z).bind λod=>match Bp M f od with
 |some (_,_,b,kvs)=>(dhas b kvs d).bind λr=>.ok (.bool (neg ^^ r))
 |none=>.bad
section
variable{X:Cx}{ak:aX}{W:WX}{o k:Expr}{f:Str}{pos p1:Pos}{fo fk:QF}{neg:Bool}{op:CmpOp}
theorem ah9(co:j5 X.K ak)(hw:ak.w=X.w)(σ:L2.St)(H:Hp)(Q:VK)(h:tQ X.K ak W (SN neg f fk fo) σ H Q):tOp (rInD X neg) (tQ X.K ak W fk) (tFld X.K (tW X.K ak W fo) f) σ H Q:=by
 obtain⟨g,Z,M,I,h⟩:=h;refine tQ.go I h.bnd λd v H1 h1 e1 r1=>?_;have I1:=I.ex e1;refine tW.go I1 (h1.bnd.mono (λ_ z=>z) λ_ z=>z.ex e1) λod u H2 h2 e2 r2=>?_;have I2:=I1.ex e2;split at h2
 .next hh i b kvs hd=>
  obtain⟨a,C,dx,fs,l,rfl,m1,m2,ml,ha,rfl,c1,c2,c3,c4,c5,c6,l1,l2,l3⟩:=Jg co I2.wok r2 hd;refine⟨a,C,dx,fs,.ref l,rfl,c2,c4,c5,l1,?_⟩;have r1':=r1.ex e2 I1.kd;unfold dhas at h2;split at h2
  .next i'=>
   obtain⟨kv,k1,k2,k3⟩:=l3;cases r1';refine .inl ⟨l,kv,i',rfl,k1,rfl,?_⟩;rw[Ws k2]at h2;exact h2 _ H2 (e1.trans e2) (.bl _)
  .next ds=>
   split at h2
   .next kk hk=>
    split at h2
    .next hdep=>
     obtain⟨o',xs,vs,k1,k2,k3,k4,k5,k6⟩:=l3;have ek:=Ce hk;rw[<-ek,Lf k3]at h2;rw[k3]at k4;rw[hw]at k2;cases r1' with
     | @tup b us _ hs ht=>exact .inr ⟨l,o',xs,g,_,b,kk,rfl,k1,k2,k4,rfl,.tup hs ht,hk,au2 hdep,h2 _ H2 (e1.trans e2) (.bl _)⟩
    .exact au0 h2
   .exact au0 h2
  .exact au0 h2
 .exact au0 h2
theorem akJ(co:j5 X.K ak)(hw:ak.w=X.w)(hr:OpR X (compareOp op) (rInD X neg))(hk:QE ak X W k fk)(ho:QW ak X W o fo)(hb:baseOk o=true):QE ak X W (.Compare k [op] [.Attribute o f p1] pos) (SN neg f fk fo):=
 PE.weak (pe_cmpR hr hk (pe_fld ho (oY hb)) (by cases op<;>rfl)) λσ H Q h=>ah9 co hw σ H Q h
end
def DPx(X:Cx)(H:Hp)(a:Addr)(y v:V)(R:Hp->Prop):Prop:=(∃kvs i,H a=some (.dK kvs)/\y=.int i/\kvs.length<sizeLine/\R (upd H a (.dK (putK kvs (Sum.inl i) v))))\/
 ∃(o:Obj) (xs:List pH) (g:Gh) (d:Dat) (b:Addr) (k:NestedKey),H a=some (jr a o)/\m7 X.w a o xs/\aQ X.K g H (xs.map λx=>V.ref x.2.1) (xs.map λx=>x.1.data)/\y=.ref b/\Rep X.K g H y d/\vJ d=some k/\k.depth<=8/\xs.length<sizeLine/\∀(o':Obj) (u:Value),RelV v u->m7 X.w a o' (storedH xs k b u)->R (upd H a (jr a o'))
theorem O4{P:Program}{w:World}{H:Hp}{h:Heap}{l:Addr}{o:Obj}(e:h.get? l=some o):ObjOk P w H h l (jr l o):=⟨e,⟨o,e⟩,λ_ _ e1 k=>k _ e1⟩
theorem abQ{xs:List pH}{k:NestedKey}{b:Addr}{u:Value}:(storedH xs k b u).map (·.1)=if (atKey xs k).isSome then xs.map (·.1) else xs.map (·.1)++[k]:=by
 unfold storedH;split
 .rw[aua];refine List.map_congr_left λx _=>?_
  show(putAt k u x).1=x.1
  unfold putAt
  split<;>rfl
 .simp
theorem Vi{xs:List pH}{k:NestedKey}{b:Addr}{u:Value}:(storedH xs k b u).length<=xs.length+1:=by
 unfold storedH
 split<;>simp
theorem Tn{xs:List pH}{k:NestedKey}{b:Addr}{u:Value}(h:∀x∈xs,x.1.depth<=8)(hk:k.depth<=8):∀x∈storedH xs k b u,x.1.depth<=8:=λx hx=>by
 have:x.1∈(storedH xs k b u).map (·.1):=atM.mpr ⟨x,hx,rfl⟩;rw[abQ]at this;have old:∀{z:NestedKey},z∈xs.map (·.1)->z.depth<=8:=λ{z} m=>by
  obtain⟨y,hy,rfl⟩:=atM.mp m;exact h y hy
 split at this
 .exact old this
 .rcases atL.mp this with z|z
  .exact old z
  .rw[atF.mp z];exact hk
section
variable{X:Cx}{o i value:Expr}{td ty tv:TE}{pos pos':Pos}
def ao8(X:Cx)(td ty tv:TE):TS:=λD σ H=>tv σ H λv H1=>td σ H1 λx H2=>ty σ H2 λy H3=>∃a,x=.ref a/\DPx X H3 a y v λH4=>D.nx σ H4
theorem agM(hu:X.A.units+64<cLine)(ho:PE X o td)(hi:PE X i ty)(hv:PE X value tv)(hs:swapsWith value (some (.Subscript o i pos')) pos.line X.env=pure false):PS X (.Assign [.Subscript o i pos'] value pos) (ao8 X td ty tv):=by
 refine⟨λpins s σ H D I h=>?_⟩;refine wpAny_Assign_Subscript (thn (hv.run pins s σ H _ I h) λr s1 ⟨v,H1,I1,rv,q1⟩=>thn (ho.run pins s1 σ H1 _ I1 q1) λu s2 ⟨x,H2,I2,rx,q2⟩=>thn (hi.run pins s2 σ H2 _ I2 q2) λiv s3 ⟨y,H3,I3,ry,a,ex,q3⟩=>?_) hs;subst ex
 obtain rfl:u=Value.ref a:=rx
 rcases q3 with⟨kvs,j,h1,rfl,hl,q⟩|⟨ob,xs,g,d,b,k,h1,h2,h3,rfl,h4,h5,h6,hl,q⟩
 .exact d_setItem (by omega) I3 (DPut.k (k:=Sum.inl j) h1 hl) ry rv λs4 I4=>⟨σ,_,I4,q⟩
 .obtain rfl:iv=Value.ref b:=ry
  refine wpAny_setItem_heap (knd:=nestedKind X.prog X.w) (k:=k) (hsz:=Nat.le_of_lt hl) (show X.A.in1.units+8<cLine by show X.A.units+1+8<cLine;omega) ⟨key_is I3 h4 h5 rfl,h6⟩ (Jt I3 h1 h2 rfl h3) λh' dd hs'=>?_;obtain⟨o',es,ep,g1,g2,g3,g4,g5,g6⟩:=dd;have nd:m7 X.w a o' (storedH xs k b r):=⟨h2.sys,g2,⟨es,ep,g3,g4⟩,g6,by have:=Vi (xs:=xs) (k:=k) (b:=b) (u:=r);omega,Tn h2.dep h6⟩;exact⟨σ,_,d_write I3 (by rw[h1];exact True.intro) hs' ⟨o',g1⟩ (O4 g1),q o' r rv nd⟩
end
theorem aQ.back{K:atw}{g:Gh}{H:Hp}{vs:List V}{ds:List Dat}{v:V}{d:Dat}(h:aQ K g H vs ds)(r:Rep K g H v d):aQ K g H (vs++[v]) (ds++[d]):=h.append (.cons r .nil)
theorem Py{K:atw}{ak:aX}{f:Str}{σ:L2.St}{Z:Env}{g:Gh}{H:Hp}{M:Mo}{h:Nat}{i:Inst}{b:Bool}{kvs':List (Dat×Dat)}{a C dx l:Addr}{fs:List (Str×V)}{o':HO}(I:SInv K ak σ H g Z M)(m1:M[h]?=some i)(m2:i.cls≠"")(ha:g.tbl[h]?=some a)(c1:ak i.cls=some C)(c2:H a=some (.ins C dx fs))(c3:cU K ak g H h fs i.fs)(hfl:f∈ak.fl i.cls)(l1:fs.lookup f=some (.ref l))(l4:g.ow l=some (h,f))(mu:KQ o')
  (new:Gr false g g H (upd H l o')->j7 K ak g (upd H l o') l b kvs'):Gr false g g H (upd H l o')/\SInv K ak σ (upd H l o') g Z (M.set h (i.put f (.dic b kvs'))):=by
 have ch:=agr (o':=o') I.kd I.wok l4 mu;have nla:a≠l:=λz=>by
  subst z;rw[I.wok.tw h a i ha m1 m2]at l4;cases l4
 have w':=I.wok.chg I.kd ch ha m1 m2 hfl c1 (dx:=dx) c3 (v:=.ref l) (fl:=.dic b kvs') (by rw[upd_ne nla,NT l1];exact c2) ⟨l,rfl,l4,new ch.gc.gr⟩;exact⟨ch.gc.gr,I.chg ch w'⟩
def Qi(f:Str)(o k e:QF):SF:=λM Z=>((e M Z).at M).then Z λv _=>((o M Z).at M).then Z λod _=>match Bp M f od with
 |some (h,i,b,kvs)=>((k M Z).at M).then Z λd _=>match dhas b kvs d,decide (kvs.length<100000) with
  |.ok false,true=>.next Z (M.set h (i.put f (.dic b (kvs++[(d,v)]))))
  |_,_=>.bad
 |none=>.bad
def Qt(f:Str)(o k:QF):SF:=λM Z=>((o M Z).at M).then Z λod _=>match Bp M f od with
 |some (h,i,b,kvs)=>((k M Z).at M).then Z λd _=>match dhas b kvs d,decide (kvs.length<=100000) with
  |.ok true,true=>.next Z (M.set h (i.put f (.dic b (kvs.filter λp=>!PyData.eqv p.1 d))))
  |_,_=>.bad
 |none=>.bad
theorem Vv{kvs:List (Dat×Dat)}{b r:Bool}{d:Dat}(h:dhas b kvs d=.ok r):(kvs.any λp=>PyData.eqv p.1 d)=r/\((b=false/\∃i,d=.int i)\/(b=true/\∃ds k,d=.tuple ds/\vJ d=some k/\k.depth<=8)):=by
 unfold dhas at h;split at h
 .next i=>
  cases h;exact⟨rfl,.inl ⟨rfl,i,rfl⟩⟩
 .next ds=>
  split at h
  .next k hk=>
   split at h
   .next hd=>
    cases h;exact⟨rfl,.inr ⟨rfl,ds,k,rfl,hk,au2 hd⟩⟩
   .cases h
  .cases h
 .cases h
section
variable{X:Cx}{ak:aX}{W:WX}{o e i:Expr}{f:Str}{pos pos' p1:Pos}{fo fe fk:QF}
theorem akd(co:j5 X.K ak)(hw:ak.w=X.w)(hu:X.A.units+64<cLine)(ho:QW ak X W o fo)(hb:baseOk o=true)(hk:QE ak X W i fk)(he:QE ak X W e fe)(hs:swapsWith e (some (.Subscript (.Attribute o f p1) i pos')) pos.line X.env=pure false) :
  SE ak X W false (.Assign [.Subscript (.Attribute o f p1) i pos'] e pos) (Qi f fo fk fe):=by
 refine PS.weak (agM hu (pe_fld ho (oY hb)) hk he hs) λD σ H ⟨g,Z,M,I,z⟩=>?_;unfold Qi at z;have k1:=Out.jF (dN (σ:=σ) z);refine tQ.go I (k1.mono (λ_ y=>y) λx y H' c dd ex rx=>y H' _ c dd (Gr.ex ex) (I.ex ex) rx) λd v H1 k2 e1 rv=>?_;have I1:=I.ex e1;have k2:=Out.jF (dN (σ:=σ) k2);refine tW.go I1 (k2.mono (λ_ y=>y) λx y H' c dd ex rx=>y H' _ c dd ((Gr.ex e1).trans (Gr.ex ex)) (I1.ex ex) rx) λod u H2 k3 e2 ru=>?_;have I2:=I1.ex e2;have e12:=e1.trans e2;split at k3
 .next h i' b kvs hl=>
  obtain⟨a,C,dx,fs,l,rfl,m1,m2,ml,ha,rfl,c1,c2,c3,c4,c5,c6,l1,l2,l3⟩:=Jg co I2.wok ru hl;refine⟨a,C,dx,fs,.ref l,rfl,c2,c4,c5,l1,?_⟩;have k3:=Out.jF (dN (σ:=σ) k3);refine tQ.go I2 (k3.mono (λ_ y=>y) λx y H' c dd ex rx=>y H' _ c dd ((Gr.ex e12).trans (Gr.ex ex)) (I2.ex ex) rx) λkd w H3 k4 e3 rk=>?_;have I3:=I2.ex e3;have l3':=l3.ex e3 I2.kd;have rv3:=(rv.ex e2 I1.kd).ex e3 I2.kd;refine⟨l,rfl,?_⟩;split at k4
  .next hh hz=>
   obtain⟨ha2,hcase⟩:=Vv hh;have hz:=au2 hz;rcases hcase with⟨rfl,j,rfl⟩|⟨rfl,ds,kk,rfl,hkk,hdep⟩
   .obtain⟨kv,q1,q2,q3⟩:=l3';cases rk;have hlen:kv.length=kvs.length:=by
     have:=congrArg List.length q2;simpa using this.symm
    rw[Ws q2]at ha2;have hn:valV kv (Sum.inl j)=none:=by
     cases hv:valV kv (Sum.inl j) with
     |none=>rfl
     |some _=>rw[hv]at ha2;cases ha2
    refine .inl ⟨kv,j,q1,rfl,sz_lt (by rw[hlen];exact hz),?_⟩;rw[putK_new v hn];obtain⟨gr,I4⟩:=Py (b:=false) (kvs':=kvs++[(.int j,d)]) (o':=.dK (kv++[(Sum.inl j,v)])) I3 m1 m2 ha c1 (e3 _ _ c2) (c3.ex e3 I2.kd) c6 l1 l2 trivial λgr=>⟨_,au7,by simp[q2,keyD],by
     rw[List.map_append,List.map_append];exact(q3.gr gr I3.kd).back (rv3.gr gr I3.kd)⟩
    exact k4 σ _ g ((Gr.ex (e12.trans e3)).trans gr) I4
   .obtain⟨o',xs,vs,q1,q2,q3,q4,q5,q6⟩:=l3';have hlen:xs.length=kvs.length:=by
     have:=congrArg List.length q3;simpa using this.symm
    have ek:=Ce hkk;rw[<-ek,Lf q3]at ha2;have hn:atKey xs kk=none:=by
     cases hv:atKey xs kk with
     |none=>rfl
     |some _=>rw[hv]at ha2;cases ha2
    have q4':=q4;rw[q3]at q4';rw[hw]at q2;cases rk with
    | @tup bb us _ hs' ht=>
     refine .inr ⟨o',xs,g,_,bb,kk,q1,q2,q4',rfl,.tup hs' ht,hkk,hdep,sz_lt (by rw[hlen];exact hz),λo2 u2 ru2 nd=>?_⟩;rw[storedH_new hn]at nd;obtain⟨gr,I4⟩:=Py (b:=true) (kvs':=kvs++[(.tuple ds,d)]) (o':=jr l o2) I3 m1 m2 ha c1 (e3 _ _ c2) (c3.ex e3 I2.kd) c6 l1 l2 trivial λgr=>⟨o2,xs++[(kk,bb,u2)],vs++[v],au7,by rw[hw];exact nd,by simp[q3,ek],by
      rw[List.map_append,List.map_append];exact(q4.gr gr I3.kd).back ((Rep.tup hs' ht).gr gr I3.kd),by
      rw[List.map_append];exact q5.append (.cons ru2 .nil),by
      rw[List.map_append];exact(q6.gr gr I3.kd).back (rv3.gr gr I3.kd)⟩
     exact k4 σ _ g ((Gr.ex (e12.trans e3)).trans gr) I4
  .exact au0 k4
 .exact au0 k3
end
section
variable{X:Cx}{o i:Expr}{td ty:TE}{pos tpos:Pos}
def apf(X:Cx)(td ty:TE):TS:=λD σ H=>td σ H λx H2=>ty σ H2 λy H3=>∃a,x=.ref a/\((∃kvs i,H3 a=some (.dK kvs)/\y=.int i/\(valV kvs (Sum.inl i)).isSome=true/\D.nx σ (upd H3 a (.dK (dropK kvs (Sum.inl i)))))\/
 ∃(o:Obj) (xs:List pH) (g:Gh) (d:Dat) (b:Addr) (k:NestedKey),H3 a=some (jr a o)/\m7 X.w a o xs/\aQ X.K g H3 (xs.map λx=>V.ref x.2.1) (xs.map λx=>x.1.data)/\y=.ref b/\Rep X.K g H3 y d/\vJ d=some k/\k.depth<=8/\(atKey xs k).isSome=true/\∀(o':Obj),m7 X.w a o' (withoutH xs k)->D.nx σ (upd H3 a (jr a o')))
theorem ag5(hu:X.A.units+64<cLine)(ho:PE X o td)(hi:PE X i ty):PS X (.Delete [.Subscript o i tpos] pos) (apf X td ty):=by
 refine⟨λpins s σ H D I h=>?_⟩;refine wpAny_Delete (wpAny_deleteEach_cons (wpAny_delete_Subscript (thn (ho.run pins s σ H _ I h) λu s1 ⟨x,H1,I1,rx,q1⟩=>thn (hi.run pins s1 σ H1 _ I1 q1) λiv s2 ⟨y,H2,I2,ry,a,ex,q2⟩=>?_)));subst ex
 obtain rfl:u=Value.ref a:=rx
 rcases q2 with⟨kvs,j,h1,rfl,hl,q⟩|⟨ob,xs,g,d,b,k,h1,h2,h3,rfl,h4,h5,h6,hl,q⟩
 .exact d_delItem (k:=Sum.inl j) I2 h1 ry hl λs3 I3=>wpAny_deleteEach_nil ⟨σ,_,I3,q⟩
 .obtain rfl:iv=Value.ref b:=ry
  obtain⟨p,hp⟩:=Option.isSome_iff_exists.mp hl;refine wpAny_delItem_heap (knd:=nestedKind X.prog X.w) (k:=k) (hsz:=h2.len) (show X.A.in1.units+8<cLine by show X.A.units+1+8<cLine;omega) ⟨key_is I2 h4 h5 rfl,h6⟩ h2.sys (Jt I2 h1 h2 rfl h3) hp λh' dd hs'=>?_;obtain⟨o',es,ep,g1,g2,g3,g4,g5,g6⟩:=dd;have nd:m7 X.w a o' (withoutH xs k):=⟨h2.sys,g2,⟨es,ep,g3,g4⟩,g6,at3 (atU _ _) h2.len,λx hx=>h2.dep x (at4.mp hx).1⟩;exact wpAny_deleteEach_nil ⟨σ,_,d_write I2 (by rw[h1];exact True.intro) hs' ⟨o',g1⟩ (O4 g1),q o' nd⟩
end
theorem Sv{α β:Type}(f:α->β)(c:α->Bool):∀l:List α,(((l.map f).zip l).filter λp=>c p.2).map (·.1)=(l.filter c).map f
 |[]=>rfl
 |a::l=>by
  rw[atE,auH,auq,auq];cases c a
  .exact Sv f c l
  .simp only[if_true,atE,Sv f c l]
theorem aiC{K:atw}{g:Gh}{H:Hp}(kk:NestedKey):∀{xs:List pH} {vs:List V} {kvs:List (Dat×Dat)},kvs.map (·.1)=xs.map (λx=>x.1.data)->aQ K g H (xs.map λx=>V.ref x.2.1) (kvs.map (·.1))->Vals vs (xs.map (·.2.2))->aQ K g H vs (kvs.map (·.2))->
  ∃vs',(kvs.filter λp=>!PyData.eqv p.1 kk.data).map (·.1)=(withoutH xs kk).map (λx=>x.1.data)/\aQ K g H ((withoutH xs kk).map λx=>V.ref x.2.1) ((kvs.filter λp=>!PyData.eqv p.1 kk.data).map (·.1))/\Vals vs' ((withoutH xs kk).map (·.2.2))/\aQ K g H vs' ((kvs.filter λp=>!PyData.eqv p.1 kk.data).map (·.2))
 |[],_,[],_,_,.nil,_=>⟨[],rfl,.nil,.nil,.nil⟩
 |[],_,_::_,h,_,_,_=>by cases h
 |_::_,_,[],h,_,_,_=>by cases h
 |x::xs,_,q::qs,h1,.cons r1 t1,.cons w1 w2,.cons r2 t2=>by
  simp only[atE,List.cons.injEq]at h1;obtain⟨vs',i1,i2,i3,i4⟩:=aiC kk h1.2 t1 w2 t2;have hq:(!PyData.eqv q.1 kk.data)=decide (x.1≠kk):=by rw[h1.1,ac5];by_cases hz:x.1=kk<;>simp[hz]
  unfold withoutH;rw[auq,auq,hq];cases hb:decide (x.1≠kk) with
  |true=>exact⟨_::vs',by simp only[if_true,atE,h1.1];exact congrArg _ i1,by simp only[if_true,atE];exact .cons r1 i2,by simp only[if_true,atE];exact .cons w1 i3,by simp only[if_true,atE];exact .cons r2 i4⟩
  |false=>
   simp only[aud,if_false];exact⟨vs',i1,i2,i3,i4⟩
theorem alc{K:atw}{g:Gh}{H:Hp}{α:Type}(c:α->Bool)(key:α->Dat)(dd:Dat->Bool):∀{vs:List V} {kvs:List (Dat×Dat)} {xs:List α},(∀x∈xs,c x=dd (key x))->kvs.map (·.1)=xs.map key->vs.length=xs.length->aQ K g H vs (kvs.map (·.2))->
  (kvs.filter λp=>dd p.1).map (·.1)=(xs.filter c).map key/\aQ K g H (((vs.zip xs).filter λp=>c p.2).map (·.1)) ((kvs.filter λp=>dd p.1).map (·.2))
 |[],[],[],_,_,_,_=>⟨rfl,.nil⟩
 |[],[],_::_,_,h,_,_=>by cases h
 |[],_::_,_,_,_,_,h=>by cases h
 |_::_,[],_,_,_,_,h=>by cases h
 |_::_,_::_,[],_,h,_,_=>by cases h
 |u::us,q::qs,x::xs,hc,hk,hl,.cons h t=>by
  simp only[atE,List.cons.injEq]at hk;have hq:=hc x atD;rw[<-hk.1]at hq;obtain⟨i1,i2⟩:=alc c key dd (λy hy=>hc y (atA _ hy)) hk.2 (auy hl) t;rw[auH,auq,auq,auq,hq];cases hb:dd q.1 with
  |true=>exact⟨by simp only[if_true,atE,i1,hk.1],by simp only[if_true,atE];exact .cons h i2⟩
  |false=>exact⟨by simpa using i1,by simpa using i2⟩
section
variable{X:Cx}{ak:aX}{W:WX}{o i:Expr}{f:Str}{pos tpos p1:Pos}{fo fk:QF}
theorem aji(co:j5 X.K ak)(hw:ak.w=X.w)(hu:X.A.units+64<cLine)(ho:QW ak X W o fo)(hb:baseOk o=true)(hk:QE ak X W i fk):SE ak X W false (.Delete [.Subscript (.Attribute o f p1) i tpos] pos) (Qt f fo fk):=by
 refine PS.weak (ag5 hu (pe_fld ho (oY hb)) hk) λD σ H ⟨g,Z,M,I,z⟩=>?_;unfold Qt at z;have k2:=Out.jF (dN (σ:=σ) z);refine tW.go I (k2.mono (λ_ y=>y) λx y H' c dd ex rx=>y H' _ c dd (Gr.ex ex) (I.ex ex) rx) λod u H2 k3 e2 ru=>?_;have I2:=I.ex e2;split at k3
 .next h i' b kvs hl=>
  obtain⟨a,C,dx,fs,l,rfl,m1,m2,ml,ha,rfl,c1,c2,c3,c4,c5,c6,l1,l2,l3⟩:=Jg co I2.wok ru hl;refine⟨a,C,dx,fs,.ref l,rfl,c2,c4,c5,l1,?_⟩;have k3:=Out.jF (dN (σ:=σ) k3);refine tQ.go I2 (k3.mono (λ_ y=>y) λx y H' c dd ex rx=>y H' _ c dd ((Gr.ex e2).trans (Gr.ex ex)) (I2.ex ex) rx) λkd w H3 k4 e3 rk=>?_;have I3:=I2.ex e3;have l3':=l3.ex e3 I2.kd;refine⟨l,rfl,?_⟩;split at k4
  .next hh hz=>
   obtain⟨ha2,hcase⟩:=Vv hh;rcases hcase with⟨rfl,j,rfl⟩|⟨rfl,ds,kk,rfl,hkk,hdep⟩
   .obtain⟨kv,q1,q2,q3⟩:=l3';cases rk;rw[Ws q2]at ha2;refine .inl ⟨kv,j,q1,rfl,ha2,?_⟩;have hf:=λ(H':Hp)(r:aQ X.K g H' (kv.map (·.2)) (kvs.map (·.2)))=>alc (K:=X.K) (g:=g) (H:=H') (λp:Key×V=>decide (p.1≠Sum.inl j)) (λp=>keyD p.1) (λz=>!PyData.eqv z (.int j)) (vs:=kv.map (·.2)) (kvs:=kvs) (xs:=kv) (λx _=>by
     cases hx:x.1 with
     |inl z=>by_cases hz:z=j<;>simp[keyD,PyData.eqv,hz]
     |inr z=>simp[keyD,PyData.eqv]) q2 (by simp) r
    have ez:(((kv.map (·.2)).zip kv).filter λp=>decide (p.2.1≠Sum.inl j)).map (·.1)=(dropK kv (Sum.inl j)).map (·.2):=Sv (·.2) (λp:Key×V=>decide (p.1≠Sum.inl j)) kv;obtain⟨gr,I4⟩:=Py (b:=false) (kvs':=kvs.filter λp=>!PyData.eqv p.1 (.int j)) (o':=.dK (dropK kv (Sum.inl j))) I3 m1 m2 ha c1 (e3 _ _ c2) (c3.ex e3 I2.kd) c6 l1 l2 trivial λgr=>⟨_,au7,(hf _ (q3.gr gr I3.kd)).1,by
     rw[<-ez];exact(hf _ (q3.gr gr I3.kd)).2⟩
    exact k4 σ _ g ((Gr.ex (e2.trans e3)).trans gr) I4
   .obtain⟨o',xs,vs,q1,q2,q3,q4,q5,q6⟩:=l3';have ek:=Ce hkk;rw[<-ek,Lf q3]at ha2;rw[hw]at q2;have q4':=q4;rw[q3]at q4';cases rk with
    | @tup bb us _ hs' ht=>
     refine .inr ⟨o',xs,g,_,bb,kk,q1,q2,q4',rfl,.tup hs' ht,hkk,hdep,ha2,λo2 nd=>?_⟩;obtain⟨gr,I4⟩:=Py (b:=true) (kvs':=kvs.filter λp=>!PyData.eqv p.1 (.tuple ds)) (o':=jr l o2) I3 m1 m2 ha c1 (e3 _ _ c2) (c3.ex e3 I2.kd) c6 l1 l2 trivial λgr=>by
      obtain⟨vs',i1,i2,i3,i4⟩:=aiC kk q3 (q4.gr gr I3.kd) q5 (q6.gr gr I3.kd);rw[ek]at i1 i2 i4;exact⟨o2,withoutH xs kk,vs',au7,by rw[hw];exact nd,i1,i2,i3,i4⟩
     exact k4 σ _ g ((Gr.ex (e2.trans e3)).trans gr) I4
  .exact au0 k4
 .exact au0 k3
end
def ItD(l:Addr)(o:Obj)(xs:List pH):It:=
 ⟨λi H=>H l=some (jr l o)/\i<xs.length,λi H x H'=>H'=H/\∃e,xs[i]?=some e/\x=.ref e.2.1,λi H=>H l=some (jr l o)/\xs.length<=i⟩
theorem pin_at{X:Cx}{pins:List (Addr×Obj)}{σ:L2.St}{H:Hp}{s:Shared}{l:Addr}{o:Obj}(I:L2.Inv X pins σ H s)(h:H l=some (jr l o)):s.heap.get? l=some o:=(show ObjOk X.prog X.w H s.heap l (jr l o) from I.hok l _ h).1
theorem m7.at{w:World}{l:Addr}{o:Obj}{xs:List pH}{es:Array DictEntry}{ep:Nat}(n:m7 w l o xs)(h:o.data=.dict es ep):es.size=xs.length/\∀(i:Nat) (e:pH),xs[i]?=some e->∃en,es[i]?=some en/\en.key=.ref e.2.1:=by
 obtain⟨es',ep',h1,h2⟩:=n.ent;rw[h]at h1;cases h1;refine⟨?_,λi e hi=>⟨agH w e,?_,rfl⟩⟩
 .have:=congrArg List.length h2;simpa using this
 .rw[<-aut,h2,atR,hi];rfl
theorem aon{P:Program}{w:World}{K:atw}{tg:Expr}{l:Addr}{o:Obj}{xs:List pH}{es:Array DictEntry}{ep:Nat}(it:Addr)(n:m7 w l o xs)(hod:o.data=.dict es ep):Turn P w K tg (ItD l o xs) [it] it (λi h=>h.IsKeyIter it l i xs.length ep) where
 mem:=atF.mpr rfl
 obj:=λi h st b hb=>by
  cases atF.mp hb;obtain⟨oi,e,c,dd⟩:=st;refine⟨oi,e,λv z=>?_⟩;rw[dd]at z;cases z
 keep:=λi h h' st k=>st.at (k it (atF.mpr rfl))
 item:=by intro X hP hw hK hc i pins s σ H E I hf st hg;subst hP hw hK;obtain⟨g0,g1,g2,g3,g4,g5⟩:=hf it (atF.mpr rfl);obtain⟨sz,ent⟩:=n.at hod;have hlt:i<xs.length:=hg.2;have hx:xs[i]?=some xs[i]:=atz hlt;obtain⟨en,e1,e2⟩:=ent i _ hx;refine next_key_item st (pin_at I hg.1) hod sz e1 ?_;intro h' st' sb;have J:L2.Inv X pins σ H { s with heap:=h' }:=I.turned (t':=s.toks) (λb ob hb e=>(sb.2 b hb).trans e) g0 g1 g3 g4 g5;obtain⟨oi,a1,a2,a3⟩:=id st';exact⟨en.key,rfl,go_of (s:={ s with heap:=h' }) a1 a2 a3 (by decide) ⟨.ref xs[i].2.1,H,J,e2,⟨rfl,_,hx,rfl⟩,st',λb hb=>(hf b hb).1⟩⟩
 done:=by intro X hP hw hK hc i pins s σ H E I hf st hg;subst hP hw hK;obtain⟨g0,g1,g2,g3,g4,g5⟩:=hf it (atF.mpr rfl);exact next_key_end (I.ok.hd hc) st (pin_at I hg.1) hod (n.at hod).1 hg.2 λh' eb=>⟨rfl,I.turned (t':=s.toks) (λb ob hb e=>eb b ob hb e) g0 g1 g3 g4 g5⟩
 self:=λA i s Q E st h=>by
  refine wpAny_pyIter_slot st.typeIs PySem.F.slot_dict_keyiterator_iter (wpAny_call_entry PySem.F.slot_dict_keyiterator_iter st.typeIs PySem.F.entry_dict_keyiterator_iter ?_ (PySem.F.args_dict_keyiterator_iter_1 _));exact au4 ⟨_,rfl,"dict_keyiterator",_,st.typeIs,PySem.F.slot_dict_keyiterator_next.lookup,h⟩
def apJ(X:Cx)(td:TE):TI:=λσ H R=>td σ H λx H1=>∃l o xs,x=.ref l/\H1 l=some (jr l o)/\m7 X.w l o xs/\R (ItD l o xs) H1
theorem amg{X:Cx}{tg e:Expr}{td:TE}(he:PE X e td):PI X tg e (apJ X td):=by
 constructor;intro pins s σ H R I h;refine thn (he.run pins s σ H _ I h) ?_;rintro u s1 ⟨x,H1,I1,rx,l,o,xs,rfl,hl,n,q⟩
 obtain rfl:u=Value.ref l:=rx
 obtain⟨es,ep,hd,_⟩:=n.ent;refine iter_keys n.sys (pin_at I1 hl) n.ex hd (pi_one (tk:=s1.toks) I1 _ (aon _ n hd) ⟨_,Heap.get?_push_size _ rfl,rfl,?_⟩ q);rw[(n.at hd).1]<;>rfl
theorem ai1{K:atw}{ak:aX}{l:Addr}{o:Obj}{xs:List pH}{ks:List Dat}:Mr K (ItD l o xs) (λg H=>H l=some (jr l o)/\aQ K g H (xs.map λx=>V.ref x.2.1) ks) ks where
 go:=λg i H c hi=>⟨c.1,by have:=c.2.length;simp at this;omega⟩
 yld:=λg i H x H' d k c e y=>by
  obtain⟨rfl,en,h1,rfl⟩:=y;obtain⟨v,h2,h3⟩:=c.2.get e;rw[atR,h1]at h2;cases h2;exact⟨Ex.refl _,h3⟩
 stop:=λg i H c e=>⟨c.1,by have:=c.2.length;simp at this;omega⟩
 ex:=λg H H' k c e=>⟨e _ _ c.1,c.2.ex e k⟩
 add:=λg g' H H' k c r e=>⟨e _ _ c.1,c.2.gr r k⟩
def Ey(f:Str)(o:QF):IF:=λM Z=>(o M Z).bind λod=>match Bp M f od with
 |some (_,_,true,kvs)=>.ok (kvs.map (·.1))
 |_=>.bad
def Fq(f:Str)(o:QF):QF:=λM Z=>(o M Z).bind λod=>match Bp M f od with
 |some (_,_,_,kvs)=>.ok (.list (kvs.map (·.1)))
 |none=>.bad
section
variable{X:Cx}{ak:aX}{W:WX}{o tg:Expr}{f:Str}{pos p p1:Pos}{fo:QF}
theorem agN(co:j5 X.K ak)(hw:ak.w=X.w)(ho:QW ak X W o fo)(hb:baseOk o=true):QI ak X W false tg (.Attribute o f p1) (Ey f fo):=by
 have h0:=amg (tg:=tg) (pe_fld (X:=X) (pos:=p1) (f:=f) ho (oY hb));refine⟨λpins s σ H R I h=>h0.run pins s σ H R I ?_⟩;obtain⟨g,Z,M,J,h⟩:=h;unfold Ey at h;refine tW.go J h.bnd λod u H1 k2 e1 ru=>?_;have J1:=J.ex e1;split at k2
 .next h i kvs hl=>
  obtain⟨a,C,dx,fs,l,rfl,m1,m2,ml,ha,rfl,c1,c2,c3,c4,c5,c6,l1,l2,o',xs,vs,q1,q2,q3,q4,q5,q6⟩:=Jg co J1.wok ru hl;rw[hw]at q2;exact⟨a,C,dx,fs,.ref l,rfl,c2,c4,c5,l1,l,o',xs,rfl,q1,q2,k2 _ _ H1 e1 (ai1 (ak:=ak)) ⟨q1,q4⟩ λz=>nomatch z⟩
 .exact au0 k2
end
theorem ahG{P:Program}{w:World}{A:Around}{l I:Addr}{o:Obj}{xs:List pH}{es:Array DictEntry}{ep:Nat}(hh:A.handled=none)(hne:l≠I)(n:m7 w l o xs)(hd:o.data=.dict es ep):Walks P w A I [I,l] [I] xs.length (λi v=>∃e,xs[i]?=some e/\v=Value.ref e.2.1) (λi h=>h.IsKeyIter I l i xs.length ep/\h.get? l=some o) where
 sub:=λb hb=>by simp at hb;simp[hb]
 frame:=λi h h' st k=>⟨st.1.at (k I (by simp)),k l (by simp) o st.2⟩
 item:=λi s Q E hi st hQ=>by
  obtain⟨sz,ent⟩:=n.at hd;have hx:xs[i]?=some xs[i]:=atz hi;obtain⟨en,e1,e2⟩:=ent i _ hx;refine next_key_item st.1 st.2 hd sz e1 ?_;intro h' st' sb;exact hQ en.key h' s.toks ⟨_,hx,e2⟩ ⟨st',(sb.2 l hne).trans st.2⟩ λb ob hb e=>(sb.2 b λz=>hb (by simp[z])).trans e
 done:=λs Q E st hQ=>next_key_end hh st.1 st.2 hd (n.at hd).1 (at6 _) λh' eb=>hQ h' s.toks λb ob hb e=>eb b ob (λz=>hb (by simp[z])) e
 self:=λi s Q E st hQ=>wpAny_pyIter_keyiter st.1 hQ
theorem akb{P:Program}{w:World}{l:Addr}{o:Obj}{xs:List pH}(n:m7 w l o xs):PySem.W.KdlSrc P w "dict" l l xs.length (λi v=>∃e,xs[i]?=some e/\v=Value.ref e.2.1) (λh=>h.get? l=some o) where
 type:=λs e=>⟨o,e,n.ex.1⟩
 there:=λh e=>⟨Heap.lt_size e,Heap.lt_size e⟩
 keep:=λh h' e k=>k l (.inl rfl) o e
 notList:=by decide
 notTuple:=by decide
 hint:=λA E s Q e hq=>PySem.W.kdl_hint_dict ⟨o,e,n.ex.1⟩ hq
 iter:=λA s hh e=>by
  obtain⟨es,ep,hd,_⟩:=n.ent;refine⟨_,_,λE Q hq=>iter_keys n.sys e n.ex hd hq,ahG hh (auf (Heap.lt_size e)) n hd,⟨_,Heap.get?_push_size _ rfl,rfl,?_⟩,Heap.get?_push_of_some _ e⟩;rw[(n.at hd).1]<;>rfl
def aeT(X:Cx):List V->Hp->VK->Prop:=λxs H Q=>(∃p kvs,xs=[.ref p]/\H p=some (.dK kvs)/\∀q,H q=none->Q (.ref q) (upd H q (.lst (kvs.map λkv=>kV kv.1))))\/∃p o es,xs=[.ref p]/\H p=some (jr p o)/\m7 X.w p o es/\∀q,H q=none->Q (.ref q) (upd H q (.lst (es.map λe=>V.ref e.2.1)))
theorem aew{X:Cx}(hc:X.calm=true):CallR X (.type "list") (aeT X):=by
 intro pins s σ H xs us Q I r h;rcases h with h|⟨p,o,es,rfl,hp,n,q⟩
 .exact call_list_dK hc pins s σ H xs us Q I r h
 .obtain⟨u,rfl,rx⟩:=vals1 r
  obtain rfl:u=Value.ref p:=rx
  refine PySem.W.kdl_call (akb n) (I.ok.hd hc) (pin_at I hp) n.len ?_;intro h' tk acc c' keep hS hacc;have el:acc.toList.length=es.length:=by rw[auh];exact hacc.1
  refine⟨.ref s.heap.objs.size,upd H s.heap.objs.size (.lst (es.map λe=>V.ref e.2.1)),I.laid keep (at6 _) (show ObjOk X.prog X.w _ _ _ (.lst (es.map λe=>V.ref e.2.1)) from⟨by rw[atJ];exact n.len,acc.toList,c',?_,?_⟩),rfl,q _ (I.hok.fresh (at6 _))⟩
  .refine vals_of_at (by rw[atJ,el]) λj x w h1 h2=>?_;obtain⟨e,he,rfl⟩:=hacc.2 j w (by rw[<-aut];exact h2);rw[atR,he]at h1;cases h1;rfl
  .rw[Array.toArray_toList];exact hS
section
variable{X:Cx}{ak:aX}{W:WX}{o e:Expr}{f:Str}{pos p p1 pos':Pos}{fo:QF}
theorem abB{K:atw}{g:Gh}{H:Hp}:∀{kv:List (Key×V)} {kvs:List (Dat×Dat)},kvs.map (·.1)=kv.map (λp=>keyD p.1)->aQ K g H (kv.map λp=>kV p.1) (kvs.map (·.1))
 |[],[],_=>.nil
 |[],_::_,h=>by cases h
 |_::_,[],h=>by cases h
 |a::kv,b::kvs,h=>by
  simp only[atE,List.cons.injEq]at h;rw[atE,atE,h.1];refine .cons ?_ (abB h.2);cases a.1 with
  |inl i=>exact .int i
  |inr x=>exact .str x
theorem ah2(co:j5 X.K ak)(hw:ak.w=X.w)(σ:L2.St)(H:Hp)(Q:VK)(h:tQ X.K ak W (Fq f fo) σ H Q):tFld X.K (tW X.K ak W fo) f σ H λx H1=>aeT X [x] H1 Q:=by
 obtain⟨g,Z,M,J,h⟩:=h;unfold Fq at h;refine tW.go J h.bnd λod u H1 k2 e1 ru=>?_;have J1:=J.ex e1;split at k2
 .next h i b kvs hl=>
  obtain⟨a,C,dx,fs,l,rfl,m1,m2,ml,ha,rfl,c1,c2,c3,c4,c5,c6,l1,l2,l3⟩:=Jg co J1.wok ru hl;refine⟨a,C,dx,fs,.ref l,rfl,c2,c4,c5,l1,?_⟩;cases b with
  |false=>
   obtain⟨kv,q1,q2,q3⟩:=l3;exact .inl ⟨l,kv,rfl,q1,λq nq=>k2 (.ref q) _ (e1.trans (Ex.new nq)) (.lst (.inl ⟨.inl au7,J1.kd.fresh nq⟩) (abB q2))⟩
  |true=>
   obtain⟨o',xs,vs,q1,q2,q3,q4,q5,q6⟩:=l3;rw[hw]at q2;exact .inr ⟨l,o',xs,rfl,q1,q2,λq nq=>k2 (.ref q) _ (e1.trans (Ex.new nq)) (.lst (.inl ⟨.inl au7,J1.kd.fresh nq⟩) (q4.ex (Ex.new nq) J1.kd))⟩
 .exact au0 k2
theorem ag0(co:j5 X.K ak)(hw:ak.w=X.w)(hc:X.calm=true)(hg:Gl X "list")(hm:X.mg "list"=none)(ho:QW ak X W o fo)(hb:baseOk o=true):QE ak X W (.Call (.Name "list" p) [.Attribute o f p1] [] pos) (Fq f fo):=by
 have h1:=pa_cons (pe_fld (X:=X) (pos:=p1) (f:=f) ho (oY hb)) pa_nil (cP rfl []);have hv:BV (.type "list") "list":=⟨by decide +kernel,by decide,by decide⟩
 refine PE.weak (pe_callTy (pos:=pos) (p:=p) (aew hc) hg hm hv.1 h1 hv.2.1 hv.2.2 (cP rfl []) (by with_unfolding_all rfl)) λσ H Q h=>?_;exact ah2 co hw σ H Q h
def Qv(ft:Ft)(o:QF)(f:Str)(b:Bool):SF:=λM Z=>((o (M++[⟨"",[]⟩]) Z).at (M++[⟨"",[]⟩])).then Z λod M2=>match lQ M2 od with
 |some (h,i)=>match ft.has i.cls f&&decide (i.fs.length<100) with
  |true=>.next Z (M2.set h (i.put f (.dic b [])))
  |false=>.bad
 |none=>.bad
def anJ(X:Cx)(b:Bool):TE:=λ_ H Q=>∀p,H p=none->match b with
 |false=>Q (.ref p) (upd H p (.dK []))
 |true=>∀o,m7 X.w p o []->Q (.ref p) (upd H p (jr p o))
theorem aiX{b:Bool}:PE X (.Dict [] [] pos) (anJ X b):=by
 cases b with
 |false=>exact PE.weak pe_dnewK λσ H Q h p np=>h p np
 |true=>
  refine⟨λpins s σ H Q I h=>wpAny_Dict_empty ?_⟩;have hz:(s.heap.push { cls:=.type "dict",data:=.dict #[] }).get? s.heap.objs.size=some { cls:=.type "dict",data:=.dict #[] }:=Heap.get?_push_size _ rfl
  have hs:(s.heap.objs.size==sysModules)=false:=beq_eq_false_iff_ne.mpr (Ne.symm (auf I.big));exact⟨.ref s.heap.objs.size,_,I.laid (a:=s.heap.objs.size) (o:=jr s.heap.objs.size _) (t':=s.toks) (λ_ _ q=>Heap.get?_push_of_some _ q) (at6 _) (O4 hz),rfl,h _ (I.hok.fresh (at6 _)) _ ⟨hs,⟨rfl,rfl,rfl⟩,⟨#[],0,rfl,rfl⟩,auS,auo _,λx hx=>absurd hx auc⟩⟩
theorem ajp{ft:Ft}{b:Bool}(co:j5 X.K ak)(fk:Ph ft ak)(hw:ak.w=X.w)(ho:QW ak X W o fo)(hs:swapsWith (.Dict [] [] p) (some (.Attribute o f pos')) pos.line X.env=pure false):SE ak X W false (.Assign [.Attribute o f pos'] (.Dict [] [] p) pos) (Qv ft fo f b):=by
 refine PS.weak (ps_fld ho (aiX (b:=b)) hs) λD σ H ⟨g,Z,M,I,z⟩=>?_;have core:∀(l:Addr) (ob:HO),H l=none->KQ ob->(∀(g':Gh) (H':Hp),H' l=some ob->j7 X.K ak g' H' l b [])->tW X.K ak W fo σ (upd H l ob) (λx H2=>∃a C dx fs,x=.ref a/\H2 a=some (.ins C dx fs)/\Cls X.K C/\NoAttr X.K C f/\fs.length<1000/\D.nx σ (upd H2 a (.ins C dx (putF f (.ref l) fs)))):=by
  intro l ob nl mu at';obtain⟨gr,I1,tb,ow,mm⟩:=Ov I nl (Ex.new nl) au7 mu;unfold Qv at z;have k1:=Out.jF (dN (σ:=σ) z);refine tW.go I1 (k1.mono (λ_ y=>y) λx y H' c dd ex rx=>y H' _ c dd (gr.trans (Gr.ex ex)) (I1.ex ex) rx) λod u H2 k2 e2 ru=>?_;have I2:=I1.ex e2;split at k2
  .next h i hi=>
   split at k2
   .next hb=>
    rw[atx]at hb;obtain⟨a,C,dx,fs,_,m1,m2,ha,rfl,c1,c2,c3,c4,c5,c6⟩:=JR co fk I2.wok ru hi hb.1;have nla:l≠a:=λz=>by
     subst z;cases I2.wok.inj _ _ _ ha tb;rw[mm]at m1;cases m1;exact m2 rfl
    refine⟨a,C,dx,fs,rfl,c2,c4,c5,?_,?_⟩
    .have:=au2 hb.2;rw[c3.len];omega
    .have ch:=Ww (f:=f) (C:=C) (dx:=dx) (fs':=putF f (.ref l) fs) I2.kd I2.wok ha m1 m2 tb mm ow;have w':=I2.wok.chg I2.kd ch ha m1 m2 c6 c1 c3 au7 (v:=.ref l) (fl:=.dic b []) ⟨l,rfl,au5 rfl,at' _ _ (by rw[upd_ne nla];exact e2 _ _ au7)⟩;exact k2 σ _ _ ((gr.trans (Gr.ex e2)).trans ch.gc.gr) (I2.chg ch w')
   .exact au0 k2
  .exact au0 k2
 intro l nl;cases b with
 |false=>exact core l _ nl trivial λg' H' h=>⟨[],h,rfl,.nil⟩
 |true=>exact λob nd=>core l _ nl trivial λg' H' h=>⟨ob,[],[],h,by rw[hw];exact nd,rfl,.nil,.nil,.nil⟩
end
def alw(X:Cx)(D:Addr)(vs:List Nat)(g:TG)(tk:TE)(σ:L2.St)(Nx:Hp->Prop)(x:V)(H:Hp):Prop:=
 g x (L2.wipe σ vs) H λσ2 H2=>L2.wipe σ2 vs=L2.wipe σ vs/\tk σ2 H2 λy H4=>∃(o:Obj) (xs:List pH) (gg:Gh) (d:Dat) (b:Addr) (k:NestedKey),y=.ref b/\H4 D=some (jr D o)/\m7 X.w D o xs/\aQ X.K gg H4 (xs.map λx=>V.ref x.2.1) (xs.map λx=>x.1.data)/\Rep X.K gg H4 y d/\vJ d=some k/\k.depth<=8/\xs.length<sizeLine/\
  ∀o',m7 X.w D o' (storedH xs k b (.bool true))->Nx (upd H4 D (jr D o'))
def anb(X:Cx)(wi:TI)(g:TG)(tk:TE)(vs:List Nat):TE:=λσ H Q=>wi σ H λJ H1=>∀D,H1 D=none->∃W:Nat->Nat->Hp->Prop,(∃m,∀o,m7 X.w D o []->W 0 m (upd H1 D (jr D o)))/\
 ∀i m H,W i m H->(J.stop i H/\Q (.ref D) H)\/(J.go i H/\∃Nx:Hp->Prop,(∀H',Nx H'->∃m',m'<m/\W (i+1) m' H')/\∀x H',J.yld i H x H'->alw X D vs g tk σ Nx x H')
section
variable{X:Cx}
theorem agX{pins:List (Addr×Obj)}{σ:L2.St}{H:Hp}{s:Shared}{E:Value->Shared->Prop}{D b:Addr}{o:Obj}{xs:List pH}{gg:Gh}{d:Dat}{k:NestedKey}{u:Value}{Q:Unit->Shared->Prop}(hu:X.A.units+64<cLine)(I:L2.Inv X pins σ H s)(hD:H D=some (jr D o))(n:m7 X.w D o xs)(hr:aQ X.K gg H (xs.map λx=>V.ref x.2.1) (xs.map λx=>x.1.data))(hk:Rep X.K gg H (.ref b) d)(hd:vJ d=some k)(h8:k.depth<=8)(hz:xs.length<sizeLine)(ru:RelV (.bl true) u)
  (q:∀s' o',m7 X.w D o' (storedH xs k b (.bool true))->L2.Inv X pins σ (upd H D (jr D o')) s'->Q () s'):wpAny (model X.prog X.w) X.A (dictSet D (.ref b) u) Q E s:=by
 obtain rfl:u=.bool true:=ru
 refine wpAny_dictSet_heap (knd:=nestedKind X.prog X.w) (k:=k) (hsz:=Nat.le_of_lt hz) (show X.A.units+8<cLine by omega) ⟨key_is I hk hd rfl,h8⟩ (Jt I hD n rfl hr) ?_;intro h' dd hs';obtain⟨o',es,ep,g1,g2,g3,g4,g5,g6⟩:=dd;have nd:m7 X.w D o' (storedH xs k b (.bool true)):=⟨n.sys,g2,⟨es,ep,g3,g4⟩,g6,by have:=Vi (xs:=xs) (k:=k) (b:=b) (u:=.bool true);omega,Tn n.dep h8⟩;exact q _ o' nd (d_write I (by rw[hD];exact True.intro) hs' ⟨o',g1⟩ (O4 g1))
theorem alF{kx tg iter:Expr}{scope:Scope}{own:List (PySem.Str×Nat)}{pos vp:Pos}{vj:Nat}{wi:TI}{g:TG}{tk:TE}(hc:X.calm=true)(hN:X.N.Nodup)(hu:X.A.units+64<cLine)(hi:PI X tg iter wi)(ok:BlkOk X.N X.env.scope scope own)
  (hg:∀(t:Shared) (G:Hp) (C:Addr) (cl:List (PySem.Str×Addr)) (fp:List Addr),PG (X.blk t G scope (compEnvC scope cl C X.env) fp) tg g)
  (hk:∀(t:Shared) (G:Hp) (C:Addr) (cl:List (PySem.Str×Addr)) (fp:List Addr),PE (X.blk t G scope (compEnvC scope cl C X.env) fp) kx tk) (hs:∀x,foldedSetIterable iter X.env x=pure x) :
  PE X (.DictComp kx (.Constant (.bool true) vj vp) [⟨tg,iter,[],0⟩] scope pos) (anb X wi g tk (own.map (·.2))):=by
 refine⟨λpins s σ H Q I h=>?_⟩;rw[arm_eval_DictComp];have cells:∀y∈scope.names,y.2=.free->∃c,X.env.cells.lookup y.1=some c:=λy hy e=>(ok.free y hy e).elim (λk=>I.ok.has _ (.inl k)) (λk=>I.ok.has _ (.inr k));refine wpAny_comprehension_free rfl hs (closure_ok cells) ok.kind (λy hy e=>by rw[ok.uniq y hy,e]) (thn (hi.run pins s σ H _ I h) λ_ _ hx=>thn hx λitv t0 h0=>?_);obtain⟨it,fp,tn,J,G0,rfl,I0,T,st0,f0,q⟩:=h0;refine wpAny_newObj_type (newEnv_comp ?_)
 -- the new dict,at D
 obtain⟨D,hD⟩:∃D,D=t0.heap.objs.size:=⟨_,rfl⟩;rw[<-hD];obtain⟨W,⟨m0,w00⟩,turn⟩:=q D (I0.hok.fresh (Nat.le_of_eq hD.symm));obtain⟨ob,hob⟩:∃ob:Obj,ob={ cls:=.type "dict",data:=.dict #[] }:=⟨_,rfl⟩
 have nd0:m7 X.w D ob []:=by rw[hob];exact⟨by rw[hD];exact beq_eq_false_iff_ne.mpr (Ne.symm (auf I0.big)),⟨rfl,rfl,rfl⟩,⟨#[],0,rfl,rfl⟩,auS,auo _,λx hx=>absurd hx auc⟩
 have w0:=w00 ob nd0;rw[<-hob];obtain⟨t1,ht1⟩:∃t1:Shared,t1={ t0 with heap:=t0.heap.push ob }:=⟨_,rfl⟩;obtain⟨G1,hG1⟩:∃G1,G1=upd G0 D (jr D ob):=⟨_,rfl⟩;rw[<-hG1]at w0;have grow:∀b o,t0.heap.get? b=some o->t1.heap.get? b=some o:=λb o e=>by rw[ht1];exact Heap.get?_push_of_some _ e
 have I1:L2.Inv X pins σ G1 t1:=by rw[ht1,hG1];refine I0.laid (t':=t0.toks) (λb o e=>Heap.get?_push_of_some _ e) (Nat.le_of_eq hD.symm) (O4 ?_);rw[hD];exact Heap.get?_push_size _ (by rw[hob];rfl)
 have small:∀b∈fp,b<t0.heap.objs.size:=λb hb=>by
  obtain⟨o,e,_⟩:=T.obj _ _ st0 b hb;exact Heap.lt_size e
 have f1:∀b∈fp,FpOk X pins G1 b/\b<t1.heap.objs.size:=λb hb=>by
  have hlt:=small b hb;refine⟨⟨?_,(f0 b hb).2⟩,by rw[ht1];show b<(t0.heap.push ob).objs.size;rw[Heap.size_push];exact auD hlt⟩;rw[hG1,upd_ne (by rw[hD];exact auf hlt)];exact(f0 b hb).1
 have st1:tn 0 t1.heap:=T.keep _ _ _ st0 λb _ o e=>grow b o e;have I2:=block_start I1 ok hN f1;have pg:=hg t1 G1 t1.heap.objs.size (cellsFrom (t1.heap.objs.size+1) scope.names (cloFrom X.env.cells scope.names [])) fp;have pk:=hk t1 G1 t1.heap.objs.size (cellsFrom (t1.heap.objs.size+1) scope.names (cloFrom X.env.cells scope.names [])) fp;have none1:∀b∈fp,G1 b=none:=λb hb=>(f1 b hb).1.1;rw[show({ t0 with heap:=t0.heap.push ob }:Shared)=t1 from ht1.symm];obtain⟨ce,hce⟩:∃ce,ce=compEnvC scope (cellsFrom (t1.heap.objs.size+1) scope.names (cloFrom X.env.cells scope.names [])) t1.heap.objs.size X.env:=⟨_,rfl⟩;rw[<-hce]at I2 pg pk;have cL:ce.locals=t1.heap.objs.size:=by rw[hce];rfl
 obtain⟨t2,ht2⟩:∃t2:Shared,t2={ t1 with heap:=pushCells (t1.heap.push { cls:=.type "dict",data:=.dict #[] }) scope.names }:=⟨_,rfl⟩
 rw[<-ht2]at I2;have st2:tn 0 t2.heap:=T.keep _ _ _ st1 λb _ o e=>by rw[ht2];exact pushCells_keeps _ _ _ _ (Heap.get?_push_of_some _ e)
 have still:∀{σ':L2.St} {G':Hp} {t':Shared},L2.Inv (X.blk t1 G1 scope ce fp) [] σ' G' t'->(∀b∈fp,G' b=none)->∀b∈fp,FpOk (X.blk t1 G1 scope ce fp) [] G' b:=λI' hn b hb=>
  ⟨hn b hb,(I'.ok.exf b hb).1,I'.ok.exfs b hb,.inl hb,λx c e=>(I'.ok.exf b hb).2 x c e,λp hp=>absurd (show p∈([]:List (Addr×Obj))++[] from hp) (by simp)⟩
 have pt:PTs (X.blk t1 G1 scope ce fp) [] tYes:=pts_nil;have pv:PE (X.blk t1 G1 scope ce fp) (.Constant (.bool true) vj vp) (tC (.bl true)):=pe_bl;have loop:codeAny (model X.prog X.w) X.A (.compLoop (.DictComp kx (.Constant (.bool true) vj vp) [⟨tg,iter,[],0⟩] scope pos) 0 (.ref it) (.ref D) ce) (compPost (model X.prog X.w) X.A X.xe none (EP X pins σ Q) (.ref D) t1.heap.objs.size) t2:=by
  refine compLoop_anyD (λn t'=>∃i G',L2.Inv (X.blk t1 G1 scope ce fp) [] (L2.wipe σ (own.map (·.2))) G' t'/\tn i t'.heap/\(∀b∈fp,G' b=none)/\W i n G') ?_ m0 ⟨0,G1,I2,st2,none1,w0⟩;rintro n t3 ⟨i,G3,I3,st3,n3,w3⟩;rcases turn i n G3 w3 with⟨stop,fin⟩|⟨go,Nx,hNx,step⟩
  .refine thnF (T.done (X.blk t1 G1 scope ce fp) rfl rfl rfl hc i [] t3 _ G3 (λ_ _=>False) I3 (still I3 n3) st3 stop) λr t4 ⟨hr,I4⟩=>?_;subst hr;have I5:L2.Inv X pins σ G3 t4:=I1.call' (ch:=fp) I4.os I4.base I4.hok I4.bare λb hb=>⟨(f1 b hb).1.2.2.2.1,(f1 b hb).1.2.1,(f1 b hb).1.2.2.2.2.1,(f1 b hb).1.2.2.2.2.2⟩;have nC:G3 t1.heap.objs.size=none:=by rw[<-cL];exact I4.free
   obtain⟨m,hn,_⟩:=I4.loc;have hn':t4.heap.Ns t1.heap.objs.size m:=by rw[<-cL];exact hn
   obtain⟨a0,a1,_,a3,a4,a5⟩:=I1.fpOk (at6 _) nC;exact⟨m,hn',λh'' sb=>⟨.ref D,G3,I5.turned (t':=t4.toks) (λb o hb e=>(sb.2 b hb).trans e) a0 a1 a3 a4 a5,rfl,fin⟩⟩
  .refine thnF (T.item (X.blk t1 G1 scope ce fp) rfl rfl rfl hc i [] t3 _ G3 (λ_ _=>False) I3 (still I3 n3) st3 go) λr t4 ⟨u,hr,h4⟩=>?_;subst hr;refine thnF h4 λ_ t5 ⟨x,G5,I5,r5,y5,st5,n5⟩=>?_;refine thnF (pg.run _ t5 _ G5 x u _ (I5.pinned (still I5 n5) (T.obj _ _ st5)) r5 (step x G5 y5)) λ_ t6 ⟨σ6,G6,I6,hw6,q6⟩=>?_;refine thnF (pt.run _ t6 σ6 G6 (λb G=>b=true/\G=G6) I6 ⟨rfl,rfl⟩) λb t7 ⟨G7,I7,hb7,hG7⟩=>?_;subst hb7 hG7;have over:∀{t':Shared} {G':Hp},L2.Inv (X.blk t1 G1 scope ce fp) ([]++pinsAt fp t5.heap) σ6 G' t'->Nx G'->∃m,m<n/\∃i G',L2.Inv (X.blk t1 G1 scope ce fp) [] (L2.wipe σ (own.map (·.2))) G' t'/\tn i t'.heap/\(∀b∈fp,G' b=none)/\W i m G':=λ{t' G'} I' nx=>by
    obtain⟨m',hm,w'⟩:=hNx G' nx;have pin:∀b∈fp,∀o,t5.heap.get? b=some o->t'.heap.get? b=some o/\G' b=none:=λb hb o e=>
     let z:=I'.pin (b,o) (aul _ (aul _ (mem_pinsAt hb e)))
     ⟨z.1,z.2.1⟩
    refine⟨m',hm,i+1,G',(I'.unpinned (pins:=[])).weak (by rw[<-hw6,wipe_length]) (λj v e=>?_),T.keep _ _ _ st5 λb hb o e=>(pin b hb o e).1,λb hb=>?_,w'⟩
    .rw[<-hw6]at e;exact(wipe_some e).1
    .obtain⟨o,e,_⟩:=T.obj _ _ st5 b hb;exact(pin b hb o e).2
   simp only[if_true];refine thnF (pk.run _ t7 σ6 _ _ I7 q6) λz t8 ⟨yv,G8,I8,r8,o8,xs8,g8,d8,b8,k8,ey,hD8,n8,hr8,hk8,hd8,h88,hz8,nx⟩=>?_;subst ey
   obtain rfl:z=Value.ref b8:=r8
   refine thnF (pv.run _ t8 σ6 G8 (λv G=>v=.bl true/\G=G8) I8 ⟨rfl,rfl⟩) λz2 t9 ⟨y9,G9,I9,r9,hv9,hG9⟩=>?_;subst hv9 hG9;exact agX (X:=X.blk t1 G1 scope ce fp) hu I9 hD8 n8 hr8 hk8 hd8 h88 hz8 r9 λs' o' nd I10=>over I10 (nx o' nd)
 have done:=codeAny_compStart_dict loop (T.self X.A 0 _ _ _ st2 loop);rw[hce,ht2]at done;subst hob;exact done
end
def HS(tg:gj)(tk:QF)(M:Mo)(Z:Env):List Dat->List (Dat×Dat)->Out (List (Dat×Dat))
 |[],acc=>.ok acc
 |d::ds,acc=>match tg d Z with
  |none=>.bad
  |some Z1=>(zJ (tk M Z1)).bind λkd=>(dhas true acc kd).bind λr=>HS tg tk M Z ds (match r with
   |true=>acc
   |false=>acc++[(kd,.bool true)])
def qDc(it:IF)(tg:gj)(vs:List Nat)(tk:QF):Mo->Env->Out (List (Dat×Dat)):=λM Z=>(it M Z).bind λds=>Out.when (decide (ds.length<=50000)) (HS tg tk M (bY Z vs) ds [])
def amk(K:atw)(ak:aX)(W:WX)(f:Mo->Env->Out (List (Dat×Dat))):TE:=λσ H Q=>∃g Z M,SInv K ak σ H g Z M/\(f M Z).sat (λkvs=>∀l o H',H l=none->Ex H H'->H' l=some (jr l o)->j7 K ak (g.add l) H' l true kvs->Q (.ref l) H') (sU K ak W g H σ)
section
variable{X:Cx}{ak:aX}{W:WX}
theorem Xf{tg:gj}{tk:QF}{M:Mo}{Z:Env}:∀{ds:List Dat} {acc:List (Dat×Dat)} {x:eX},HS tg tk M Z ds acc≠.exc x
 |[],_,_,h=>nomatch h
 |d::ds,acc,x,h=>by
  rw[HS]at h;split at h
  .cases h
  .next Z1 e=>
   cases h1:tk M Z1 with
   |bad=>rw[h1]at h;cases h
   |exc y=>rw[h1]at h;cases h
   |ok kd=>
    rw[h1]at h;have h:((dhas true acc kd).bind λr=>HS tg tk M Z ds (match r with
     |true=>acc
     |false=>acc++[(kd,.bool true)]))=.exc x:=h
    cases h2:dhas true acc kd with
    |bad=>rw[h2]at h;cases h
    |exc y=>
     unfold dhas at h2;split at h2
     .cases h2
     .split at h2
      .split at h2<;>cases h2
      .cases h2
     .cases h2
    |ok r=>
     rw[h2]at h;exact Xf h
theorem agV{xs:List pH}{k:NestedKey}(h:∀x∈xs,x.2.2=.bool true):xs.map (putAt k (.bool true))=xs:=by
 have:∀x∈xs,putAt k (.bool true) x=x:=λx hx=>by
  unfold putAt;split
  .obtain⟨a,b,c⟩:=x;have:c=.bool true:=h _ hx;rw[this]
  .rfl
 calc xs.map (putAt k (.bool true))=xs.map id:=List.map_congr_left this
  _=xs:=List.map_id xs
theorem acI:∀{xs:List pH},(∀x∈xs,x.2.2=.bool true)->Vals (List.replicate xs.length (.bl true)) (xs.map (·.2.2))
 |[],_=>.nil
 |x::xs,h=>by
  rw[atQ,List.replicate_succ,atE,h x atD];exact .cons rfl (acI λy hy=>h y (atA _ hy))
theorem acj{K:atw}{g:Gh}{H:Hp}:∀{kvs:List (Dat×Dat)} {n:Nat},n=kvs.length->(∀p∈kvs,p.2=.bool true)->aQ K g H (List.replicate n (.bl true)) (kvs.map (·.2))
 |[],_,h,_=>by subst h;exact .nil
 |p::kvs,_,e,h=>by
  subst e;rw[atQ,List.replicate_succ,atE,h p atD];exact .cons (.bl true) (acj rfl λy hy=>h y (atA _ hy))
theorem anN{it:IF}{tg:gj}{js vs:List Nat}{tk:QF}(hw:ak.w=X.w)(hj:∀j∈js,j∈vs)(σ:L2.St)(H:Hp)(Q:VK)(h:amk X.K ak W (qDc it tg vs tk) σ H Q) :
  anb X (tI X.K ak W false it) (zA X.K ak js tg) (tQ X.K ak WF tk) vs σ H Q:=by
 obtain⟨g,Z,M,I,h⟩:=h;refine⟨g,Z,M,I,h.bnd.mono (λds hk J C H1 e1 w c _ D nD=>?_) λ_ z=>z⟩;obtain⟨hz,hk⟩:=hk.rC;have hlen:=au2 hz;obtain⟨total,htot,hQ⟩:∃total,HS tg tk M (bY Z vs) ds []=.ok total/\∀l o H',H l=none->Ex H H'->H' l=some (jr l o)->j7 X.K ak (g.add l) H' l true total->Q (.ref l) H':=by
  cases hc:HS tg tk M (bY Z vs) ds [] with
  |bad=>rw[hc]at hk;exact au0 hk
  |exc x=>exact absurd hc Xf
  |ok total=>
   rw[hc]at hk;exact⟨total,rfl,hk⟩
 have I1:=(I.ex e1).wipe vs;have kD:∀{Ha:Hp} {o:Obj},Ex H1 Ha->Ha D=some (jr D o)->SInv X.K ak (L2.wipe σ vs) Ha (g.add D) (bY Z vs) M:=λea hu=>I1.add nD ea hu trivial
 let Pv:Nat->Hp->Prop:=λi Ha=>Ex H1 Ha/\i<=ds.length/\∃o xs acc,Ha D=some (jr D o)/\m7 X.w D o xs/\acc.map (·.1)=xs.map (λx=>x.1.data)/\aQ X.K (g.add D) Ha (xs.map λx=>V.ref x.2.1) (acc.map (·.1))/\(∀x∈xs,x.2.2=.bool true)/\(∀p∈acc,p.2=.bool true)/\acc.length<=i/\HS tg tk M (bY Z vs) (ds.drop i) acc=.ok total
 refine⟨λi m Ha=>m=ds.length-i/\Pv i Ha,⟨ds.length,λo n0=>⟨rfl,Ex.new nD,auo _,o,[],[],au7,n0,rfl,.nil,λx hx=>absurd hx auc,λx hx=>absurd hx auc,at6 _,by rw[auT];exact htot⟩⟩,?_⟩;rintro i m Ha ⟨rfl,ea,hi,o,xs,acc,hu,nd,hK,hR,hT,hA,hy,hs⟩;have Ia:=kD ea hu;have Ca:=w.add g (g.add D) H1 Ha (I.kd.ex e1) c (Gh.Fj nD ea) ea;have lxs:xs.length=acc.length:=by have:=congrArg List.length hK;simpa using this.symm
 by_cases hlt:i<ds.length
 .refine .inr ⟨w.go _ i Ha Ca hlt,Pv (i+1),λH' p=>⟨ds.length-(i+1),by omega,rfl,p⟩,λx H' y=>?_⟩;have hd:ds[i]?=some ds[i]:=atz hlt;obtain⟨e2,rx⟩:=w.yld _ i Ha x H' _ Ia.kd Ca hd y;have I2:=Ia.ex e2;rw[aus hlt,HS]at hs;split at hs
  .cases hs
  .next Z1 he=>
   refine⟨g.add D,_,M,_,Z1,I2,rx,he,λws I3=>⟨yP js ws _ vs hj |>.trans (Cq σ vs),?_⟩⟩;cases htk:tk M Z1 with
   |bad=>rw[htk]at hs;cases hs
   |exc z=>rw[htk]at hs;cases hs
   |ok kd=>
    rw[htk]at hs;have hs:((dhas true acc kd).bind λr=>HS tg tk M (bY Z vs) (ds.drop (i+1)) (match r with
     |true=>acc
     |false=>acc++[(kd,.bool true)]))=.ok total:=hs
    refine⟨g.add D,Z1,M,I3,?_⟩;rw[htk];intro v H4 e4 ry;have I4:=I3.ex e4;have hu4:=e4 _ _ (e2 _ _ hu);have hR4:=(hR.ex e2 Ia.kd).ex e4 I2.kd;cases hh:dhas true acc kd with
    |bad=>rw[hh]at hs;cases hs
    |exc z=>rw[hh]at hs;cases hs
    |ok r=>
     rw[hh]at hs;obtain⟨ha2,hcase⟩:=Vv hh;rcases hcase with⟨z,_⟩|⟨_,dd,kk,rfl,hkk,hdep⟩
     .cases z
     .have ek:=Ce hkk;rw[<-ek,Lf hK]at ha2;have hRx:=hR4;rw[hK]at hRx;cases ry with
      | @tup bb us _ hs' ht=>
       refine⟨o,xs,g.add D,_,bb,kk,rfl,hu4,nd,hRx,.tup hs' ht,hkk,hdep,sz_lt (by omega),λo' nd'=>?_⟩;have eD:Ex H1 (upd H4 D (jr D o')):=Ex.mut ((ea.trans e2).trans e4) nD;have lD:(g.add D).Lo D:=.inr rfl;have up:Gr true (g.add D) (g.add D) H4 (upd H4 D (jr D o')):=Gr.upd I4.kd hu4 (.inr lD);cases r with
       |true=>
        obtain⟨q,hq⟩:=Option.isSome_iff_exists.mp ha2;rw[storedH_old hq,agV hT]at nd';exact⟨eD,hlt,o',xs,acc,au7,nd',hK,hR4.gr up I4.kd,hT,hA,by omega,hs⟩
       |false=>
        have hn:atKey xs kk=none:=by
         cases hv:atKey xs kk with
         |none=>rfl
         |some _=>rw[hv]at ha2;cases ha2
        rw[storedH_new hn]at nd';have hs:HS tg tk M (bY Z vs) (ds.drop (i+1)) (acc++[(.tuple dd,.bool true)])=.ok total:=hs;refine⟨eD,hlt,o',xs++[(kk,bb,.bool true)],acc++[(.tuple dd,.bool true)],au7,nd',by simp[hK,ek],?_,?_,?_,by simp;omega,hs⟩
        .rw[List.map_append,List.map_append];exact(hR4.gr up I4.kd).back ((Rep.tup hs' ht).gr up I4.kd)
        .intro x hx;rcases atL.mp hx with z|z
         .exact hT x z
         .rw[atF.mp z]
        .intro x hx;rcases atL.mp hx with z|z
         .exact hA x z
         .rw[atF.mp z]
 .have e:i=ds.length:=by omega
  refine .inl ⟨w.stop _ i Ha Ca e,?_⟩;rw[e,auz]at hs;cases hs;exact hQ D o Ha (FT e1 D nD) (e1.trans ea) hu ⟨o,xs,List.replicate xs.length (.bl true),hu,by rw[hw];exact nd,hK,hR,acI hT,acj lxs hA⟩
def T9(ft:Ft)(o:QF)(f:Str)(e:Mo->Env->Out (List (Dat×Dat))):SF:=λM Z=>((e M Z).at M).then Z λkvs _=>((o (M++[⟨"",[]⟩]) Z).at (M++[⟨"",[]⟩])).then Z λod M2=>match lQ M2 od with
 |some (h,i)=>match ft.has i.cls f&&decide (i.fs.length<100) with
  |true=>.next Z (M2.set h (i.put f (.dic true kvs)))
  |false=>.bad
 |none=>.bad
end
theorem aa8{K:atw}{g:Gh}{H:Hp}{l:Addr}{vs:List V}{ds:List Dat}(h:aQ K (g.add l) H vs ds):aQ K (g.push l) H vs ds:=aQ.mv (g:=g.add l) (g':=g.push l) (λh a z=>by
  have z:g.tbl[h]?=some a:=z
  show(g.tbl++[l])[h]?=some a
  rw[atN (aty.mp z).1];exact z) (λa z=>by
  rcases aaG z with z|rfl
  .rcases z with z|z|z
   .exact .inl z
   .exact .inr (.inl z)
   .exact .inr (.inr (show g.Lo a\/a=l from Or.inl z))
  .exact .inr (.inr (show g.Lo a\/a=a from Or.inr rfl))) h
section
variable{X:Cx}{ak:aX}{W:WX}{o e:Expr}{f:Str}{pos pos':Pos}{ft:Ft}{fo:QF}
theorem ai7{fe:Mo->Env->Out (List (Dat×Dat))}{te:TE}(co:j5 X.K ak)(fk:Ph ft ak)(ho:QW ak X W o fo)(he:PE X e te)(hte:∀σ H Q,amk X.K ak W fe σ H Q->te σ H Q)(hs:swapsWith e (some (.Attribute o f pos')) pos.line X.env=pure false):SE ak X W false (.Assign [.Attribute o f pos'] e pos) (T9 ft fo f fe):=by
 refine PS.weak (ps_fld ho he hs) λD σ H ⟨g,Z,M,I,z⟩=>hte σ H _ ⟨g,Z,M,I,?_⟩;unfold T9 at z;cases hf:fe M Z with
 |exc x=>rw[hf]at z;exact λH' c dd e r=>z σ H' g c dd (Gr.ex e) (I.ex e) r.fr
 |bad=>rw[hf]at z;exact au0 z
 |ok kvs=>
  rw[hf]at z;intro l ob H1 nl e1 hl dic;obtain⟨gr,I1,tb,ow,mm⟩:=Ov I nl e1 hl trivial;have dic1:j7 X.K ak (g.push l) H1 l true kvs:=by obtain⟨o',xs,vs,q1,q2,q3,q4,q5,q6⟩:=dic;exact⟨o',xs,vs,q1,q2,q3,aa8 q4,q5,aa8 q6⟩
  have z:(((fo (M++[⟨"",[]⟩]) Z).at (M++[⟨"",[]⟩])).then Z λod M2=>match lQ M2 od with
   |some (h,i)=>match ft.has i.cls f&&decide (i.fs.length<100) with
    |true=>.next Z (M2.set h (i.put f (.dic true kvs)))
    |false=>.bad
   |none=>.bad).sat (sN X.K ak false D.nx g H) (sR X.K ak false D.rt g H) (sN X.K ak false D.bk g H) (sN X.K ak false D.ct g H) (sX X.K ak W false g H):=z
  have k1:=Out.jF (dN (σ:=σ) z);refine tW.go I1 (k1.mono (λ_ y=>y) λx y H' c dd ex rx=>y H' _ c dd (gr.trans (Gr.ex ex)) (I1.ex ex) rx) λod u H2 k2 e2 ru=>?_;have I2:=I1.ex e2;split at k2
  .next h i hi=>
   split at k2
   .next hb=>
    rw[atx]at hb;obtain⟨a,C,dx,fs,_,m1,m2,ha,rfl,c1,c2,c3,c4,c5,c6⟩:=JR co fk I2.wok ru hi hb.1;have nla:l≠a:=λz=>by
     subst z;cases I2.wok.inj _ _ _ ha tb;rw[mm]at m1;cases m1;exact m2 rfl
    refine⟨a,C,dx,fs,rfl,c2,c4,c5,?_,?_⟩
    .have:=au2 hb.2;rw[c3.len];omega
    .have ch:=Ww (f:=f) (C:=C) (dx:=dx) (fs':=putF f (.ref l) fs) I2.kd I2.wok ha m1 m2 tb mm ow;have w':=I2.wok.chg I2.kd ch ha m1 m2 c6 c1 c3 au7 (v:=.ref l) (fl:=.dic true kvs) ⟨l,rfl,au5 rfl,j7.chg ch.gc.gr I2.kd (upd_ne nla) (dic1.ex e2 I1.kd)⟩;exact k2 σ _ _ ((gr.trans (Gr.ex e2)).trans ch.gc.gr) (I2.chg ch w')
   .exact au0 k2
  .exact au0 k2
end
end Rf
namespace Ear
open PySem PySem.Spec PyProof.Rows L2 Evl RZ
abbrev zp(K:atw)(H:Hp)(v:V)(r:Rw):Prop:=Dp K H v (rD r)
@[irreducible]def Ol (K:atw) (w:World):List V->Hp->VK->Prop:=λvs H Q=>∃(l:Addr) (ws:List V) (R D:List Rw),vs=[V.ref l]/\SqL K H l ws/\fY (zp K H) ws R/\D.length<=76/\(∀r∈R,r∈D)/\
 ∀(p:Addr) (L:List Ent),H p=none->(∀e∈L,zp K H (.ref e.1) e.2)->(L.map Prod.snd).Nodup->(∀r,r∈L.map Prod.snd↔r∈R)->L.length<=76->Q (.ref p) (upd H p (Px w p L))
@[irreducible]def RQ (K:atw) (w:World):List V->Hp->VK->Prop:=λvs H Q=>∃(a:Addr) (L:List Ent),vs=[V.ref a]/\H a=some (Px w a L)/\(∀e∈L,zp K H (.ref e.1) e.2)/\(L.map Prod.snd).Nodup/\L.length<=76/\
 ∀(ys:List V) (M:List Rw) (p:Addr),fY (zp K H) ys M->Fv M->(∀r,r∈M↔r∈L.map Prod.snd)->H p=none->Q (.ref p) (upd H p (.lst ys))
section
variable{X:Cx}
theorem agL{pins:List (Addr×Obj)}{σ:L2.St}{H:Hp}{s:Shared}(I:Inv X pins σ H s){t:Addr}{r:Rw}(h:zp X.K H (.ref t) r):RI s.heap r t:=by
 refine⟨?_,by rw[ahQ];decide⟩;unfold zp rD dT at h;cases h with
 |tup h1 t1=>
  cases t1 with
  |cons a1 t1=>
   cases t1 with
   |cons a2 t1=>
    cases t1;cases a1;cases a2 with
    |tup h2 t2=>
     obtain⟨us,rv,⟨o,ho,hc,n,hd⟩,_⟩:=I.tuple h1;obtain⟨us2,rv2,⟨o2,ho2,hc2,n2,hd2⟩,_⟩:=I.tuple h2;refine .tup ho hc hd ?_;cases rv with
     |cons r1 rv=>
      cases rv with
      |cons r2 rv=>
       cases rv;obtain⟨tk,rfl⟩:=r1;cases r2;have e:∀{vs:List V} {l:List Int},DpAll X.K H vs (l.map PyData.int)->vs=l.map V.int:=by
        intro vs l
        induction l generalizing vs with
        |nil=>intro z;cases z;rfl
        |cons i l ih=>
         intro z;cases z with
         |cons b1 b2=>
          cases b1;rw[ih b2];rfl
       rw[e t2]at rv2;exact .cons (.int r.1 tk) (.cons (.tup ho2 hc2 hd2 (by simpa using XC (P:=X.prog) (w:=X.w) r.2 us2 rv2)) .nil)
theorem Vd{K:atw}{H:Hp}:∀(ws:List V) (R:List Rw),fY (zp K H) ws R->∃ks:List Ent,ws=(ks.map λp=>V.ref p.1)/\ks.map Prod.snd=R/\∀p∈ks,zp K H (.ref p.1) p.2
 |[],[],_=>⟨[],rfl,rfl,by simp⟩
 |[],_::_,h=>nomatch h.1
 |_::_,[],h=>nomatch h.1
 |v::ws,r::R,h=>by
  obtain⟨ks,e1,e2,e3⟩:=Vd ws R ⟨auy h.1,λi v x a b=>h.2 (i+1) v x a b⟩;have hr:zp K H v r:=h.2 0 v r rfl rfl;have ev:∃t,v=.ref t:=by
   have z:=hr;unfold zp rD at z;cases z with
   |tup _ _=>exact⟨_,rfl⟩
  obtain⟨t,rfl⟩:=ev;refine⟨(t,r)::ks,by rw[atE,<-e1],by rw[atE,e2],λp hp=>?_⟩;rcases atO.mp hp with e|hp
  .rw[e];exact hr
  .exact e3 p hp
theorem abI(hu:X.A.units+65<cLine)(hc:X.calm=true):CallR X (.type "set") (Ol X.K X.w):=by
 intro pins s σ H vs us Q I r h;unfold Ol at h;obtain⟨l,ws,R,D,rfl,hl,hA,hD,hRD,q⟩:=h;rw[Vals.ref1 r];obtain⟨ks,e1,e2,e3⟩:=Vd ws R hA;obtain⟨its,rv,pl,hz⟩:=I.list hl;rw[e1]at rv;have mem:∀p∈ks,p.2∈R:=λp hp=>by
  rw[<-e2];exact atM.mpr ⟨p,hp,rfl⟩
 have hn:H s.heap.objs.size=none:=I.hok.fresh (at6 _);refine abV (P:=X.prog) (w:=X.w) (hf:=λr=>(qF X.prog X.w).hash r) (λ_=>rfl) ks D hD (λp hp=>hRD _ (mem p hp)) (I.ok.hd hc) pl.isList (by simpa using Xc rv) (λp hp=>agL I (e3 p hp)) (by omega) λh' tk L es ep t S g k=>?_;have fitL:t.fits es.size=true:=tD.fits (s:={ s with heap:=h',toks:=tk }) S;have new:ObjOk X.prog X.w (upd H s.heap.objs.size (Px X.w s.heap.objs.size L)) h' s.heap.objs.size (Px X.w s.heap.objs.size L):=by obtain⟨o,ho,hr⟩:=S.ob;refine⟨⟨_,es,ep,t,S.ob,S.en,fitL,S.tab.ris,S.ld⟩,⟨o,ho⟩,λh1 h2 z k2=>?_⟩;obtain⟨hf2,es2,ep2,t2,⟨o2,ho2,hr2⟩,rest⟩:=(show aer X.w h1 s.heap.objs.size L from z);exact⟨hf2,es2,ep2,t2,⟨o2,k2 o2 ho2,hr2⟩,rest⟩
 refine⟨.ref s.heap.objs.size,upd H s.heap.objs.size (Px X.w s.heap.objs.size L),I.laid (t':=tk) k (at6 _) new,rfl,q _ L hn (λe he=>e3 e (auL (g.sub e he))) S.nd (λr=>⟨λm=>?_,λm=>?_⟩) S.few⟩
 .obtain⟨e,he,e5⟩:=atM.mp m;rw[<-e5];exact mem e (auL (g.sub e he))
 .rw[<-e2]at m;obtain⟨p,hp,e5⟩:=atM.mp m;rw[<-e5];exact g.all p (by rw[List.take_length];exact hp)
theorem aeA(hu:X.A.units+65<cLine)(hc:X.calm=true):CallR X (.builtin "sorted") (RQ X.K X.w):=by
 intro pins s σ H vs us Q I r h;unfold RQ at h;obtain⟨a,L,rfl,ha,hL,nd,few,q⟩:=h;rw[Vals.ref1 r];obtain⟨hf,es,ep,t,⟨o,ho,hex,hd⟩,en,fit,ris,led⟩:aer X.w s.heap a L:=(I.hok a _ ha).1;have len:=Bo en;have ev:∀K:List Ent,(∀p∈K,p∈L)->PySem.W.EachIs (λv (r:Rw)=>(∃p∈L,v=Value.ref p.1/\r=p.2)/\∃as,Reads s.heap v (rD r) as) ((ents hf K).map (·.2)) (K.map Prod.snd):=by
  intro K
  induction K with
  |nil=>exact λ_=>.nil
  |cons p K ih=>
   intro hK;have hp:=hK p atD;exact .cons ⟨⟨p,hp,rfl,rfl⟩,Dp.reads I (rD p.2) (.ref p.1) (.ref p.1) (hL p hp) rfl⟩ (ih λx hx=>hK x (atA _ hx))
 refine QK (enc:=rD) (bs:=L.map Prod.snd) (I.ok.hd hc) ⟨o,ho,hex.1,hd⟩ fit (by unfold scanBound;omega) ris led (by rw[en];exact ev L λp hp=>hp) (auW Yh) (PySem.W.Sortable.tuples λb=>⟨_,_,rfl⟩) (λb _=>by rw[(afy b).2];omega) λs' p out c cs k g' o' hp hg pc eo=>?_;have mp:=auM cs (PySem.W.dataLe false rD);have ndm:(cs.mergeSort (PySem.W.dataLe false rD)).Nodup:=(mp.trans pc).nodup_iff.mpr nd;have srt:=auu (le:=PySem.W.dataLe false rD) (λa b c k1 k2=>by rw[Nv,au1]at *;exact List.le_trans k1 k2) (λa b=>by rw[Nv,Nv,auB,au1,au1];exact List.le_total _ _) cs;generalize cs.mergeSort (PySem.W.dataLe false rD)=M at mp ndm srt eo;obtain⟨ys,v1,v2⟩:=Yn out M eo;have up:Fv M:=by
  refine List.Pairwise.imp₂ (λa b h1 h2=>?_) srt ndm;rw[Nv,au1]at h1;by_cases c:rk a<rk b
  .exact c
  .exact absurd (Zx (List.le_antisymm h1 (List.not_lt.mp c))) h2
 have hfr:H p=none:=I.hok.fresh hp;have hlen:ys.length<=sizeLine:=by rw[v2.1,mp.length_eq,pc.length_eq,atJ,sizeLine_eq];omega
 have J:Inv X pins σ (upd H p (.lst ys)) { s with heap:=s'.heap,gens:=s'.gens,drawn:=s'.drawn,toks:=s'.toks }:=
  I.call (ch:=[]) (Un.laid k hp hfr) (I.hok.laid k hp ⟨hlen,out,c,v1,hg⟩) (by rw[g'];exact I.bare) (λ_ z=>nomatch z)
 have es':s'={ s with heap:=s'.heap,gens:=s'.gens,drawn:=s'.drawn,toks:=s'.toks }:=by cases s';cases s;cases o';rfl
 rw[es'];refine⟨.ref p,_,J,rfl,q ys M p (v2.imp λv r ⟨e,he,h1,h2⟩=>?_) up (λr=>(mp.trans pc).mem_iff) hfr⟩;subst h1 h2;exact hL e he
end
end Ear
namespace Rf
open PySem PySem.Spec PyProof.Rows L2 Evl
def adT:Dat->Option Ear.Rw
 |.tuple [.int o,.tuple ds]=>(intsOf ds).map λl=>(o,l)
 |_=>none
def DR:List Dat->Option (List Ear.Rw)
 |[]=>some []
 |d::ds=>(adT d).bind λr=>(DR ds).bind λrs=>some (r::rs)
theorem GD:∀{ds:List Dat} {l:List Int},intsOf ds=some l->ds=l.map PyData.int
 |[],l,h=>by cases h;rfl
 |.int i::ds,l,h=>by
  rw[intsOf,aun]at h;obtain⟨r,h1,rfl⟩:=h;rw[GD h1];rfl
 |.none::_,_,h=>by cases h
 |.bool _::_,_,h=>by cases h
 |.str _::_,_,h=>by cases h
 |.list _::_,_,h=>by cases h
 |.tuple _::_,_,h=>by cases h
 |.dict _::_,_,h=>by cases h
theorem ajx{d:Dat}{r:Ear.Rw}(h:adT d=some r):d=Ear.rD r:=by
 unfold adT at h;split at h
 .next o ds=>
  rw[aun]at h;obtain⟨l,h1,rfl⟩:=h;rw[GD h1];rfl
 .cases h
theorem RL:∀{ds:List Dat} {rs:List Ear.Rw},DR ds=some rs->ds=rs.map Ear.rD
 |[],_,h=>by cases h;rfl
 |d::ds,_,h=>by
  rw[DR]at h;obtain⟨r,h1,h⟩:=atv.mp h;obtain⟨rs,h2,h⟩:=atv.mp h;cases h;rw[ajx h1,RL h2];rfl
def rG(R:List Ear.Rw):List Ear.Rw:=R.mergeSort λa b=>decide (Ear.rk a<=Ear.rk b)
def sortI(l:List Int):List Int:=l.mergeSort λa b=>decide (a<=b)
def bf(R:List Ear.Rw):List Ear.Rw:=rG R.eraseDups
def Bs(l:List Int):List Int:=sortI l.eraseDups
theorem abE:∀(n:Nat) (l:List Int),lJ n (l.map PyData.int)=true:=λn l=>by
 induction l with
 |nil=>rfl
 |cons i l ih=>simp[lJ,okd,ih]
theorem Oj(n:Nat)(r:Ear.Rw):okd (n+2) (Ear.rD r)=true:=by unfold Ear.rD Ear.dT;simp[okd,lJ,abE]
theorem adq(n:Nat)(R:List Ear.Rw):lJ (n+2) (R.map Ear.rD)=true:=by
 induction R with
 |nil=>rfl
 |cons r R ih=>simp[lJ,Oj,ih]
def Bw:Dat->Out Dat
 |.list ds=>match intsOf ds with
  |some l=>.ok (.list ((sortI l).map PyData.int))
  |none=>match DR ds with
   |some R=>.ok (.list ((rG R).map Ear.rD))
   |none=>.bad
 |_=>.bad
def UW:Dat->Out Dat
 |.list ds=>match DR ds with
  |some R=>match decide (R.eraseDups.length<=76) with
   |true=>.ok (.list ((bf R).map Ear.rD))
   |false=>.bad
  |none=>.bad
 |_=>.bad
theorem Yc{β:Type}{enc:β->Dat}{le:β->β->Bool}(h:∀a b,PySem.W.dataLe false id (enc a) (enc b)=le a b)(l:List β):(l.map enc).mergeSort (PySem.W.dataLe false id)=(l.mergeSort le).map enc:=by rw[List.map_mergeSort (r:=le) (s:=PySem.W.dataLe false id) (λa _ b _=>(h a b).symm)]
theorem yc{α:Type}[BEq α][LawfulBEq α]{l:List α}{x:α}:x∈l.eraseDups↔x∈l:=by
 induction hn:l.length using Nat.strongRecOn generalizing l with
 |_ n ih=>
  cases l with
  |nil=>simp
  |cons a r=>
   rw[auN];simp only[atQ]at hn;have hl:(r.filter λb=>!b==a).length<=r.length:=atU _ _;rw[atO,ih _ (by omega) rfl,at4,atO];constructor
   .rintro(h|h)
    .exact .inl h
    .exact .inr h.1
   .rintro(h|h)
    .exact .inl h
    .by_cases e:x=a
     .exact .inl e
     .exact .inr ⟨h,by simpa using e⟩
theorem Gv{α:Type}[BEq α][LawfulBEq α]{l:List α}:l.eraseDups.Nodup:=by
 induction hn:l.length using Nat.strongRecOn generalizing l with
 |_ n ih=>
  cases l with
  |nil=>simp
  |cons a r=>
   rw[auN];simp only[atQ]at hn;have hl:(r.filter λb=>!b==a).length<=r.length:=atU _ _;refine auC.mpr ⟨λh=>?_,ih _ (by omega) rfl⟩;rw[yc,at4]at h;simpa using h.2
theorem fV{R:List Ear.Rw}{r:Ear.Rw}:r∈bf R↔r∈R:=by unfold bf rG;rw[List.mem_mergeSort,yc]
theorem Ln(R:List Ear.Rw):Ear.Fv (bf R):=by
 unfold Ear.Fv bf rG;have srt:=auu (le:=λa b:Ear.Rw=>decide (Ear.rk a<=Ear.rk b)) (λa b c k1 k2=>by rw[au1]at *;exact List.le_trans k1 k2) (λa b=>by rw[auB,au1,au1];exact List.le_total _ _) R.eraseDups;have nd:(R.eraseDups.mergeSort λa b=>decide (Ear.rk a<=Ear.rk b)).Nodup:=(auM _ _).nodup_iff.mpr Gv;refine List.Pairwise.imp₂ (λa b h1 h2=>?_) srt nd;rw[au1]at h1;by_cases c:Ear.rk a<Ear.rk b
 .exact c
 .exact absurd (Ear.Zx (List.le_antisymm h1 (List.not_lt.mp c))) h2
theorem Xd{l:List Int}{i:Int}:i∈Bs l↔i∈l:=by unfold Bs sortI;rw[List.mem_mergeSort,yc]
theorem Z0(l:List Int):(Bs l).Pairwise (· < ·):=by unfold Bs sortI;have srt:=auu (le:=λa b:Int=>decide (a<=b)) (λa b c k1 k2=>by rw[au1]at *;omega) (λa b=>by rw[auB,au1,au1];omega) l.eraseDups;have nd:(l.eraseDups.mergeSort λa b=>decide (a<=b)).Nodup:=(auM _ _).nodup_iff.mpr Gv;refine List.Pairwise.imp₂ (λa b h1 h2=>?_) srt nd;rw[au1]at h1;have:a≠b:=h2;omega
section
variable{K:atw}{g:Gh}{H:Hp}
theorem R6{xs:List V}{ds:List Dat}(h:aQ K g H xs ds):∀{ys:List V} {es:List Dat},Ear.fY (Ear.ahk xs ds) ys es->aQ K g H ys es
 |[],[],_=>.nil
 |[],_::_,z=>nomatch z.1
 |_::_,[],z=>nomatch z.1
 |y::ys,e::es,z=>by
  obtain⟨i,h1,h2⟩:=z.2 0 y e rfl rfl;obtain⟨d,h3,h4⟩:=h.get' h1;rw[h2]at h3;cases h3;exact .cons h4 (R6 h ⟨auy z.1,λi v x a b=>z.2 (i+1) v x a b⟩)
end
section
variable{X:Cx}{ak:aX}{W:WX}{a:Expr}{fa:QF}{p p2 pos pos2:Pos}
theorem aiR:Ml ak X.K W Bw (Ear.Ky X.K):=λσ g H x d Q k rx h=>by
 unfold Bw at h;split at h
 .next ds=>
  obtain⟨l,us,rfl,h1,h2⟩:=jG rx;unfold Ear.Ky;split at h
  .next ns hn=>
   have e:=GD hn;subst e;refine⟨l,us,ns.map PyData.int,rfl,h1,h2.dp (n:=12) (abE 12 ns),auW (λa b=>by simp[PySem.W.alike]),PySem.W.Sortable.others (λb=>⟨(λz=>nomatch z),λxs z=>nomatch z⟩),λd hd=>by
    obtain⟨i,_,rfl⟩:=atM.mp hd;simp[PyData.depth],λys q hy nq=>?_⟩
   have hs:=Yc (enc:=PyData.int) (le:=λa b:Int=>decide (a<=b)) (λa b=>congrFun (congrFun (PySem.W.dataLe_int (λk:Int=>k)) a) b) ns;rw[hs]at hy;exact h (.ref q) _ (Ex.new nq) (.lst (.inl ⟨.inl au7,k.fresh nq⟩) ((R6 h2 hy).ex (Ex.new nq) k))
  .split at h
   .next R hR=>
    have e:=RL hR;subst e;refine⟨l,us,R.map Ear.rD,rfl,h1,h2.dp (n:=12) (adq 10 R),auW Ear.Yh,PySem.W.Sortable.tuples (λb=>⟨_,_,rfl⟩),λd hd=>by
     obtain⟨i,_,rfl⟩:=atM.mp hd;rw[(Ear.afy i).2]
     decide,λys q hy nq=>?_⟩
    .have hs:=Yc (enc:=Ear.rD) (le:=λa b:Ear.Rw=>decide (Ear.rk a<=Ear.rk b)) (λa b=>by rw[<-Ear.Nv];rfl) R;rw[hs]at hy;exact h (.ref q) _ (Ex.new nq) (.lst (.inl ⟨.inl au7,k.fresh nq⟩) ((R6 h2 hy).ex (Ex.new nq) k))
   .exact au0 h
 .exact au0 h
theorem ajQ(hu:X.A.units+65<cLine)(hg:Gl X "sorted")(hm:X.mg "sorted"=none)(ha:QW ak X W a fa)(hs:nst a=true):QE ak X W (.Call (.Name "sorted" p) [a] [] pos) (eE Bw fa):=
 aik (.inl rfl) (Ear.adZ hu) aiR hg hm ⟨by decide +kernel,by decide,by decide⟩ ha hs
theorem adn{K:atw}{g:Gh}{H:Hp}:∀{vs:List V} {l:List Int},DpAll K H vs (l.map PyData.int)->aQ K g H vs (l.map PyData.int)
 |_,[],.nil=>.nil
 |_,_::_,.cons (.int i) t=>.cons (.int i) (adn t)
theorem afu{K:atw}{g:Gh}{H:Hp}{v:V}{r:Ear.Rw}(h:Ear.zp K H v r):Rep K g H v (Ear.rD r):=by
 unfold Ear.zp Ear.rD at h;cases h with
 |tup h1 t1=>
  cases t1 with
  |cons a1 t1=>
   cases a1;cases t1 with
   |cons a2 t2=>
    cases t2;cases a2 with
    |tup h2 t3=>exact .tup h1 (.cons (.int _) (.cons (.tup h2 (adn t3)) .nil))
theorem X3{K:atw}{g:Gh}{H:Hp}:∀{vs:List V} {R:List Ear.Rw},aQ K g H vs (R.map Ear.rD)->Ear.fY (Ear.zp K H) vs R
 |_,[],.nil=>⟨rfl,λi v x a b=>by simp at a⟩
 |_,r::R,.cons h t=>by
  have ih:=X3 t;refine⟨congrArg (· + 1) ih.1,λi v x a b=>?_⟩;cases i with
  |zero=>
   simp at a b;subst a b;exact h.dp (n:=12) (Oj 10 _)
  |succ i=>exact ih.2 i v x (by simpa using a) (by simpa using b)
theorem Yq{K:atw}{g:Gh}{H:Hp}:∀{vs:List V} {R:List Ear.Rw},Ear.fY (Ear.zp K H) vs R->aQ K g H vs (R.map Ear.rD)
 |[],[],_=>.nil
 |[],_::_,h=>nomatch h.1
 |_::_,[],h=>nomatch h.1
 |v::vs,r::R,h=>.cons (afu (h.2 0 v r rfl rfl)) (Yq ⟨auy h.1,λi v x a b=>h.2 (i+1) v x a b⟩)
theorem ako(hu:X.A.units+65<cLine)(hc:X.calm=true)(hg:Gl X "sorted")(hm:X.mg "sorted"=none)(hg2:Gl X "set")(hm2:X.mg "set"=none)(ha:QW ak X W a fa)(hs:nst a=true):QE ak X W (.Call (.Name "sorted" p) [.Call (.Name "set" p2) [a] [] pos2] [] pos) (eE UW fa):=by
 have h0:=pa_cons ha pa_nil (cP hs []);have h1:PE X (.Call (.Name "set" p2) [a] [] pos2) _:=pe_callTy (Ear.abI hu hc) hg2 hm2 (by decide +kernel) h0 (by decide) (by decide) (cP hs []) (by with_unfolding_all rfl)
 have h2:=pa_cons h1 pa_nil (cP rfl []);refine PE.weak (pe_callB (p:=p) (pos:=pos) (Ear.aeA hu hc) hg hm (by decide +kernel) h2 (by decide) (by decide) (cP rfl []) (by with_unfolding_all rfl)) λσ H Q ⟨g,Z,M,I,h⟩=>?_;refine tW.go I h.bnd λd v H1 h1 e1 r1=>?_;have I1:=I.ex e1;unfold UW at h1;split at h1
 .next ds=>
  split at h1
  .next R hR=>
   split at h1
   .next hd=>
    have e:=RL hR;subst e;obtain⟨l,us,rfl,s1,s2⟩:=jG r1;unfold Ear.Ol;refine⟨l,us,R,R.eraseDups,rfl,s1,X3 s2,au2 hd,λr hr=>yc.mpr hr,λq L nq hL nd mem few=>?_⟩;have eq:Ex H1 (upd H1 q (Ear.Px X.w q L)):=Ex.new nq;unfold Ear.RQ;refine⟨q,L,rfl,au7,λe he=>?_,nd,few,λys S z hy up ms nz=>?_⟩
    .exact(Rep.ex eq I1.kd (afu (g:=g) (hL e he))).dp (n:=12) (Oj 10 _)
    .have hS:S=bf R:=Ear.aeD up (Ln R) λr=>by rw[ms,mem,fV]
     subst hS;have I2:=I1.ex eq;exact h1 (.ref z) _ ((e1.trans eq).trans (Ex.new nz)) (.lst (.inl ⟨.inl au7,I2.kd.fresh nz⟩) ((Yq hy).ex (Ex.new nz) I2.kd))
   .exact au0 h1
  .exact au0 h1
 .exact au0 h1
def Ef(it:IF)(tg:gj)(vs:List Nat)(tt:QT)(te:QF):QF:=λM Z=>(zj it tg vs tt te M Z).bind λds=>match intsOf ds with
 |some l=>Out.when (decide (l.length<=4000)) (.ok (.list ((Bs l).map PyData.int)))
 |none=>.bad
theorem Uk{K:atw}{g:Gh}{H:Hp}:∀ns:List Int,aQ K g H (ns.map V.int) (ns.map PyData.int)
 |[]=>.nil
 |n::ns=>.cons (.int n) (Uk ns)
theorem adl{S T:List Int}(hs:S.Pairwise (· < ·))(ht:T.Pairwise (· < ·))(h:∀i,i∈S↔i∈T):S=T:=by
 induction S generalizing T with
 |nil=>
  cases T with
  |nil=>rfl
  |cons t T=>exact absurd ((h t).mpr atD) auc
 |cons s S ih=>
  cases T with
  |nil=>exact absurd ((h s).mp atD) auc
  |cons t T=>
   rw[List.pairwise_cons]at hs ht;have e:s=t:=by
    rcases atO.mp ((h s).mp atD) with e|e
    .exact e
    .rcases atO.mp ((h t).mpr atD) with e2|e2
     .exact e2.symm
     .have:=ht.1 s e;have:=hs.1 t e2;omega
   subst e;rw[ih hs.2 ht.2 λi=>?_];constructor
   .intro hi;rcases atO.mp ((h i).mp (atA _ hi)) with e|e
    .have:=hs.1 i hi;omega
    .exact e
   .intro hi;rcases atO.mp ((h i).mpr (atA _ hi)) with e|e
    .have:=ht.1 i hi;omega
    .exact e
theorem aeo{a b:List Dat}{l:List Int}(h:intsOf (a++b)=some l):∃x y,intsOf a=some x/\intsOf b=some y/\l=x++y:=by have e:=GD h;obtain⟨x,y,rfl,h1,h2⟩:=List.append_eq_map_iff.mp e;exact⟨x,y,by rw[<-h1,nR],by rw[<-h2,nR],rfl⟩
theorem anV{it:IF}{tg:gj}{js vs:List Nat}{tt:QT}{te:QF}(hj:∀j∈js,j∈vs)(σ:L2.St)(H:Hp)(Q:VK)(h:tQ X.K ak W (Ef it tg vs tt te) σ H Q) :
  tCB (Ear.Qu X.w) (tCons (Ear.alB X.w (tI X.K ak W false it) (zA X.K ak js tg) (jV X.K ak WF tt) (tQ X.K ak WF te) vs) tNil) σ H Q:=by
 obtain⟨g,Z,M,I,h⟩:=h;unfold Ef zj at h;have h:=h.bnd;refine⟨g,Z,M,I,h.bnd.mono (λds hk J C H1 e1 w c _ D nD=>?_) λ_ z=>z⟩;obtain⟨hz,hk⟩:=hk.rC;have hlen:=au2 hz;obtain⟨total,htot,hk⟩:∃total,cX tg tt te M (bY Z vs) ds=.ok total/\(match intsOf total with
   |some l=>Out.when (decide (l.length<=4000)) (Out.ok (PyData.list ((Bs l).map PyData.int)))
   |none=>Out.bad).sat (λd=>∀v H',Ex H H'->Rep X.K g H' v d->Q v H') (sU X.K ak W g H σ):=by
  cases hc:cX tg tt te M (bY Z vs) ds with
  |bad=>rw[hc]at hk;exact au0 hk
  |exc x=>exact absurd hc oM
  |ok total=>
   rw[hc]at hk;exact⟨total,rfl,hk⟩
 split at hk
 .next nums hnums=>
  obtain⟨hz2,hk⟩:=Out.sat.rC hk;have hlen2:=au2 hz2;have I1:=(I.ex e1).wipe vs;have kD:∀{Ha:Hp} {S:Int->Bool} {n:Nat},Ex H1 Ha->Ha D=some (SetO X.w D S n)->SInv X.K ak (L2.wipe σ vs) Ha (g.add D) (bY Z vs) M:=λea hu=>I1.add nD ea hu trivial
  let Pv:Nat->Hp->Prop:=λi Ha=>Ex H1 Ha/\i<=ds.length/\∃(S:Int->Bool) (n:Nat) (ys:List Int),Ha D=some (SetO X.w D S n)/\(∀j,S j=true↔j∈ys)/\n<=ys.length/\(cX tg tt te M (bY Z vs) (ds.drop i)).sat (λr=>total=ys.map PyData.int++r) λ_=>False
  refine⟨λi m Ha=>m=ds.length-i/\Pv i Ha,⟨ds.length,rfl,Ex.new nD,auo _,_,0,[],au7,λj=>by simp,at6 _,?_⟩,?_⟩
  .rw[auT,htot];rfl
  .rintro i m Ha ⟨rfl,ea,hi,S,n,ys,hu,hS,hn,hs⟩;have Ia:=kD ea hu;have Ca:=w.add g (g.add D) H1 Ha (I.kd.ex e1) c (Gh.Fj nD ea) ea;by_cases hlt:i<ds.length
   .refine .inr ⟨w.go _ i Ha Ca hlt,Pv (i+1),λH' p=>⟨ds.length-(i+1),by omega,rfl,p⟩,λx H' y=>?_⟩;have hd:ds[i]?=some ds[i]:=atz hlt;obtain⟨e2,rx⟩:=w.yld _ i Ha x H' _ Ia.kd Ca hd y;have I2:=Ia.ex e2;rw[aus hlt,cX]at hs;split at hs
    .exact au0 hs
    .next Z1 he=>
     refine⟨g.add D,_,M,_,Z1,I2,rx,he,λws I3=>⟨yP js ws _ vs hj |>.trans (Cq σ vs),?_⟩⟩;refine jV.go I3 (yO hs.bnd) λb H3 hb e3=>?_;have I4:=I3.ex e3;have hu3:=e3 _ _ (e2 _ _ hu);cases b with
     |false=>
      have hb:(cX tg tt te M (bY Z vs) (ds.drop (i+1))).sat (λr=>total=ys.map PyData.int++r) λ_=>False:=hb;exact⟨(ea.trans e2).trans e3,hlt,S,n,ys,hu3,hS,hn,hb⟩
     |true=>
      have hb:((zJ (te M Z1)).bind λy=>(cX tg tt te M (bY Z vs) (ds.drop (i+1))).bind λr=>Out.ok (y::r)).sat (λr=>total=ys.map PyData.int++r) λ_=>False:=hb;refine tQ.go I4 (yO hb.bnd) λy v H4 hyv e4 ry=>?_;have hu4:=e4 _ _ hu3;obtain⟨r,hr,ht⟩:∃r,cX tg tt te M (bY Z vs) (ds.drop (i+1))=.ok r/\total=ys.map PyData.int++y::r:=by
       cases hc:cX tg tt te M (bY Z vs) (ds.drop (i+1)) with
       |bad=>rw[hc]at hyv;exact au0 hyv
       |exc x=>exact absurd hc oM
       |ok r=>
        rw[hc]at hyv;exact⟨r,rfl,hyv⟩
      rw[ht]at hnums;obtain⟨xl,yl,q1,q2,q3⟩:=aeo hnums;cases y with
      |int kk=>
       cases ry;have hyl:ys.length<nums.length:=by
        rw[nR]at q1
        obtain rfl:ys=xl:=atY q1
        rw[intsOf,aun]at q2;obtain⟨z,_,rfl⟩:=q2;rw[q3];simp
       refine⟨kk,S,n,rfl,hu4,by unfold scanBound;omega,Ex.mut (((ea.trans e2).trans e3).trans e4) nD,hlt,_,_,ys++[kk],au7,λj=>?_,?_,?_⟩
       .simp[hS]
       .split<;>simp<;>omega
       .rw[hr];show total=_;rw[ht];simp
      |_=>cases q2
   .have e:i=ds.length:=by omega
    refine .inl ⟨w.stop _ i Ha Ca e,?_⟩;rw[e,auz]at hs;have hs:total=ys.map PyData.int++[]:=hs;rw[aur]at hs;rw[hs,nR]at hnums
    obtain rfl:ys=nums:=atY hnums
    unfold Ear.Qu;refine⟨D,S,n,rfl,hu,λns z up mem _ nz=>?_⟩;have hns:ns=Bs ys:=adl up (Z0 ys) λj=>by rw[mem,hS,Xd]
    subst hns;have ex:=(e1.trans ea).trans (Ex.new (o:=.lst ((Bs ys).map V.int)) nz);have kk:=(I.ex (e1.trans ea)).kd;exact hk (.ref z) _ ex (.lst (.inl ⟨.inl au7,kk.fresh nz⟩) (Uk _))
 .exact au0 hk
theorem agF{elt tg iter:Expr}{ifs:List Expr}{scope:Scope}{own:List (Str×Nat)}{it:IF}{tgf:gj}{js:List Nat}{tt:QT}{te:QF}(hu:X.A.units+65<cLine)(hc:X.calm=true)(hN:X.N.Nodup)(hg0:Gl X "sorted")(hm:X.mg "sorted"=none)(hi:QI ak X W false tg iter it)(ok:blkC X.N X.env.scope scope own=true)(hj:∀j∈js,j∈own.map (·.2))
  (hg:∀(s:Shared) (H:Hp) (C:Addr) (cl:List (Str×Addr)) (fp:List Addr),QG ak (X.blk s H scope (compEnvC scope cl C X.env) fp) tg js tgf)
  (ht:∀(s:Shared) (H:Hp) (C:Addr) (cl:List (Str×Addr)) (fp:List Addr),PTs (X.blk s H scope (compEnvC scope cl C X.env) fp) ifs (jV X.K ak WF tt))
  (he:∀(s:Shared) (H:Hp) (C:Addr) (cl:List (Str×Addr)) (fp:List Addr),QE ak (X.blk s H scope (compEnvC scope cl C X.env) fp) WF elt te) (hs:∀x,foldedSetIterable iter X.env x=pure x) :
  QE ak X W (.Call (.Name "sorted" p) [.SetComp elt [⟨tg,iter,ifs,0⟩] scope pos2] [] pos) (Ef it tgf (own.map (·.2)) tt te):=by
 have h1:=Ear.al5 (pos:=pos2) (g:=zA X.K ak js tgf) (tt:=jV X.K ak WF tt) (te:=tQ X.K ak WF te) hc hN hi (blkOk_by ok) (λs H C cl fp=>hg s H C cl fp) ht (λs H C cl fp=>he s H C cl fp) hs;have h2:=pa_cons h1 pa_nil (cP rfl []);exact PE.weak (pe_callB (p:=p) (pos:=pos) (Ear.afZ hu hc) hg0 hm (by decide +kernel) h2 (by decide) (by decide) (cP rfl []) (by with_unfolding_all rfl)) λσ H Q h=>anV hj σ H Q h
end
def BZ(Z:Env):Bool:=Z.all λo=>match o with
 |some (.mut _)=>false
 |_=>true
theorem aak{Z:Env}(h:BZ Z=true){i:Nat}{xs:List Dat}:Z[i]?≠some (some (.mut xs)):=λz=>by
 have:=at7.mp h _ (atG z);cases this
theorem SInv.loc{K:atw}{ak:aX}{σ:L2.St}{H:Hp}{g:Gh}{Z:Env}{M:Mo}{D:Addr}{us us':List V}(I:SInv K ak σ H g Z M)(n:BZ Z=true)(hD:H D=some (.lst us))(lo:g.Lo D):SInv K ak σ (upd H D (.lst us')) g Z M where
 kd:=I.kd.upd trivial
 wok:=I.wok.loc I.kd hD lo
 len:=I.len
 dat:=λi d h=>by
  obtain⟨v,h1,h2⟩:=I.dat i d h;exact⟨v,h1,ajy I.kd hD lo h2⟩
 own:=λi xs h=>absurd h (aak n)
 sep:=λi j xs ys l ne h1=>absurd h1 (aak n)
def jd(tg:gj)(tt:QT)(it1:IF)(tg1:gj)(vs1:List Nat)(tt1:QT)(te:QF)(M:Mo)(Z:Env):List Dat->Out (List Dat)
 |[]=>.ok []
 |d::ds=>match tg d Z with
  |none=>.bad
  |some Z1=>(zJ (tt M Z1)).bind λb=>if b=true then Out.when (BZ Z1) ((zJ (it1 M Z1)).bind λes=>(cX tg1 tt1 te M (bY Z1 vs1) es).bind λr1=>(jd tg tt it1 tg1 vs1 tt1 te M Z ds).bind λr=>.ok (r1++r)) else jd tg tt it1 tg1 vs1 tt1 te M Z ds
def acs(it:IF)(tg:gj)(vs:List Nat)(tt:QT)(it1:IF)(tg1:gj)(vs1:List Nat)(tt1:QT)(te:QF):IF:=λM Z=>(it M Z).bind λds=>(jd tg tt it1 tg1 vs1 tt1 te M (bY Z vs) ds).bind λr=>Out.when (decide (r.length<=50000)) (.ok r)
def FZ(it:IF)(tg:gj)(vs:List Nat)(tt:QT)(it1:IF)(tg1:gj)(vs1:List Nat)(tt1:QT)(te:QF):QF:=λM Z=>(acs it tg vs tt it1 tg1 vs1 tt1 te M Z).bind λr=>.ok (.list r)
theorem zU{tg tg1:gj}{tt tt1:QT}{te:QF}{it1:IF}{vs1:List Nat}{M:Mo}{Z:Env}:∀{ds:List Dat} {x:eX},jd tg tt it1 tg1 vs1 tt1 te M Z ds≠.exc x
 |[],_,h=>nomatch h
 |d::ds,x,h=>by
  rw[jd]at h;split at h
  .cases h
  .next Z1 e=>
   cases h1:tt M Z1 with
   |bad=>rw[h1]at h;cases h
   |exc y=>rw[h1]at h;cases h
   |ok b=>
    rw[h1]at h;cases b with
    |false=>exact zU (ds:=ds) (x:=x) h
    |true=>
     cases hn:BZ Z1 with
     |false=>rw[hn]at h;cases h
     |true=>
      rw[hn]at h;cases h2:it1 M Z1 with
      |bad=>rw[h2]at h;cases h
      |exc y=>rw[h2]at h;cases h
      |ok es=>
       rw[h2]at h;have h:((cX tg1 tt1 te M (bY Z1 vs1) es).bind λr1=>(jd tg tt it1 tg1 vs1 tt1 te M Z ds).bind λr=>Out.ok (r1++r))=.exc x:=h;cases h3:cX tg1 tt1 te M (bY Z1 vs1) es with
       |bad=>rw[h3]at h;cases h
       |exc y=>exact absurd h3 oM
       |ok r1=>
        rw[h3]at h;have h:((jd tg tt it1 tg1 vs1 tt1 te M Z ds).bind λr=>Out.ok (r1++r))=.exc x:=h;cases h4:jd tg tt it1 tg1 vs1 tt1 te M Z ds with
        |bad=>rw[h4]at h;cases h
        |exc y=>exact absurd h4 zU
        |ok r=>rw[h4]at h;cases h
section
variable{K:atw}{ak:aX}{W:WX}
theorem aiL{it it1:IF}{tg tg1:gj}{js vs js1 vs1:List Nat}{tt tt1:QT}{te:QF}(hj:∀j∈js,j∈vs)(hj1:∀j∈js1,j∈vs1)(σ:L2.St)(H:Hp)(Q:VK)(h:tFr K ak W (acs it tg vs tt it1 tg1 vs1 tt1 te) σ H Q) :
  tLc2 (tI K ak W false it) (zA K ak js tg) (jV K ak WF tt) (tI K ak WF true it1) (zA K ak js1 tg1) (jV K ak WF tt1) (tQ K ak WF te) vs vs1 σ H Q:=by
 obtain⟨g,Z,M,I,h⟩:=h;refine⟨g,Z,M,I,h.bnd.mono (λds hk J C H1 e1 w c _ D nD=>?_) λ_ z=>z⟩;obtain⟨total,htot,hlen,hQ⟩:∃total,jd tg tt it1 tg1 vs1 tt1 te M (bY Z vs) ds=.ok total/\total.length<=50000/\∀l us H',H l=none->Ex H H'->H' l=some (.lst us)->aQ K (g.add l) H' us total->Q (.ref l) H':=by
  cases hc:jd tg tt it1 tg1 vs1 tt1 te M (bY Z vs) ds with
  |bad=>rw[hc]at hk;exact au0 hk
  |exc x=>exact absurd hc zU
  |ok total=>
   rw[hc]at hk;obtain⟨hz,hk⟩:=Out.sat.rC hk;exact⟨total,rfl,au2 hz,hk⟩
 have I1:=(I.ex e1).wipe vs;have kD:∀{Ha:Hp} {us:List V},Ex H1 Ha->Ha D=some (.lst us)->SInv K ak (L2.wipe σ vs) Ha (g.add D) (bY Z vs) M:=λea hu=>I1.add nD ea hu trivial;have lD:(g.add D).Lo D:=.inr rfl
 let Pv:Nat->Hp->Prop:=λi Ha=>Ex H1 Ha/\i<=ds.length/\∃us ys,Ha D=some (.lst us)/\aQ K (g.add D) Ha us ys/\(jd tg tt it1 tg1 vs1 tt1 te M (bY Z vs) (ds.drop i)).sat (λr=>total=ys++r) λ_=>False
 refine⟨λi m Ha=>m=ds.length-i/\Pv i Ha,⟨ds.length,rfl,Ex.new nD,auo _,[],[],au7,.nil,?_⟩,?_⟩
 .rw[auT,htot];rfl
 .rintro i m Ha ⟨rfl,ea,hi,us,ys,hu,hU,hs⟩;have Ia:=kD ea hu;have Ca:=w.add g (g.add D) H1 Ha (I.kd.ex e1) c (Gh.Fj nD ea) ea;by_cases hlt:i<ds.length
  .refine .inr ⟨w.go _ i Ha Ca hlt,Pv (i+1),λH' p=>⟨ds.length-(i+1),by omega,rfl,p⟩,λx H' y=>?_⟩;have hd:ds[i]?=some ds[i]:=atz hlt;obtain⟨e2,rx⟩:=w.yld _ i Ha x H' _ Ia.kd Ca hd y;have I2:=Ia.ex e2;rw[aus hlt,jd]at hs;split at hs
   .exact au0 hs
   .next Z1 he=>
    refine⟨g.add D,_,M,_,Z1,I2,rx,he,λws I3=>⟨yP js ws _ vs hj |>.trans (Cq σ vs),?_⟩⟩;refine jV.go I3 (yO hs.bnd) λb H3 hb e3=>?_;have I4:=I3.ex e3;have hu3:=e3 _ _ (e2 _ _ hu);have hU3:=(hU.ex e2 Ia.kd).ex e3 I2.kd;cases b with
    |false=>
     have hb:(jd tg tt it1 tg1 vs1 tt1 te M (bY Z vs) (ds.drop (i+1))).sat (λr=>total=ys++r) λ_=>False:=hb;exact⟨(ea.trans e2).trans e3,hlt,us,ys,hu3,hU3,hb⟩
    |true=>
     have hb:(Out.when (BZ Z1) ((zJ (it1 M Z1)).bind λes=>(cX tg1 tt1 te M (bY Z1 vs1) es).bind λr1=>(jd tg tt it1 tg1 vs1 tt1 te M (bY Z vs) (ds.drop (i+1))).bind λr=>Out.ok (r1++r))).sat (λr=>total=ys++r) λ_=>False:=hb;obtain⟨nm,hb⟩:=hb.rC;refine⟨g.add D,Z1,M,I4,(yO (E':=sU K ak WF (g.add D) H3 _) hb.bnd).mono (λes hk1 J1 C1 H4 e4 w1 c1 fm=>?_) λ_ z=>z⟩;have fm:=fm rfl
     -- all that is added by this walk
     obtain⟨r1,r2,hr1,hr2,ht⟩:∃r1 r2,cX tg1 tt1 te M (bY Z1 vs1) es=.ok r1/\jd tg tt it1 tg1 vs1 tt1 te M (bY Z vs) (ds.drop (i+1))=.ok r2/\total=ys++(r1++r2):=by
      cases q1:cX tg1 tt1 te M (bY Z1 vs1) es with
      |bad=>rw[q1]at hk1;exact au0 hk1
      |exc y=>exact absurd q1 oM
      |ok r1=>
       rw[q1]at hk1;have hk1:((jd tg tt it1 tg1 vs1 tt1 te M (bY Z vs) (ds.drop (i+1))).bind λr=>Out.ok (r1++r)).sat (λr=>total=ys++r) λ_=>False:=hk1;cases q2:jd tg tt it1 tg1 vs1 tt1 te M (bY Z vs) (ds.drop (i+1)) with
       |bad=>rw[q2]at hk1;exact au0 hk1
       |exc y=>exact absurd q2 zU
       |ok r2=>
        rw[q2]at hk1;exact⟨r1,r2,rfl,rfl,hk1⟩
     let P1:Nat->Hp->Prop:=λj Hb=>Ex H1 Hb/\SInv K ak (sets (L2.wipe σ vs) js ws) Hb (g.add D) Z1 M/\C1 (g.add D) Hb/\j<=es.length/\∃us' zs,Hb D=some (.lst us')/\aQ K (g.add D) Hb us' (ys++zs)/\(cX tg1 tt1 te M (bY Z1 vs1) (es.drop j)).sat (λr=>r1=zs++r) λ_=>False
     refine⟨λj m Hb=>m=es.length-j/\P1 j Hb,⟨es.length,rfl,((ea.trans e2).trans e3).trans e4,I4.ex e4,c1,auo _,us,[],e4 _ _ hu3,by rw[aur];exact hU3.ex e4 I4.kd,?_⟩,?_⟩
     .rw[auT,hr1];rfl
     .rintro j m Hb ⟨rfl,fb,Ib,Cb,hjl,us',zs,hub,hUb,hsb⟩;by_cases hlj:j<es.length
      .refine .inr ⟨w1.go _ j Hb Cb hlj,P1 (j+1),λH' p=>⟨es.length-(j+1),by omega,rfl,p⟩,λx H' y=>?_⟩;have hdj:es[j]?=some es[j]:=atz hlj;obtain⟨f2,rx⟩:=w1.yld _ j Hb x H' _ Ib.kd Cb hdj y;have J2:=(Ib.ex f2).wipe vs1;rw[aus hlj,cX]at hsb;split at hsb
       .exact au0 hsb
       .next Z2 he1=>
        refine⟨g.add D,_,M,_,Z2,J2,rx,he1,λws1 J3=>⟨yP js1 ws1 _ vs1 hj1 |>.trans (Cq _ vs1),?_⟩⟩;refine jV.go J3 (yO hsb.bnd) λb H6 hb6 e6=>?_;have f26:=f2.trans e6;have hu6:=f26 _ _ hub;have hU6:=hUb.ex f26 Ib.kd;cases b with
        |false=>
         have hb6:(cX tg1 tt1 te M (bY Z1 vs1) (es.drop (j+1))).sat (λr=>r1=zs++r) λ_=>False:=hb6;exact⟨fb.trans f26,Ib.ex f26,w1.ex _ _ _ Ib.kd Cb f26,hlj,us',zs,hu6,hU6,hb6⟩
        |true=>
         have hb6:((zJ (te M Z2)).bind λy=>(cX tg1 tt1 te M (bY Z1 vs1) (es.drop (j+1))).bind λr=>Out.ok (y::r)).sat (λr=>r1=zs++r) λ_=>False:=hb6;refine tQ.go (J3.ex e6) (yO hb6.bnd) λy v H7 hyv e7 ry=>?_;have f27:=f26.trans e7;have Ib7:=Ib.ex f27;have hu7:=f27 _ _ hub;have hU7:=hUb.ex f27 Ib.kd;have hyv:=hyv.bnd;have hr:∃r,cX tg1 tt1 te M (bY Z1 vs1) (es.drop (j+1))=.ok r/\r1=zs++y::r:=by
          cases q1:cX tg1 tt1 te M (bY Z1 vs1) (es.drop (j+1)) with
          |bad=>rw[q1]at hyv;exact au0 hyv
          |exc y=>exact absurd q1 oM
          |ok r=>
           rw[q1]at hyv;exact⟨r,rfl,hyv⟩
         obtain⟨r,hr,hr1'⟩:=hr;have hll:us'.length<50000:=by
          rw[hUb.length];rw[ht,hr1']at hlen;simp at hlen |-
          omega
         refine⟨us',hu7,sz_lt (Nat.lt_trans hll (by decide)),Ex.mut (fb.trans f27) nD,Ib7.loc nm hu7 lD,fm true _ _ _ _ Ib7.kd (w1.ex _ _ _ Ib.kd Cb f27) (Gr.upd Ib7.kd hu7 (.inr lD)),hlj,us'++[v],zs++[y],au7,?_,?_⟩
         .rw[<-List.append_assoc];exact abh Ib7.kd hu7 lD (hU7.append (.cons ry .nil))
         .rw[hr];show r1=_;rw[hr1'];simp
      .have e:j=es.length:=by omega
       refine .inl ⟨w1.stop _ j Hb Cb e,?_⟩;rw[e,auz]at hsb;have hsb:r1=zs++[]:=hsb;rw[aur]at hsb;subst hsb;refine⟨fb,hlt,us',ys++r1,hub,hUb,?_⟩;rw[hr2];show total=_;rw[ht,List.append_assoc]
  .have e:i=ds.length:=by omega
   refine .inl ⟨w.stop _ i Ha Ca e,?_⟩;rw[e,auz]at hs;have hs:total=ys++[]:=hs;rw[aur]at hs;subst hs;exact hQ D us Ha (FT e1 D nD) (e1.trans ea) hu hU
theorem afJ{it it1:IF}{tg tg1:gj}{js vs js1 vs1:List Nat}{tt tt1:QT}{te:QF}(hj:∀j∈js,j∈vs)(hj1:∀j∈js1,j∈vs1)(σ:L2.St)(H:Hp)(Q:VK)(h:tQ K ak W (FZ it tg vs tt it1 tg1 vs1 tt1 te) σ H Q) :
  tLc2 (tI K ak W false it) (zA K ak js tg) (jV K ak WF tt) (tI K ak WF true it1) (zA K ak js1 tg1) (jV K ak WF tt1) (tQ K ak WF te) vs vs1 σ H Q:=by
 obtain⟨g,Z,M,I,h⟩:=h;refine aiL hj hj1 σ H Q ⟨g,Z,M,I,h.bnd.mono (λxs hk l us H' nl e hl r=>?_) λ_ z=>z⟩;refine hk (.ref l) H' e (.lst (.inl ⟨.inl hl,λz=>?_⟩) (aQ.less (g:=g.add l) (g':=g) rfl (λa z=>?_) r))
 .exact I.kd.fresh nl z
 .rcases z with z|z|z
  .exact .inl z
  .exact .inr (.inl z)
  .exact .inr (.inr (.inl z))
end
section
variable{X:Cx}{ak:aX}{W:WX}{q:Bool}{elt tg iter tg1 iter1:Expr}{ifs ifs1:List Expr}{scope:Scope}{own:List (Str×Nat)}{it it1:IF}{tgf tgf1:gj}{js js1 vs1:List Nat}{tt tt1:QT}{te:QF}{pos cpos:Pos}
theorem ams(hc:X.calm=true)(hN:X.N.Nodup)(hi:QI ak X W false tg iter it)(ok:blkC X.N X.env.scope scope own=true)(hv:∀i∈vs1,i∈own.map (·.2))(hj:∀j∈js,j∈own.map (·.2))(hj1:∀j∈js1,j∈vs1)
  (hg:∀(s:Shared) (H:Hp) (C:Addr) (cl:List (Str×Addr)) (fp:List Addr),QG ak (X.blk s H scope (compEnvC scope cl C X.env) fp) tg js tgf)
  (ht:∀(s:Shared) (H:Hp) (C:Addr) (cl:List (Str×Addr)) (fp:List Addr),PTs (X.blk s H scope (compEnvC scope cl C X.env) fp) ifs (jV X.K ak WF tt))
  (hi1:∀(s:Shared) (H:Hp) (C:Addr) (cl:List (Str×Addr)) (fp:List Addr),QI ak (X.blk s H scope (compEnvC scope cl C X.env) fp) WF true tg1 iter1 it1)
  (hg1:∀(s:Shared) (H:Hp) (C:Addr) (cl:List (Str×Addr)) (fp:List Addr),QG ak (X.blk s H scope (compEnvC scope cl C X.env) fp) tg1 js1 tgf1)
  (ht1:∀(s:Shared) (H:Hp) (C:Addr) (cl:List (Str×Addr)) (fp:List Addr),PTs (X.blk s H scope (compEnvC scope cl C X.env) fp) ifs1 (jV X.K ak WF tt1))
  (he:∀(s:Shared) (H:Hp) (C:Addr) (cl:List (Str×Addr)) (fp:List Addr),QE ak (X.blk s H scope (compEnvC scope cl C X.env) fp) WF elt te) (hs:∀x,foldedSetIterable iter X.env x=pure x) (hs1:∀env x,foldedSetIterable iter1 env x=pure x) :
  QE ak X W (.ListComp elt [⟨tg,iter,ifs,0⟩,⟨tg1,iter1,ifs1,0⟩] scope pos) (FZ it tgf (own.map (·.2)) tt it1 tgf1 vs1 tt1 te):=
 PE.weak (pe_lc2 (g:=zA X.K ak js tgf) (tt:=jV X.K ak WF tt) (wi1:=tI X.K ak WF true it1) (g1:=zA X.K ak js1 tgf1) (tt1:=jV X.K ak WF tt1) (te:=tQ X.K ak WF te) hc hN hi (blkOk_by ok) hv (λs H C cl fp=>hg s H C cl fp) ht (λs H C cl fp=>hi1 s H C cl fp) (λs H C cl fp=>hg1 s H C cl fp) ht1 (λs H C cl fp=>he s H C cl fp) hs hs1) λσ H Q h=>afJ hj hj1 σ H Q h
theorem akk{j:Nat}{y:Str}{py:Pos}(hc:X.calm=true)(hN:X.N.Nodup)(hy:X.N[j]?=some y)(hyl:X.env.scope.names.lookup y=some .local)(hsw:swapsWith (.ListComp elt [⟨tg,iter,ifs,0⟩,⟨tg1,iter1,ifs1,0⟩] scope cpos) (some (.Name y py)) pos.line X.env=pure true)
  (hi:QI ak X W false tg iter it) (ok:blkC X.N X.env.scope scope own=true) (hv:∀i∈vs1,i∈own.map (·.2)) (hj:∀j∈js,j∈own.map (·.2)) (hj1:∀j∈js1,j∈vs1)
  (hg:∀(s:Shared) (H:Hp) (C:Addr) (cl:List (Str×Addr)) (fp:List Addr),QG ak (X.blk s H scope (compEnvC scope cl C X.env) fp) tg js tgf)
  (ht:∀(s:Shared) (H:Hp) (C:Addr) (cl:List (Str×Addr)) (fp:List Addr),PTs (X.blk s H scope (compEnvC scope cl C X.env) fp) ifs (jV X.K ak WF tt))
  (hi1:∀(s:Shared) (H:Hp) (C:Addr) (cl:List (Str×Addr)) (fp:List Addr),QI ak (X.blk s H scope (compEnvC scope cl C X.env) fp) WF true tg1 iter1 it1)
  (hg1:∀(s:Shared) (H:Hp) (C:Addr) (cl:List (Str×Addr)) (fp:List Addr),QG ak (X.blk s H scope (compEnvC scope cl C X.env) fp) tg1 js1 tgf1)
  (ht1:∀(s:Shared) (H:Hp) (C:Addr) (cl:List (Str×Addr)) (fp:List Addr),PTs (X.blk s H scope (compEnvC scope cl C X.env) fp) ifs1 (jV X.K ak WF tt1))
  (he:∀(s:Shared) (H:Hp) (C:Addr) (cl:List (Str×Addr)) (fp:List Addr),QE ak (X.blk s H scope (compEnvC scope cl C X.env) fp) WF elt te) (hs:∀x,foldedSetIterable iter X.env x=pure x) (hs1:∀env x,foldedSetIterable iter1 env x=pure x) :
  SE ak X W q (.Assign [.Name y py] (.ListComp elt [⟨tg,iter,ifs,0⟩,⟨tg1,iter1,ifs1,0⟩] scope cpos) pos) (aZ (aF j) (gOf (FZ it tgf (own.map (·.2)) tt it1 tgf1 vs1 tt1 te))):=by
 refine PS.weak (ps_setLc2 (g:=zA X.K ak js tgf) (tt:=jV X.K ak WF tt) (wi1:=tI X.K ak WF true it1) (g1:=zA X.K ak js1 tgf1) (tt1:=jV X.K ak WF tt1) (te:=tQ X.K ak WF te) hc hN hy hyl hsw hi (blkOk_by ok) hv (λs H C cl fp=>hg s H C cl fp) ht (λs H C cl fp=>hi1 s H C cl fp) (λs H C cl fp=>hg1 s H C cl fp) ht1 (λs H C cl fp=>he s H C cl fp) hs hs1) λD σ H ⟨g,Z,M,I,z⟩=>?_;refine afJ hj hj1 σ H _ ⟨g,Z,M,I,(Out.jF (dN (σ:=σ) z)).mono (λd kk v H' e r=>?_) λx kk H' c dd e r=>kk H' g c dd (Gr.ex e) (I.ex e) r⟩;exact kk _ H' g (Gr.ex e) ((I.ex e).set r)
end
def V6(neg:Bool)(kvs:List (Str×Dat))(k:QF):QF:=λM Z=>(k M Z).bind λd=>match d with
 |.str x=>.ok (.bool (neg ^^ (kvs.lookup x).isSome))
 |_=>.bad
def adB(kvs:List (Str×Dat))(k:QF):QF:=λM Z=>(k M Z).bind λd=>match d with
 |.str x=>match kvs.lookup x with
  |some y=>.ok y
  |none=>.bad
 |_=>.bad
section
variable{X:Cx}{ak:aX}{W:WX}{a:Expr}{fa:QF}{x:Str}{p pos:Pos}{kvs:List (Str×Dat)}{k:Nat}
theorem afU{neg:Bool}{d:Addr}(D:adN X.w X.K d kvs)(σ:L2.St)(H:Hp)(Q:VK)(h:tQ X.K ak W (V6 neg kvs fa) σ H Q) :
  tOp (λx y H Q=>∃(z:Str) (r:Option Value),x=.str z/\y=.ref d/\PySem.W.nsIn X.K d z=some r/\Q (.bl (neg ^^ r.isSome)) H) (tW X.K ak W fa) (tC (.ref d)) σ H Q:=by
 obtain⟨g,Z,M,I,h⟩:=h;refine tW.go I h.bnd λe v H1 h1 e1 r1=>?_;split at h1
 .next z=>
  cases lE r1;obtain⟨es,n,_,_,hl⟩:=D;have hz:=hl z;cases hk:kvs.lookup z with
  |none=>
   rw[hk]at hz h1;exact⟨z,none,rfl,rfl,hz,h1 _ H1 e1 (.bl _)⟩
  |some d'=>
   rw[hk]at hz h1;obtain⟨v,u,h2,_⟩:=hz;exact⟨z,some u,rfl,rfl,h2,h1 _ H1 e1 (.bl _)⟩
 .exact au0 h1
theorem opG{neg:Bool}{op:CmpOp}{d:Addr}(hn:(op=.In/\neg=false)\/(op=.NotIn/\neg=true))(D:adN X.w X.K d kvs):OpR X (compareOp op) (λx y H Q=>∃(z:Str) (r:Option Value),x=.str z/\y=.ref d/\PySem.W.nsIn X.K d z=some r/\Q (.bl (neg ^^ r.isSome)) H):=by
 obtain⟨es,n,D,_⟩:=D;rcases hn with⟨rfl,rfl⟩|⟨rfl,rfl⟩
 .have:=op_in_kd (X:=X) D;simpa only[Bool.false_xor] using this
 .have:=op_notIn_kd (X:=X) D;simpa only[Bool.true_xor] using this
theorem am9{neg:Bool}{op:CmpOp}(hn:(op=.In/\neg=false)\/(op=.NotIn/\neg=true))(g:bh X.prog X.w X.K X.mg X.base ak k x (.dic kvs))(hg:Gl X x)(hd:(x==("__debug__" : Str))=false)(ha:QW ak X W a fa):QE ak X W (.Compare a [op] [.Name x p] pos) (V6 neg kvs fa)/\u6 ak X W (.Compare a [op] [.Name x p] pos) (aW (V6 neg kvs fa)):=by obtain⟨d,hm,D⟩:=g;have hb:PE X (.Name x p) (tC (.ref d)):=pe_glob hg hm rfl hd;refine⟨PE.weak (pe_cmpR (opG hn D) ha hb (by cases op<;>rfl)) λσ H Q h=>afU D σ H Q h,PT.weak (pt_cmpR (opG hn D) ha hb (by cases op<;>rfl)) λσ H Q ⟨g,Z,M,I,h⟩=>?_⟩;refine afU D σ H _ ⟨g,Z,M,I,h.bnd.mono (λd h1 v H' e' r'=>?_) λ_ z=>z⟩;obtain⟨k,h2,h3⟩:=GP r'.weak h1;exact⟨k,h2,h3 H' e'⟩
theorem akH(g:bh X.prog X.w X.K X.mg X.base ak k x (.dic kvs))(hg:Gl X x)(hd:(x==("__debug__" : Str))=false)(ha:QW ak X W a fa)(hp:PlainIx a):QE ak X W (.Subscript (.Name x p) a pos) (adB kvs fa):=by
 obtain⟨d,hm,es,n,D,_,hl⟩:=g;have hb:PE X (.Name x p) (tC (.ref d)):=pe_glob hg hm rfl hd;refine PE.weak (pe_ix ix_kdict hb ha hp) λσ H Q ⟨g,Z,M,I,h⟩=>?_;refine tW.go I h.bnd λe v H1 h1 e1 r1=>?_;split at h1
 .next z=>
  cases lE r1;have hz:=hl z;split at h1
  .next y hk=>
   rw[hk]at hz;obtain⟨v,u,h2,h3,h4⟩:=hz;exact⟨d,z,v,rfl,rfl,⟨es,n,u,D.at_,D.lit,h2,h3⟩,h1 v H1 e1 (h4 g H1)⟩
  .exact au0 h1
 .exact au0 h1
end
structure Hs where
 Ms:List (Str×List (Str×MV))
 ft:Ft
 xm:List (Str×List (Str×Bool))
 df:List (Str×Bool)
 xf:List (Str×List Str)
structure Vz(P:Program)(w:World)(K:atw)(mg:Str->Option Value)(base:Heap)(ak:aX)(k:Nat)(h:Hs):Prop where
 ms:∀m tb,h.Ms.lookup m=some tb->∀c v,tb.lookup c=some v->cC P w K mg base ak k c m v
 fk:Ph h.ft ak
 co:j5 K ak
 hw:ak.w=w
 xm:∀y tab,h.xm.lookup y=some tab->(∃D,ak y=some D)/\aei K ak y λx=>tab.lookup x
 xf:∀y fs,h.xf.lookup y=some fs->∃C,ak y=some C/\XfC K C/\∀f∈fs,PySem.W.findIn K (.ref C) f=some none
structure Tc where
 N:List Str
 sc:Scope
 G:List (Str×GV)
 B:List Str
 hs:Hs
 ml:List Str
 top:Bool
structure Amb(ak:aX)(c:Tc)(X:Cx)(W:WX)(k:Nat):Prop where
 hN:X.N=c.N
 hs:X.env.scope=c.sc
 calm:X.calm=true
 nd:X.N.Nodup
 tk:Takes X W
 rm:Room k X.A
 gl:∀x v,c.G.lookup x=some v->bh X.prog X.w X.K X.mg X.base ak k x v
 bl:∀x,x∈c.B->X.mg x=none
 fn:c.top=true->∀x,X.fn x=true
 hk:Vz X.prog X.w X.K X.mg X.base ak k c.hs
def gd{α:Type}(b:Bool)(o:Option α):Option α:=match b with
 |true=>o
 |false=>none
theorem bA{α:Type}{b:Bool}{o:Option α}{x:α}:gd b o=some x↔b=true/\o=some x:=by
 cases b
 .exact⟨λh=>(nomatch h),λh=>(nomatch h.1)⟩
 .exact⟨λh=>⟨rfl,h⟩,λh=>h.2⟩
def idx:List Str->Str->Option Nat
 |[],_=>none
 |y::ys,x=>match y==x with
  |true=>some 0
  |false=>(idx ys x).map (· + 1)
theorem JC:∀{N:List Str} {x:Str} {i:Nat},idx N x=some i->N[i]?=some x
 |[],_,_,h=>nomatch h
 |y::ys,x,i,h=>by
  rw[idx]at h;split at h
  .next e=>
   cases h;rw[List.getElem?_cons_zero,au8 e]
  .rw[aun]at h;obtain⟨j,h1,rfl⟩:=h;rw[List.getElem?_cons_succ];exact JC h1
def ag4(sc:Scope)(x:Str):Bool:=match sc.names.lookup x with
 |some .local=>true
 |some .cell=>true
 |some .free=>true
 |_=>false
theorem ai2{sc:Scope}{x:Str}(h:ag4 sc x=true):Vis sc x:=by
 unfold ag4 at h;unfold Vis;split at h
 .next e=>exact .inl e
 .next e=>exact .inr (.inl e)
 .next e=>exact .inr (.inr e)
 .cases h
def Jx(x:Str):Bool:=(x==("__debug__" : Str)) || (x==("__classdict__" : Str))
theorem vo{x:Str}(h:Jx x=false):(x==("__debug__" : Str))=false/\(x==("__classdict__" : Str))=false:=by unfold Jx at h;rw[Bool.or_eq_false_iff]at h;exact h
def Ju(sc:Scope)(x:Str):Bool:=match sc.names.lookup x with
 |some .globalImplicit=>true
 |_=>false
def Oq(c:Tc)(x:Str):Option Nat:=gd (ag4 c.sc x&&!Jx x) (idx c.N x)
def alQ(c:Tc)(x:Str):Bool:=match c.sc.names.lookup x with
 |some .local=>true
 |some .cell=>c.top
 |_=>false
def yr(c:Tc)(x:Str):Option Nat:=gd (alQ c x) (idx c.N x)
section
variable{ak:aX}{c:Tc}{X:Cx}{W:WX}{k:Nat}{x:Str}{i:Nat}
theorem vq(a:Amb ak c X W k)(h:Ju c.sc x=true):Gl X x:=by
 unfold Ju at h;unfold Gl PySem.Env.kindOf;rw[a.hs];split at h
 .assumption
 .cases h
theorem CN(a:Amb ak c X W k)(h:Oq c x=some i):X.N[i]?=some x/\Vis X.env.scope x/\(x==("__debug__" : Str))=false/\(x==("__classdict__" : Str))=false:=by obtain⟨h1,h2⟩:=bA.mp h;rw[atx]at h1;obtain⟨d1,d2⟩:=vo (by simpa using h1.2);exact⟨by rw[a.hN];exact JC h2,by rw[a.hs];exact ai2 h1.1,d1,d2⟩
theorem pB(a:Amb ak c X W k)(h:yr c x=some i):X.N[i]?=some x/\L2.Loc X.env.scope x/\(X.fn x=true\/X.env.scope.names.lookup x=some .local):=by
 obtain⟨h1,h2⟩:=bA.mp h;unfold alQ at h1;refine⟨by rw[a.hN];exact JC h2,?_⟩;rw[a.hs];unfold L2.Loc;split at h1
 .next e=>exact⟨.inl e,.inr e⟩
 .next e=>exact⟨.inr e,.inl (a.fn h1 x)⟩
 .cases h1
def xq(c:Tc)(x y:Str):Bool:=(x==y)&&(Ju c.sc x&&c.B.contains x)
theorem qm{y:Str}(a:Amb ak c X W k)(h:xq c x y=true):x=y/\Gl X x/\X.mg x=none:=by unfold xq at h;rw[atx,atx]at h;exact⟨au8 h.1,vq a h.2.1,a.bl x (by simpa using h.2.2)⟩
end
def zK:Expr->Bool
 |.Set _ _ _=>true
 |_=>false
theorem Gj{b:Expr}{op:CmpOp}(h:zK b=false):behindInMarks op b=false:=by cases b<;>first | rfl | cases h
theorem XD{b c:Expr}{op op':CmpOp}(h:zK c=false):lastMarks [op,op'] [b,c]=false:=Gj h
theorem rP{e:Expr}{env:PySem.Env}(h:zK e=false):∀x,foldedSetIterable e env x=pure x:=λx=>by
 cases e<;>first | rfl | cases h
def abn:Expr->Bool
 |.Slice _ _ _ _=>true
 |_=>false
def amB:Operator->Option (Dat->Dat->Out Dat)
 |.Add=>some dZ
 |.Sub=>some mH
 |.Mult=>some yw
 |.FloorDiv=>some zW
 |.Mod=>some jy
 |.Pow=>some Rg
 |_=>none
def Rr:CmpOp->Option (Dat->Dat->Out Dat)
 |.Eq=>some bR
 |.NotEq=>some vX
 |.Lt=>some Q7
 |.LtE=>some qP
 |.Gt=>some Xj
 |.GtE=>some geD
 |.In=>some (inD false)
 |.NotIn=>some (inD true)
 |_=>none
theorem aiT{op:Operator}{o:Dat->Dat->Out Dat}(h:amB op=some o)(X:Cx)(ak:aX)(W:WX):∃r,OpR X (binaryOp op) r/\sV ak X.K W o r:=by
 cases op<;>cases h
 .exact⟨_,ajD,akG⟩
 .exact⟨_,op_sub,alJ⟩
 .exact⟨_,op_mul,akB⟩
 .exact⟨_,op_mod,alP⟩
 .exact⟨_,op_pow,amX⟩
 .exact⟨_,op_fdiv,amJ⟩
theorem Eo{op:CmpOp}{o:Dat->Dat->Out Dat}(h:Rr op=some o){X:Cx}{k:Nat}(hr:Room k X.A)(ak:aX)(W:WX):∃r,OpR X (compareOp op) r/\sV ak X.K W o r:=by
 have h65:X.A.units+65<cLine:=by have:=hr.un;omega
 cases op<;>cases h
 .exact⟨_,alz hr.units,anx⟩
 .exact⟨_,alG hr.units,anz⟩
 .exact⟨_,alA h65,aol⟩
 .exact⟨_,op_le,aor⟩
 .exact⟨_,op_gt,anu⟩
 .exact⟨_,op_ge,aoo⟩
 .exact⟨_,akV h65,ais⟩
 .exact⟨_,af8 h65,ais⟩
def VJ:Expr->Option Dat
 |.Constant .none _ _=>some .none
 |.Constant (.bool b) _ _=>some (.bool b)
 |_=>none
theorem ac1{e:Expr}{d:Dat}{X:Cx}(h:VJ e=some d):∃v,scD d=some v/\(v=.non\/∃b,v=.bl b)/\PE X e (tC v):=by
 unfold VJ at h;split at h
 .cases h;exact⟨_,rfl,.inl rfl,pe_non⟩
 .cases h;exact⟨_,rfl,.inr ⟨_,rfl⟩,pe_bl⟩
 .cases h
def isN:CmpOp->Option Bool
 |.Is=>some false
 |.IsNot=>some true
 |_=>none
theorem afa{op:CmpOp}{neg:Bool}{v:V}{X:Cx}(h:isN op=some neg)(hv:v=.non\/∃b,v=.bl b):OpR X (compareOp op) (ZP neg v):=by
 cases op<;>cases h
 .exact al6 hv
 .exact af0 hv
def b1D(x:Str):Option (Dat->Out Dat):=
 if x=="len" then some ou else if x=="abs" then some WY else if x=="sum" then some W4 else if x=="max" then some maxD else if x=="all" then some KH else if x=="any" then some Ro
 else if x=="tuple" then some mJ else if x=="list" then some Qh else if x=="int" then some intD else
 none
def b2D(x:Str):Option (Dat->Dat->Out Dat):=if x=="max" then some u9 else if x=="min" then some KR else none
theorem amw{x:Str}{o:Dat->Out Dat}{X:Cx}(hc:X.calm=true)(h:b1D x=some o)(ak:aX)(W:WX):∃(f:Value) (id:String) (r:List V->Hp->VK->Prop),(f=.builtin id\/f=.type id)/\CallR X f r/\Ml ak X.K W o r/\BV f x:=by
 unfold b1D at h;split at h
 .next e=>cases h;cases au8 e;exact⟨_,_,_,.inl rfl,ala,amf,by decide +kernel,by decide,by decide⟩
 split at h
 .next e=>cases h;cases au8 e;exact⟨_,_,_,.inl rfl,call_abs,akz,by decide +kernel,by decide,by decide⟩
 split at h
 .next e=>cases h;cases au8 e;exact⟨_,_,_,.inl rfl,cr_sum hc,ak7,by decide +kernel,by decide,by decide⟩
 split at h
 .next e=>cases h;cases au8 e;exact⟨_,_,_,.inl rfl,cr_max hc,al0,by decide +kernel,by decide,by decide⟩
 split at h
 .next e=>cases h;cases au8 e;exact⟨_,_,_,.inl rfl,cr_all hc,amO,by decide +kernel,by decide,by decide⟩
 split at h
 .next e=>cases h;cases au8 e;exact⟨_,_,_,.inl rfl,cr_any hc,akv,by decide +kernel,by decide,by decide⟩
 split at h
 .next e=>cases h;cases au8 e;exact⟨_,_,_,.inr rfl,call_tuple_of,ah5,by decide +kernel,by decide,by decide⟩
 split at h
 .next e=>cases h;cases au8 e;exact⟨_,_,_,.inr rfl,call_list_of,aiW,by decide +kernel,by decide,by decide⟩
 split at h
 .next e=>cases h;cases au8 e;exact⟨_,_,_,.inr rfl,alX,akx,by decide +kernel,by decide,by decide⟩
 .cases h
theorem am3{x:Str}{o:Dat->Dat->Out Dat}{X:Cx}(hc:X.calm=true)(h:b2D x=some o)(ak:aX)(W:WX):∃(f:Value) (id:String) (r:List V->Hp->VK->Prop),(f=.builtin id\/f=.type id)/\CallR X f r/\Fn2 ak X.K W o r/\BV f x:=by
 unfold b2D at h;split at h
 .next e=>cases h;cases au8 e;exact⟨_,_,_,.inl rfl,call_max2 hc,ajA,by decide +kernel,by decide,by decide⟩
 split at h
 .next e=>cases h;cases au8 e;exact⟨_,_,_,.inl rfl,call_min2 hc,aja,by decide +kernel,by decide,by decide⟩
 .cases h
def tyN(x:Str):Option Rc:=if x=="int" then some .int else if x=="bool" then some .bool else if x=="str" then some .str else if x=="tuple" then some .tuple else if x=="list" then some .list else none
theorem akM{x:Str}{t:Rc}(h:tyN x=some t):BV (.type t.name) x:=by
 unfold tyN at h;split at h
 .next e=>cases h;cases au8 e;exact⟨by decide +kernel,by decide,by decide⟩
 split at h
 .next e=>cases h;cases au8 e;exact⟨by decide +kernel,by decide,by decide⟩
 split at h
 .next e=>cases h;cases au8 e;exact⟨by decide +kernel,by decide,by decide⟩
 split at h
 .next e=>cases h;cases au8 e;exact⟨by decide +kernel,by decide,by decide⟩
 split at h
 .next e=>cases h;cases au8 e;exact⟨by decide +kernel,by decide,by decide⟩
 .cases h
structure Tr where
 E:Tc->Expr->Option QF
 W:Tc->Expr->Option QF
 T:Tc->Expr->Option QT
 I:Tc->Bool->Expr->Expr->Option IF
structure Tr.Ok(t:Tr):Prop where
 oe:∀{ak:aX} {c:Tc} {X:Cx} {W:WX} {k:Nat},Amb ak c X W k->∀{e:Expr} {f:QF},t.E c e=some f->QE ak X W e f
 ow:∀{ak:aX} {c:Tc} {X:Cx} {W:WX} {k:Nat},Amb ak c X W k->∀{e:Expr} {f:QF},t.W c e=some f->QW ak X W e f
 ot:∀{ak:aX} {c:Tc} {X:Cx} {W:WX} {k:Nat},Amb ak c X W k->∀{e:Expr} {f:QT},t.T c e=some f->u6 ak X W e f
 oi:∀{ak:aX} {c:Tc} {X:Cx} {W:WX} {k:Nat},Amb ak c X W k->∀{firm:Bool} {tg e:Expr} {f:IF},t.I c firm tg e=some f->QI ak X W firm tg e f
def IK(t:Tr)(c:Tc):List Expr->Option QA
 |[]=>some au
 |a::es=>gd (nst a) ((t.E c a).bind λfa=>(IK t c es).bind λfr=>some (aj fa fr))
section
variable{ak:aX}{c:Tc}{X:Cx}{W:WX}{k:Nat}{t:Tr}
theorem vY(o:t.Ok)(a:Amb ak c X W k):∀{es:List Expr} {f:QA},IK t c es=some f->Gu ak X W es f/\es.all nst=true/\∀M Z ds,f M Z=.ok ds->ds.length=es.length
 |[],f,h=>by
  cases h;exact⟨alY,rfl,λM Z ds e=>by cases e;rfl⟩
 |e::es,f,h=>by
  rw[IK,bA]at h;obtain⟨hs,h⟩:=h;obtain⟨fa,h1,h⟩:=atv.mp h;obtain⟨fr,h2,h⟩:=atv.mp h;cases h;obtain⟨i1,i2,i3⟩:=vY o a h2;refine⟨ajH (o.oe a h1) i1 (cP hs es),by simp[hs,i2],λM Z ds e=>?_⟩;unfold aj at e;cases hf:fa M Z with
  |ok d=>
   rw[hf]at e;cases hr:fr M Z with
   |ok dr=>
    rw[hr]at e;cases e;simp[i3 M Z dr hr]
   |exc y=>rw[hr]at e;cases e
   |bad=>rw[hr]at e;cases e
  |exc y=>rw[hf]at e;cases e
  |bad=>rw[hf]at e;cases e
end
def trO(t:Tr)(c:Tc):Option Expr->Option QO
 |none=>some uz
 |some a=>(t.W c a).bind λfa=>some (lC fa)
theorem af4{ak:aX}{c:Tc}{X:Cx}{W:WX}{k:Nat}{t:Tr}(o:t.Ok)(a:Amb ak c X W k){e:Option Expr}{f:QO}(h:trO t c e=some f):QOe ak X W e f:=by
 cases e with
 |none=>cases h;exact ajo
 |some e=>
  obtain⟨fa,h1,h⟩:=atv.mp h;cases h;exact akr (o.ow a h1)
def abq(c:Tc):List Expr->Option (List Nat)
 |[]=>some []
 |.Name x _::es=>(yr c x).bind λi=>(abq c es).bind λjs=>some (i::js)
 |_::_=>none
def Vc(c:Tc):Expr->Option (List Nat×gj)
 |.Name x _=>(yr c x).bind λi=>some ([i],aF i)
 |.Tuple es _ _=>(abq c es).bind λjs=>some (js,bB js)
 |_=>none
theorem Vw{ak:aX}{c:Tc}{X:Cx}{W:WX}{k:Nat}(a:Amb ak c X W k):∀{es:List Expr} {js:List Nat},abq c es=some js->TQ X es js
 |[],js,h=>by cases h;trivial
 |.Name x p::es,js,h=>by
  rw[abq]at h;obtain⟨i,h1,h⟩:=atv.mp h;obtain⟨r,h2,h⟩:=atv.mp h;cases h;obtain⟨s1,s2,s3⟩:=pB a h1;exact⟨s1,s2,s3,Vw a h2⟩
theorem vm{ak:aX}{c:Tc}{X:Cx}{W:WX}{k:Nat}(a:Amb ak c X W k){e:Expr}{js:List Nat}{f:gj}(h:Vc c e=some (js,f)):QG ak X e js f:=by
 unfold Vc at h;split at h
 .obtain⟨i,h1,h⟩:=atv.mp h;cases h;obtain⟨s1,s2,s3⟩:=pB a h1;exact V9 a.nd s1 s2 s3
 .obtain⟨js',h1,h⟩:=atv.mp h;cases h;exact afP a.calm a.nd (Vw a h1)
 .cases h
def Tc.inn(c:Tc)(scope:Scope):Tc:={ c with sc:=relS scope c.sc,top:=false }
theorem Amb.inn{ak:aX}{c:Tc}{X:Cx}{W:WX}{k:Nat}(a:Amb ak c X W k)(scope:Scope)(s:Shared)(H:Hp)(C:Addr)(cl:List (Str×Addr))(fp:List Addr):Amb ak (c.inn scope) (X.blk s H scope (compEnvC scope cl C X.env) fp) WF k where
 hN:=a.hN
 hs:=by show relS scope X.env.scope=relS scope c.sc;rw[a.hs]
 calm:=a.calm
 nd:=a.nd
 tk:=akC
 rm:=a.rm
 gl:=a.gl
 bl:=a.bl
 fn:=λz=>nomatch z
 hk:=a.hk
def R4:List Expr->List Nat->List (Str×Nat)
 |.Name x _::es,j::js=>(x,j)::R4 es js
 |_,_=>[]
def pF:Expr->List Nat->List (Str×Nat)
 |.Name x _,[j]=>[(x,j)]
 |.Tuple es _ _,js=>R4 es js
 |_,_=>[]
def N5(js vs:List Nat):Bool:=js.all λj=>vs.contains j
theorem qw{js vs:List Nat}(h:N5 js vs=true):∀j∈js,j∈vs:=λj hj=>by
 have:=at7.mp h j hj;simpa using this
def RW(t:Tr)(c:Tc):List Expr->Option QT
 |[]=>some iT
 |[a]=>t.T c a
 |_=>none
theorem PTs.weak{X:Cx}{e:List Expr}{t t':TT}(h:PTs X e t)(k:∀σ H Q,t' σ H Q->t σ H Q):PTs X e t':=⟨λpins s σ H Q I q=>h.run pins s σ H Q I (k σ H Q q)⟩
theorem wF{ak:aX}{c:Tc}{X:Cx}{W:WX}{k:Nat}{t:Tr}(o:t.Ok)(a:Amb ak c X W k){ifs:List Expr}{f:QT}(h:RW t c ifs=some f):PTs X ifs (jV X.K ak W f):=by
 unfold RW at h;split at h
 .cases h;exact PTs.weak pts_nil λσ H Q ⟨g,Z,M,I,z⟩=>z H (Ex.refl H)
 .exact pts_one (o.ot a h)
 .cases h
def aar(t:Tr)(c:Tc)(elt tg iter:Expr)(ifs:List Expr)(scope:Scope):Option QF:=
 (t.I c false tg iter).bind λit=>(Vc (c.inn scope) tg).bind λjt=>(RW t (c.inn scope) ifs).bind λtt=>(t.E (c.inn scope) elt).bind λte=>
  gd (blkC c.N c.sc scope (pF tg jt.1)&&(N5 jt.1 ((pF tg jt.1).map (·.2))&&!zK iter)) (some (fu it jt.2 ((pF tg jt.1).map (·.2)) tt te))
theorem ac6{ak:aX}{c:Tc}{X:Cx}{W:WX}{k:Nat}{t:Tr}(o:t.Ok)(a:Amb ak c X W k){elt tg iter:Expr}{ifs:List Expr}{scope:Scope}{pos:Pos}{f:QF}(h:aar t c elt tg iter ifs scope=some f):QE ak X W (.ListComp elt [⟨tg,iter,ifs,0⟩] scope pos) f:=by unfold aar at h;obtain⟨it,h1,h⟩:=atv.mp h;obtain⟨⟨js,tf⟩,h2,h⟩:=atv.mp h;obtain⟨tt,h3,h⟩:=atv.mp h;obtain⟨te,h4,h⟩:=atv.mp h;obtain⟨hb,h⟩:=bA.mp h;cases h;simp only[atx,atV]at hb;obtain⟨b1,b2,b3⟩:=hb;exact anC a.calm a.nd (o.oi a h1) (by rw[a.hN,a.hs];exact b1) (qw b2) (λs H C cl fp=>vm (a.inn scope s H C cl fp) h2) (λs H C cl fp=>wF o (a.inn scope s H C cl fp) h3) (λs H C cl fp=>o.oe (a.inn scope s H C cl fp) h4) (rP b3)
def abb(t:Tr)(c:Tc)(x:Str)(e:Expr)(es:List Expr):Option QF:=match c.G.lookup x with
 |some (.fq n m)=>(IK t c (e::es)).bind λas=>gd (Ju c.sc x&&(!Jx x&&decide ((e::es).length=n))) (some (aR m as))
 |some _=>none
 |none=>match es with
  |[]=>(b1D x).bind λo=>(t.W c e).bind λfa=>gd (xq c x x&&nst e) (some (eE o fa))
  |[.Name y p]=>match x=="isinstance" with
   |true=>(tyN y).bind λty=>(t.W c e).bind λfa=>gd (xq c x x&&(xq c y y&&nst e)) (some (yL ty fa))
   |false=>(b2D x).bind λo=>(t.W c e).bind λfa=>(t.W c (.Name y p)).bind λfb=>gd (xq c x x&&nst e) (some (aA o fa fb))
  |[e2]=>(b2D x).bind λo=>(t.W c e).bind λfa=>(t.W c e2).bind λfb=>gd (xq c x x&&(nst e&&nst e2)) (some (aA o fa fb))
  |_=>none
theorem agE{ak:aX}{c:Tc}{X:Cx}{W:WX}{k:Nat}{x:Str}{o:Dat->Dat->Out Dat}{a b:Expr}{fa fb:QF}{p pos:Pos}(am:Amb ak c X W k)(h:b2D x=some o)(hg:xq c x x=true)(ha:QW ak X W a fa)(hb:QW ak X W b fb)(hs:nst a=true)(hs2:nst b=true):QE ak X W (.Call (.Name x p) [a,b] [] pos) (aA o fa fb):=by obtain⟨f,id,r,hf,hc,ho,hv⟩:=am3 am.calm h ak W;obtain⟨_,hg,hm⟩:=qm am hg;exact anO hf hc ho hg hm hv ha hb hs hs2
theorem afT{ak:aX}{c:Tc}{X:Cx}{W:WX}{k:Nat}{t:Tr}(o:t.Ok)(a:Amb ak c X W k){x:Str}{e:Expr}{es:List Expr}{p pos:Pos}{f:QF}(h:abb t c x e es=some f):QE ak X W (.Call (.Name x p) (e::es) [] pos) f:=by
 unfold abb at h;split at h
 .next n m hl=>
  obtain⟨as,h1,h⟩:=atv.mp h;obtain⟨hb,h⟩:=bA.mp h;cases h;simp only[atx,atV,au1]at hb;obtain⟨b1,b2,b3⟩:=hb;obtain⟨fa,hm,hk,fd,ps,j,hj,hp,hB,F⟩:=a.gl x _ hl;obtain⟨i1,i2,i3⟩:=vY o a h1;exact akg a.tk F (a.rm.mono hj) (vq a b1) hm hk hB i1 (b3.trans hp.symm) (vo b2).1 i2 i3
 .cases h
 .split at h
  .obtain⟨o1,h1,h⟩:=atv.mp h;obtain⟨fa,h2,h⟩:=atv.mp h;obtain⟨hb,h⟩:=bA.mp h;cases h;rw[atx]at hb;obtain⟨f,id,r,hf,hc,ho,hv⟩:=amw a.calm h1 ak W;obtain⟨_,hg,hm⟩:=qm a hb.1;exact aik hf hc ho hg hm hv (o.ow a h2) hb.2
  .split at h
   .next ex=>
    obtain⟨ty,h1,h⟩:=atv.mp h;obtain⟨fa,h2,h⟩:=atv.mp h;obtain⟨hb,h⟩:=bA.mp h;cases h;simp only[atx]at hb;obtain⟨b1,b2,b3⟩:=hb;obtain⟨_,hg,hm⟩:=qm a b1;obtain⟨_,hg2,hm2⟩:=qm a b2;cases au8 ex;exact am2 hg hm ⟨by decide +kernel,by decide,by decide⟩ hg2 hm2 (akM h1) (o.ow a h2) b3
   .obtain⟨o1,h1,h⟩:=atv.mp h;obtain⟨fa,h2,h⟩:=atv.mp h;obtain⟨fb,h3,h⟩:=atv.mp h;obtain⟨hb,h⟩:=bA.mp h;cases h;rw[atx]at hb;exact agE a h1 hb.1 (o.ow a h2) (o.ow a h3) hb.2 rfl
  .obtain⟨o1,h1,h⟩:=atv.mp h;obtain⟨fa,h2,h⟩:=atv.mp h;obtain⟨fb,h3,h⟩:=atv.mp h;obtain⟨hb,h⟩:=bA.mp h;cases h;simp only[atx]at hb;exact agE a h1 hb.1 (o.ow a h2) (o.ow a h3) hb.2.1 hb.2.2
  .cases h
def stE(t:Tr)(c:Tc):Expr->Option QF
 |.Name x _=>(match Oq c x with
  |some i=>some (aq i)
  |none=>match c.G.lookup x with
   |some (.con d)=>gd (Ju c.sc x&&!Jx x) (some (qC d))
   |_=>none)
 |.Constant (.int i) _ _=>some (qC (.int i))
 |.Constant (.str x) _ _=>some (qC (.str x))
 |.Constant (.bool x) _ _=>some (qC (.bool x))
 |.Constant .none _ _=>some (qC .none)
 |.BinOp a op b _=>(amB op).bind λo=>(t.W c a).bind λfa=>(t.W c b).bind λfb=>some (aA o fa fb)
 |.UnaryOp .USub a _=>(t.W c a).bind λfa=>some (eE Rv fa)
 |.UnaryOp .Not a _=>(t.W c a).bind λfa=>some (TX fa)
 |.BoolOp _ [a] _=>t.E c a
 |.BoolOp .And (a::b::r) p=>(t.E c a).bind λfa=>(t.E c (.BoolOp .And (b::r) p)).bind λfb=>some (xV fa fb)
 |.BoolOp .Or (a::b::r) p=>(t.E c a).bind λfa=>(t.E c (.BoolOp .Or (b::r) p)).bind λfb=>some (ahV fa fb)
 |.Compare a [op] [b] _=>(match isN op with
  |some neg=>(VJ b).bind λd=>(t.W c a).bind λfa=>some (vP neg d fa)
  |none=>(Rr op).bind λo=>(t.W c a).bind λfa=>(t.W c b).bind λfb=>gd (!zK b) (some (aA o fa fb)))
 |.Compare a [op,op'] [b,b2] _=>(Rr op).bind λo=>(Rr op').bind λo'=>(t.W c a).bind λfa=>(t.W c b).bind λfb=>(t.W c b2).bind λfc=>gd (!zK b2) (some (Ut (nQ o o' fa fb fc)))
 |.IfExp d a b _=>(t.T c d).bind λta=>(t.E c a).bind λfa=>(t.E c b).bind λfb=>some (O2 ta fa fb)
 |.Tuple es _ _=>(IK t c es).bind λfr=>some (bD fr)
 |.List es _=>(IK t c es).bind λfr=>some (xg fr)
 |.Subscript a b _=>(match b with
  |.Slice lo hi none _=>(t.W c a).bind λfa=>(trO t c lo).bind λfl=>(trO t c hi).bind λfh=>some (Et fa fl fh)
  |b=>gd (!abn b) ((t.W c a).bind λfa=>(t.W c b).bind λfb=>some (aA aN fa fb)))
 |.ListComp elt [⟨tg,iter,ifs,0⟩] scope _=>aar t c elt tg iter ifs scope
 |.Call (.Name x _) (e::es) [] _=>abb t c x e es
 |_=>none
def stW(t:Tr)(c:Tc):Expr->Option QF
 |.Name x p=>(match Oq c x with
  |some i=>some (ao i)
  |none=>t.E c (.Name x p))
 |e=>t.E c e
def valT:Expr->Bool
 |.UnaryOp .Not _ _=>false
 |.BoolOp _ _ _=>false
 |.IfExp _ _ _ _=>false
 |.Compare _ _ _ _=>false
 |_=>true
theorem ai6{e:Expr}{env:PySem.Env}(h:valT e=true):∀whole,isTrue e env whole=(do let v <-whole;standAt e.pos;holding [v] (truthy v)):=λwhole=>by
 cases e with
 | UnaryOp o a p=>cases o<;>first | (with_unfolding_all rfl) | cases h
 |BoolOp _ _ _=>cases h
 |IfExp _ _ _ _=>cases h
 |Compare _ _ _ _=>cases h
 |_=>with_unfolding_all rfl
def stT(t:Tr)(c:Tc):Expr->Option QT
 |.UnaryOp .Not a _=>(t.T c a).bind λta=>some (iW ta)
 |.BoolOp _ [a] _=>t.T c a
 |.BoolOp .And (a::b::r) p=>(t.T c a).bind λta=>(t.T c (.BoolOp .And (b::r) p)).bind λtb=>some (gH ta tb)
 |.BoolOp .Or (a::b::r) p=>(t.T c a).bind λta=>(t.T c (.BoolOp .Or (b::r) p)).bind λtb=>some (Ag ta tb)
 |.Compare a [op] [b] _=>(match isN op with
  |some neg=>(VJ b).bind λd=>(t.W c a).bind λfa=>some (aW (vP neg d fa))
  |none=>(Rr op).bind λo=>(t.W c a).bind λfa=>(t.W c b).bind λfb=>gd (!zK b) (some (aW (aA o fa fb))))
 |.Compare a [op,op'] [b,b2] _=>(Rr op).bind λo=>(Rr op').bind λo'=>(t.W c a).bind λfa=>(t.W c b).bind λfb=>(t.W c b2).bind λfc=>gd (!zK b2) (some (nQ o o' fa fb fc))
 |e=>gd (valT e) ((t.W c e).bind λfa=>some (fB fa))
def trF(t:Tr)(c:Tc)(firm:Bool)(e:Expr):Option QF:=match firm with
 |true=>t.E c e
 |false=>t.W c e
def isTup:Expr->Bool
 |.Tuple _ _ _=>true
 |_=>false
def stI(t:Tr)(c:Tc)(firm:Bool)(tg:Expr):Expr->Option IF
 |.Call (.Name x p) [a] [] pos=>(match xq c x "range" with
  |true=>(t.W c a).bind λfa=>gd (nst a) (some (Ea fa))
  |false=>match xq c x "enumerate" with
   |true=>(trF t c firm a).bind λfa=>gd (nst a&&isTup tg) (some (yh 0 fa))
   |false=>(trF t c firm (.Call (.Name x p) [a] [] pos)).bind λfa=>some (cR fa))
 |.Call (.Name x p) [a,b] [] pos=>(match xq c x "range" with
  |true=>(t.W c a).bind λfa=>(t.W c b).bind λfb=>gd (nst a&&nst b) (some (Es fa fb))
  |false=>match xq c x "zip" with
   |true=>(trF t c firm a).bind λfa=>(trF t c firm b).bind λfb=>gd (nst a&&(nst b&&isTup tg)) (some (Gm fa fb))
   |false=>(trF t c firm (.Call (.Name x p) [a,b] [] pos)).bind λfa=>some (cR fa))
 |.Call (.Name x p) [a] [⟨some kw,.Constant (.int i) j kp,kp2⟩] pos=>gd (xq c x "enumerate"&&(kw=="start"&&(decide (-(2^63)<=i/\i<2^63)&&(nst a&&isTup tg)))) ((trF t c firm a).bind λfa=>some (yh i fa))
 |e=>(trF t c firm e).bind λfa=>some (cR fa)
theorem aaW{b:Expr}(h:(!abn b)=true):PlainIx b:=λv i=>by
 cases b<;>first | rfl | cases h
section
variable{ak:aX}{c:Tc}{X:Cx}{W:WX}{k:Nat}{t:Tr}
theorem amA(o:t.Ok)(a:Amb ak c X W k){e:Expr}{f:QF}(h:stE t c e=some f):QE ak X W e f:=by
 unfold stE at h;split at h
 .split at h
  .next i hi=>
   cases h;obtain⟨s1,s2,s3,s4⟩:=CN a hi;exact alo s1 s2 s3 s4
  .split at h
   .next d hl=>
    obtain⟨hb,h⟩:=bA.mp h;cases h;simp only[atx,atV]at hb;obtain⟨v,u,h1,h2,h3⟩:=a.gl _ _ hl;exact PE.weak (pe_glob (vq a hb.1) h1 h2 (vo hb.2).1) λσ H Q ⟨g,Z,M,I,z⟩=>z v H (Ex.refl H) (h3 g H)
   .cases h
 .cases h;exact aly
 .cases h;exact alW
 .cases h;exact anr
 .cases h;exact alU
 .obtain⟨op,h1,h⟩:=atv.mp h;obtain⟨fa,h2,h⟩:=atv.mp h;obtain⟨fb,h3,h⟩:=atv.mp h;cases h;obtain⟨r,r1,r2⟩:=aiT h1 X ak W;exact amh r1 r2 (o.ow a h2) (o.ow a h3)
 .obtain⟨fa,h2,h⟩:=atv.mp h;cases h;exact ame (o.ow a h2)
 .obtain⟨fa,h2,h⟩:=atv.mp h;cases h;exact ajw (o.ow a h2)
 .exact pe_one (o.oe a h)
 .obtain⟨fa,h2,h⟩:=atv.mp h;obtain⟨fb,h3,h⟩:=atv.mp h;cases h;exact ajq (o.oe a h2) (o.oe a h3)
 .obtain⟨fa,h2,h⟩:=atv.mp h;obtain⟨fb,h3,h⟩:=atv.mp h;cases h;exact akL (o.oe a h2) (o.oe a h3)
 .split at h
  .next neg hn=>
   obtain⟨d,h1,h⟩:=atv.mp h;obtain⟨fa,h2,h⟩:=atv.mp h;cases h;obtain⟨v,v1,v2,v3⟩:=ac1 (X:=X) h1;refine an6 v1 (afa hn v2) (o.ow a h2) v3 (Gj ?_);unfold VJ at h1;split at h1<;>first | rfl | cases h1
  .obtain⟨op,h1,h⟩:=atv.mp h;obtain⟨fa,h2,h⟩:=atv.mp h;obtain⟨fb,h3,h⟩:=atv.mp h;obtain⟨hb,h⟩:=bA.mp h;cases h;obtain⟨r,r1,r2⟩:=Eo h1 a.rm ak W;exact aj6 r1 r2 (o.ow a h2) (o.ow a h3) (Gj (by simpa using hb))
 .obtain⟨op,h1,h⟩:=atv.mp h;obtain⟨op',h1',h⟩:=atv.mp h;obtain⟨fa,h2,h⟩:=atv.mp h;obtain⟨fb,h3,h⟩:=atv.mp h;obtain⟨fc,h4,h⟩:=atv.mp h;obtain⟨hb,h⟩:=bA.mp h;cases h;obtain⟨r,r1,r2⟩:=Eo h1 a.rm ak W;obtain⟨r',r1',r2'⟩:=Eo h1' a.rm ak W;exact ahS r1 r1' r2 r2' (o.ow a h2) (o.ow a h3) (o.ow a h4) (XD (by simpa using hb))
 .obtain⟨ta,h1,h⟩:=atv.mp h;obtain⟨fa,h2,h⟩:=atv.mp h;obtain⟨fb,h3,h⟩:=atv.mp h;cases h;exact ahe (o.ot a h1) (o.oe a h2) (o.oe a h3)
 .obtain⟨fr,h1,h⟩:=atv.mp h;cases h;exact amv (vY o a h1).1
 .obtain⟨fr,h1,h⟩:=atv.mp h;cases h;exact am1 (vY o a h1).1
 .split at h
  .obtain⟨fa,h1,h⟩:=atv.mp h;obtain⟨fl,h2,h⟩:=atv.mp h;obtain⟨fh,h3,h⟩:=atv.mp h;cases h;exact anI (o.ow a h1) (af4 o a h2) (af4 o a h3)
  .obtain⟨hb,h⟩:=bA.mp h;obtain⟨fa,h1,h⟩:=atv.mp h;obtain⟨fb,h2,h⟩:=atv.mp h;cases h;exact anY (o.ow a h1) (o.ow a h2) (aaW hb)
 .exact ac6 o a h
 .exact afT o a h
 .cases h
theorem amb(o:t.Ok)(a:Amb ak c X W k){e:Expr}{f:QF}(h:stW t c e=some f):QW ak X W e f:=by
 unfold stW at h;split at h
 .split at h
  .next i hi=>
   cases h;obtain⟨s1,s2,s3,s4⟩:=CN a hi;exact alS s1 s2 s3 s4
  .exact(o.oe a h).w
 .exact(o.oe a h).w
theorem amx{a b:Expr}{rest:List Expr}{ta tb:QT}{pos:Pos}(ha:u6 ak X W a ta)(hb:u6 ak X W (.BoolOp .And (b::rest) pos) tb):u6 ak X W (.BoolOp .And (a::b::rest) pos) (gH ta tb):=by have hb':QWt ak X W (.BoolOp .And (b::rest) pos) tb:=⟨λwh pins s σ H Q I q=>hb.run pins s σ H Q I q⟩;exact PW.pt (akT ha hb')
theorem anD{a b:Expr}{rest:List Expr}{ta tb:QT}{pos:Pos}(ha:u6 ak X W a ta)(hb:u6 ak X W (.BoolOp .Or (b::rest) pos) tb):u6 ak X W (.BoolOp .Or (a::b::rest) pos) (Ag ta tb):=by have hb':QWt ak X W (.BoolOp .Or (b::rest) pos) tb:=⟨λwh pins s σ H Q I q=>hb.run pins s σ H Q I q⟩;exact PW.pt (anq ha hb')
theorem alg(o:t.Ok)(a:Amb ak c X W k){e:Expr}{f:QT}(h:stT t c e=some f):u6 ak X W e f:=by
 unfold stT at h;split at h
 .obtain⟨ta,h1,h⟩:=atv.mp h;cases h;exact amn (o.ot a h1)
 .next op _ _=>
  cases op
  .exact PW.pt (pw_and1 (o.ot a h))
  .exact PW.pt (pw_or1 (o.ot a h))
 .obtain⟨ta,h1,h⟩:=atv.mp h;obtain⟨tb,h2,h⟩:=atv.mp h;cases h;exact amx (o.ot a h1) (o.ot a h2)
 .obtain⟨ta,h1,h⟩:=atv.mp h;obtain⟨tb,h2,h⟩:=atv.mp h;cases h;exact anD (o.ot a h1) (o.ot a h2)
 .split at h
  .next neg hn=>
   obtain⟨d,h1,h⟩:=atv.mp h;obtain⟨fa,h2,h⟩:=atv.mp h;cases h;obtain⟨v,v1,v2,v3⟩:=ac1 (X:=X) h1;refine ano v1 (afa hn v2) (o.ow a h2) v3 (Gj ?_);unfold VJ at h1;split at h1<;>first | rfl | cases h1
  .obtain⟨op,h1,h⟩:=atv.mp h;obtain⟨fa,h2,h⟩:=atv.mp h;obtain⟨fb,h3,h⟩:=atv.mp h;obtain⟨hb,h⟩:=bA.mp h;cases h;obtain⟨r,r1,r2⟩:=Eo h1 a.rm ak W;exact amS r1 r2 (o.ow a h2) (o.ow a h3) (Gj (by simpa using hb))
 .obtain⟨op,h1,h⟩:=atv.mp h;obtain⟨op',h1',h⟩:=atv.mp h;obtain⟨fa,h2,h⟩:=atv.mp h;obtain⟨fb,h3,h⟩:=atv.mp h;obtain⟨fc,h4,h⟩:=atv.mp h;obtain⟨hb,h⟩:=bA.mp h;cases h;obtain⟨r,r1,r2⟩:=Eo h1 a.rm ak W;obtain⟨r',r1',r2'⟩:=Eo h1' a.rm ak W;exact ahD r1 r1' r2 r2' (o.ow a h2) (o.ow a h3) (o.ow a h4) (XD (by simpa using hb))
 .obtain⟨hv,h⟩:=bA.mp h;obtain⟨fa,h1,h⟩:=atv.mp h;cases h;exact ak6 (o.ow a h1) (ai6 hv)
theorem Ge(o:t.Ok)(a:Amb ak c X W k){firm:Bool}{e:Expr}{f:QF}(h:trF t c firm e=some f):QF' ak X W firm e f:=by
 cases firm
 .exact o.ow a h
 .exact o.oe a h
theorem SQ{e:Expr}(h:isTup e=true):∃es j p,e=.Tuple es j p:=by cases e<;>first | exact⟨_,_,_,rfl⟩ | cases h
theorem al4(o:t.Ok)(a:Amb ak c X W k){firm:Bool}{tg e:Expr}{f:IF}(h:stI t c firm tg e=some f):QI ak X W firm tg e f:=by
 unfold stI at h;split at h
 .split at h
  .next hb=>
   obtain⟨fa,h1,h⟩:=atv.mp h;obtain⟨hs,h⟩:=bA.mp h;cases h;obtain⟨rfl,hg,hm⟩:=qm a hb;exact afl hg hm (o.ow a h1) hs
  .split at h
   .next hb=>
    obtain⟨fa,h1,h⟩:=atv.mp h;obtain⟨hs,h⟩:=bA.mp h;cases h;obtain⟨rfl,hg,hm⟩:=qm a hb;rw[atx]at hs;obtain⟨es,j,p,rfl⟩:=SQ hs.2;exact aiM hg hm (Ge o a h1) hs.1
   .obtain⟨fa,h1,h⟩:=atv.mp h;cases h;exact abr (Ge o a h1)
 .split at h
  .next hb=>
   obtain⟨fa,h1,h⟩:=atv.mp h;obtain⟨fb,h2,h⟩:=atv.mp h;obtain⟨hs,h⟩:=bA.mp h;cases h;obtain⟨rfl,hg,hm⟩:=qm a hb;rw[atx]at hs;exact aeN hg hm (o.ow a h1) (o.ow a h2) hs.1 hs.2
  .split at h
   .next hb=>
    obtain⟨fa,h1,h⟩:=atv.mp h;obtain⟨fb,h2,h⟩:=atv.mp h;obtain⟨hs,h⟩:=bA.mp h;cases h;obtain⟨rfl,hg,hm⟩:=qm a hb;simp only[atx]at hs;obtain⟨es,j,p,rfl⟩:=SQ hs.2.2;exact amZ hg hm (Ge o a h1) (Ge o a h2) hs.1 hs.2.1
   .obtain⟨fa,h1,h⟩:=atv.mp h;cases h;exact abr (Ge o a h1)
 .obtain⟨hs,h⟩:=bA.mp h;obtain⟨fa,h1,h⟩:=atv.mp h;cases h;simp only[atx,au1]at hs;obtain⟨hb,hk,hi,hn,ht⟩:=hs;obtain⟨rfl,hg,hm⟩:=qm a hb;cases au8 hk;obtain⟨es,j,p,rfl⟩:=SQ ht;exact ahg hi.1 hi.2 hg hm (Ge o a h1) hn
 .obtain⟨fa,h1,h⟩:=atv.mp h;cases h;exact abr (Ge o a h1)
end
def MV.n:MV->Nat
 |.q n _=>n
 |.g n _=>n
def MV.qt:MV->Bool
 |.q _ _=>true
 |.g _ _=>false
def tbN(tb:List (Str×MV))(n:Nat):Bool:=tb.all λp=>p.2.n==n
def tbQ(tb:List (Str×MV)):Bool:=tb.all λp=>p.2.qt
theorem sW{α:Type}{c:Str}{v:α}:∀{tb:List (Str×α)},tb.lookup c=some v->(c,v)∈tb
 |[],h=>nomatch h
 |(y,u)::r,h=>by
  rw[aub]at h;split at h
  .next e=>
   cases h;rw[au8 e];exact atD
  .exact atA _ (sW h)
section
variable{ak:aX}{c:Tc}{X:Cx}{W:WX}{k:Nat}{t:Tr}
theorem Zo(a:Amb ak c X W k){m:Str}{n:Nat}{tb:List (Str×MV)}(h:c.hs.Ms.lookup m=some tb)(hn:tbN tb n=true):KD X ak k m n tb:=λy v hv=>by
 refine⟨a.hk.ms m tb h y v hv,?_⟩;have:=at7.mp hn _ (sW hv);cases v<;>exact au8 this
def aaD(t:Tr)(c:Tc)(o:Expr)(m:Str)(es:List Expr)(apos pos:Pos):Option QF:=
 (c.hs.Ms.lookup m).bind λtb=>(t.W c o).bind λfo=>(IK t c es).bind λas=>
  gd (tbQ tb&&(tbN tb (es.length+1)&&(baseOk o&&(decide (es.length<30)&&(apos.endLine==pos.line))))) (some (aV tb fo as))
theorem afW(o:t.Ok)(a:Amb ak c X W k){b:Expr}{m:Str}{es:List Expr}{apos pos:Pos}{f:QF}(h:aaD t c b m es apos pos=some f):QE ak X W (.Call (.Attribute b m apos) es [] pos) f:=by
 unfold aaD at h;obtain⟨tb,h1,h⟩:=atv.mp h;obtain⟨fo,h2,h⟩:=atv.mp h;obtain⟨as,h3,h⟩:=atv.mp h;obtain⟨hb,h⟩:=bA.mp h;cases h;simp only[atx,au1]at hb;obtain⟨_,b2,b3,b4,b5⟩:=hb;obtain⟨i1,i2,i3⟩:=vY o a h3;cases es with
 |nil=>
  cases h3;exact ahl a.tk a.rm (Zo a h1 b2) (o.ow a h2) b3 b5
 |cons e es=>exact aks a.tk a.rm (Zo a h1 b2) (o.ow a h2) i1 i3 b3 i2 b5 b4
def inN:CmpOp->Option Bool
 |.In=>some false
 |.NotIn=>some true
 |_=>none
theorem afn{op:CmpOp}{neg:Bool}(hr:Room k X.A)(h:inN op=some neg):OpR X (compareOp op) (rInD X neg):=by
 have h65:X.A.units+64<cLine:=by have:=hr.un;omega
 cases op<;>cases h
 .exact op_inD h65
 .exact op_notInD h65
def adR(t:Tr)(c:Tc)(e:Expr)(op:CmpOp)(o:Expr)(f:Str):Option QF:=
 (inN op).bind λneg=>(c.hs.df.lookup f).bind λ_=>(t.E c e).bind λfe=>(t.W c o).bind λfo=>gd (baseOk o) (some (SN neg f fe fo))
theorem ak1{o e:Expr}{f:Str}{p1 pos:Pos}{fo fk:QF}{neg:Bool}{op:CmpOp}(co:j5 X.K ak)(hw:ak.w=X.w)(hr:OpR X (compareOp op) (rInD X neg))(hk:QE ak X W e fk)(ho:QW ak X W o fo)(hb:baseOk o=true):u6 ak X W (.Compare e [op] [.Attribute o f p1] pos) (aW (SN neg f fk fo)):=
 PT.weak (pt_cmpR hr hk (pe_fld ho (oY hb)) (by cases op<;>rfl)) λσ H Q ⟨g,Z,M,I,h⟩=>by
  refine ah9 co hw σ H _ ⟨g,Z,M,I,h.bnd.mono (λd h1 v H' e' r'=>?_) λ_ z=>z⟩;obtain⟨k,h2,h3⟩:=GP r'.weak h1;exact⟨k,h2,h3 H' e'⟩
theorem acB(o:t.Ok)(a:Amb ak c X W k){e b:Expr}{op:CmpOp}{m:Str}{p1 pos:Pos}{f:QF}(h:adR t c e op b m=some f):QE ak X W (.Compare e [op] [.Attribute b m p1] pos) f/\u6 ak X W (.Compare e [op] [.Attribute b m p1] pos) (aW f):=by unfold adR at h;obtain⟨neg,h1,h⟩:=atv.mp h;obtain⟨_,_,h⟩:=atv.mp h;obtain⟨fe,h2,h⟩:=atv.mp h;obtain⟨fo,h3,h⟩:=atv.mp h;obtain⟨hb,h⟩:=bA.mp h;cases h;exact⟨akJ a.hk.co a.hk.hw (afn a.rm h1) (o.oe a h2) (o.ow a h3) hb,ak1 a.hk.co a.hk.hw (afn a.rm h1) (o.oe a h2) (o.ow a h3) hb⟩
def Zi(t:Tr)(c:Tc)(e:Expr)(op:CmpOp)(x:Str):Option QF:=
 (inN op).bind λneg=>match c.G.lookup x with
  |some (.dic kvs)=>(t.W c e).bind λfe=>gd (Ju c.sc x&&!Jx x) (some (V6 neg kvs fe))
  |_=>none
theorem aaC(o:t.Ok)(a:Amb ak c X W k){e:Expr}{op:CmpOp}{x:Str}{p1 pos:Pos}{f:QF}(h:Zi t c e op x=some f):QE ak X W (.Compare e [op] [.Name x p1] pos) f/\u6 ak X W (.Compare e [op] [.Name x p1] pos) (aW f):=by
 unfold Zi at h;obtain⟨neg,h1,h⟩:=atv.mp h;split at h
 .next kvs hl=>
  obtain⟨fe,h2,h⟩:=atv.mp h;obtain⟨hb,h⟩:=bA.mp h;cases h;simp only[atx,atV]at hb;refine am9 ?_ (a.gl x _ hl) (vq a hb.1) (vo hb.2).1 (o.ow a h2);cases op<;>cases h1
  .exact .inl ⟨rfl,rfl⟩
  .exact .inr ⟨rfl,rfl⟩
 .cases h
def aaV(t:Tr)(c:Tc):Expr->Option QF
 |.Call (.Name y _) [b] [] _=>(match xq c y "set" with
  |true=>(t.W c b).bind λfb=>gd (nst b) (some (eE UW fb))
  |false=>(t.W c (.Call (.Name y ⟨0,0,0,0⟩) [b] [] ⟨0,0,0,0⟩)).bind λ_=>none)
 |.SetComp elt [⟨tg,iter,ifs,0⟩] scope _=>(t.I c false tg iter).bind λit=>(Vc (c.inn scope) tg).bind λjt=>(RW t (c.inn scope) ifs).bind λtt=>(t.E (c.inn scope) elt).bind λte=>
  gd (blkC c.N c.sc scope (pF tg jt.1)&&(N5 jt.1 ((pF tg jt.1).map (·.2))&&!zK iter)) (some (Ef it jt.2 ((pF tg jt.1).map (·.2)) tt te))
 |e=>(t.W c e).bind λfe=>gd (nst e) (some (eE Bw fe))
theorem ahp(a:Amb ak c X W k):X.A.units+65<cLine:=by have:=a.rm.un;omega
theorem aeF(o:t.Ok)(a:Amb ak c X W k)(hg:Gl X "sorted")(hm:X.mg "sorted"=none){e:Expr}{p pos:Pos}{f:QF}(h:aaV t c e=some f):QE ak X W (.Call (.Name "sorted" p) [e] [] pos) f:=by
 unfold aaV at h;split at h
 .split at h
  .next hb=>
   obtain⟨fb,h1,h⟩:=atv.mp h;obtain⟨hn,h⟩:=bA.mp h;cases h;obtain⟨rfl,hg2,hm2⟩:=qm a hb;exact ako (ahp a) a.calm hg hm hg2 hm2 (o.ow a h1) hn
  .obtain⟨_,_,h⟩:=atv.mp h;cases h
 .obtain⟨it,h1,h⟩:=atv.mp h;obtain⟨⟨js,tf⟩,h2,h⟩:=atv.mp h;obtain⟨tt,h3,h⟩:=atv.mp h;obtain⟨te,h4,h⟩:=atv.mp h;obtain⟨hb,h⟩:=bA.mp h;cases h;simp only[atx,atV]at hb;obtain⟨b1,b2,b3⟩:=hb;exact agF (ahp a) a.calm a.nd hg hm (o.oi a h1) (by rw[a.hN,a.hs];exact b1) (qw b2) (λs H C cl fp=>vm (a.inn _ s H C cl fp) h2) (λs H C cl fp=>wF o (a.inn _ s H C cl fp) h3) (λs H C cl fp=>o.oe (a.inn _ s H C cl fp) h4) (rP b3)
 .obtain⟨fe,h1,h⟩:=atv.mp h;obtain⟨hn,h⟩:=bA.mp h;cases h;exact ajQ (ahp a) hg hm (o.ow a h1) hn
def Uv(t:Tr)(c:Tc)(elt tg iter:Expr)(ifs:List Expr)(tg1 iter1:Expr)(ifs1:List Expr)(scope:Scope):Option QF:=
 (t.I c false tg iter).bind λit=>(Vc (c.inn scope) tg).bind λjt=>(RW t (c.inn scope) ifs).bind λtt=>(t.I (c.inn scope) true tg1 iter1).bind λit1=>(Vc (c.inn scope) tg1).bind λjt1=>(RW t (c.inn scope) ifs1).bind λtt1=>(t.E (c.inn scope) elt).bind λte=>
  gd (blkC c.N c.sc scope (pF tg jt.1++pF tg1 jt1.1)&&(N5 ((pF tg1 jt1.1).map (·.2)) ((pF tg jt.1++pF tg1 jt1.1).map (·.2))&&(N5 jt.1 ((pF tg jt.1++pF tg1 jt1.1).map (·.2))&&(N5 jt1.1 ((pF tg1 jt1.1).map (·.2))&&(!zK iter&&!zK iter1)))))
   (some (FZ it jt.2 ((pF tg jt.1++pF tg1 jt1.1).map (·.2)) tt it1 jt1.2 ((pF tg1 jt1.1).map (·.2)) tt1 te))
theorem ahi(o:t.Ok)(a:Amb ak c X W k){elt tg iter tg1 iter1:Expr}{ifs ifs1:List Expr}{scope:Scope}{pos:Pos}{f:QF}(h:Uv t c elt tg iter ifs tg1 iter1 ifs1 scope=some f):QE ak X W (.ListComp elt [⟨tg,iter,ifs,0⟩,⟨tg1,iter1,ifs1,0⟩] scope pos) f:=by unfold Uv at h;obtain⟨it,h1,h⟩:=atv.mp h;obtain⟨⟨js,tf⟩,h2,h⟩:=atv.mp h;obtain⟨tt,h3,h⟩:=atv.mp h;obtain⟨it1,h4,h⟩:=atv.mp h;obtain⟨⟨js1,tf1⟩,h5,h⟩:=atv.mp h;obtain⟨tt1,h6,h⟩:=atv.mp h;obtain⟨te,h7,h⟩:=atv.mp h;obtain⟨hb,h⟩:=bA.mp h;cases h;simp only[atx,atV]at hb;obtain⟨b1,b2,b3,b4,b5,b6⟩:=hb;exact ams a.calm a.nd (o.oi a h1) (by rw[a.hN,a.hs];exact b1) (qw b2) (qw b3) (qw b4) (λs H C cl fp=>vm (a.inn _ s H C cl fp) h2) (λs H C cl fp=>wF o (a.inn _ s H C cl fp) h3) (λs H C cl fp=>o.oi (a.inn _ s H C cl fp) h4) (λs H C cl fp=>vm (a.inn _ s H C cl fp) h5) (λs H C cl fp=>wF o (a.inn _ s H C cl fp) h6) (λs H C cl fp=>o.oe (a.inn _ s H C cl fp) h7) (rP b5) (λenv=>rP b6)
def xE(t:Tr)(c:Tc):Expr->Option QF
 |.Attribute o f _=>gd (baseOk o) ((t.W c o).bind λfo=>some (gq f fo))
 |.Call (.Attribute o m apos) es [] pos=>aaD t c o m es apos pos
 |.Compare e [op] [.Attribute o f _] _=>adR t c e op o f
 |.Compare e [op] [.Name x _] _=>Zi t c e op x
 |.Subscript (.Name x _) e _=>(match c.G.lookup x with
  |some (.dic kvs)=>(t.W c e).bind λfe=>gd (Ju c.sc x&&(!Jx x&&!abn e)) (some (adB kvs fe))
  |_=>none)
 |.ListComp elt [⟨tg,iter,ifs,0⟩,⟨tg1,iter1,ifs1,0⟩] scope _=>Uv t c elt tg iter ifs tg1 iter1 ifs1 scope
 |.Call (.Name x _) [e] [] _=>(match xq c x "sorted" with
  |true=>aaV t c e
  |false=>match xq c x "list",e with
   |true,.Attribute o f _=>(c.hs.df.lookup f).bind λ_=>(t.W c o).bind λfo=>gd (baseOk o) (some (Fq f fo))
   |_,_=>none)
 |_=>none
theorem anR(o:t.Ok)(a:Amb ak c X W k){e:Expr}{f:QF}(h:xE t c e=some f):QE ak X W e f:=by
 unfold xE at h;split at h
 .obtain⟨hb,h⟩:=bA.mp h;obtain⟨fo,h1,h⟩:=atv.mp h;cases h;exact amQ a.hk.co (o.ow a h1) hb
 .exact afW o a h
 .exact(acB o a h).1
 .exact(aaC o a h).1
 .split at h
  .next kvs hl=>
   obtain⟨fe,h1,h⟩:=atv.mp h;obtain⟨hb,h⟩:=bA.mp h;cases h;simp only[atx]at hb;exact akH (a.gl _ _ hl) (vq a hb.1) (vo (by simpa using hb.2.1)).1 (o.ow a h1) (aaW hb.2.2)
  .cases h
 .exact ahi o a h
 .split at h
  .next hb=>
   obtain⟨rfl,hg,hm⟩:=qm a hb;exact aeF o a hg hm h
  .split at h
   .next hb=>
    obtain⟨_,_,h⟩:=atv.mp h;obtain⟨fo,h1,h⟩:=atv.mp h;obtain⟨hb2,h⟩:=bA.mp h;cases h;obtain⟨rfl,hg,hm⟩:=qm a hb;exact ag0 a.hk.co a.hk.hw a.calm hg hm (o.ow a h1) hb2
   .cases h
 .cases h
def xW(t:Tr)(c:Tc):Expr->Option QF
 |.Attribute o f _=>gd (baseOk o) ((t.W c o).bind λfo=>some (bL f fo))
 |_=>none
theorem anK(o:t.Ok)(a:Amb ak c X W k){e:Expr}{f:QF}(h:xW t c e=some f):QW ak X W e f:=by
 unfold xW at h;split at h
 .obtain⟨hb,h⟩:=bA.mp h;obtain⟨fo,h1,h⟩:=atv.mp h;cases h;exact akR a.hk.co (o.ow a h1) hb
 .cases h
def xT(t:Tr)(c:Tc):Expr->Option QT
 |.Compare e [op] [.Attribute o f _] _=>(adR t c e op o f).bind λg=>some (aW g)
 |.Compare e [op] [.Name x _] _=>(Zi t c e op x).bind λg=>some (aW g)
 |_=>none
theorem ank(o:t.Ok)(a:Amb ak c X W k){e:Expr}{f:QT}(h:xT t c e=some f):u6 ak X W e f:=by
 unfold xT at h;split at h
 .obtain⟨g,h1,h⟩:=atv.mp h;cases h;exact(acB o a h1).2
 .obtain⟨g,h1,h⟩:=atv.mp h;cases h;exact(aaC o a h1).2
 .cases h
def xI(t:Tr)(c:Tc)(firm:Bool):Expr->Option IF
 |.Attribute o f _=>(match firm with
  |true=>none
  |false=>(c.hs.df.lookup f).bind λ_=>gd (baseOk o) ((t.W c o).bind λfo=>some (Ey f fo)))
 |_=>none
theorem aoi(o:t.Ok)(a:Amb ak c X W k){firm:Bool}{tg e:Expr}{f:IF}(h:xI t c firm e=some f):QI ak X W firm tg e f:=by
 unfold xI at h;split at h
 .split at h
  .cases h
  .obtain⟨_,_,h⟩:=atv.mp h;obtain⟨hb,h⟩:=bA.mp h;obtain⟨fo,h1,h⟩:=atv.mp h;cases h;exact agN a.hk.co a.hk.hw (o.ow a h1) hb
 .cases h
def els{α:Type}(a b:Option α):Option α:=match a with
 |some x=>some x
 |none=>b
theorem yI{α:Type}{a b:Option α}{x:α}(h:els a b=some x):a=some x\/b=some x:=by
 cases a with
 |none=>exact .inr h
 |some y=>exact .inl h
def xtE(t:Tr)(c:Tc)(e:Expr):Option QF:=els (xE t c e) (stE t c e)
def xtW(t:Tr)(c:Tc)(e:Expr):Option QF:=els (xW t c e) (stW t c e)
def xtT(t:Tr)(c:Tc)(e:Expr):Option QT:=els (xT t c e) (stT t c e)
def xtI(t:Tr)(c:Tc)(firm:Bool)(tg e:Expr):Option IF:=els (xI t c firm e) (stI t c firm tg e)
end
structure wZ(ak:aX)(c:Tc)(X:Cx)(W:WX)(k:Nat):Prop extends Amb ak c X W k where
 ps:PassesOwn (model X.prog X.w) X.A X.env X.xe
 st:X.stack=X.env::X.outer
 fr:X.env.frame=some X.env.locals
 kf:X.env.scope.kind=.function
structure Ts where
 G:Tc->Expr->Option GF
 H:Tc->Expr->Option GT
 S:Tc->Stmt->Option SF
 B:Tc->List Stmt->Option SF
structure Ts.Ok(s:Ts)(q:Bool):Prop where
 og:∀{ak:aX} {c:Tc} {X:Cx} {W:WX} {k:Nat},wZ ak c X W k->∀{e:Expr} {f:GF},s.G c e=some f->GE ak X W q e f
 oh:∀{ak:aX} {c:Tc} {X:Cx} {W:WX} {k:Nat},wZ ak c X W k->∀{e:Expr} {f:GT},s.H c e=some f->GTe ak X W q e f
 os:∀{ak:aX} {c:Tc} {X:Cx} {W:WX} {k:Nat},wZ ak c X W k->∀{e:Stmt} {f:SF},s.S c e=some f->SE ak X W q e f
 ob:∀{ak:aX} {c:Tc} {X:Cx} {W:WX} {k:Nat},wZ ak c X W k->∀{e:List Stmt} {f:SF},s.B c e=some f->Mu ak X W q e f
def Il:Expr->Bool
 |.ListComp _ _ _ _=>true
 |.SetComp _ _ _ _=>true
 |.DictComp _ _ _ _ _=>true
 |_=>false
theorem Jy{e:Expr}{tg:Option Expr}{l:Nat}{env:PySem.Env}(h:Il e=false):swapsWith e tg l env=pure false:=by cases e<;>first | rfl | cases h
def adz:Expr->Bool
 |.Tuple _ _ _=>true
 |_=>false
def swB(sc:Scope)(v:Expr)(scope:Scope)(x:Str)(p:Pos):Bool:=(match sc.names.lookup x with
 |some .local=>true
 |_=>false)&&(p.line==v.pos.line&&!(scope.names.any λ(n,k)=>n==x&&(k==.local || k==.cell)))
theorem Us{X:Cx}{elt:Expr}{gens:List Comprehension}{scope:Scope}{pos p:Pos}{x:Str}{l:Nat}(hk:X.env.scope.kind=.function)(h:swB X.env.scope (.ListComp elt gens scope pos) scope x p=true):X.env.scope.names.lookup x=some .local/\swapsWith (.ListComp elt gens scope pos) (some (.Name x p)) l X.env=pure true:=by
 unfold swB at h;simp only[atx]at h;obtain⟨h1,h2,h3⟩:=h;have e1:X.env.scope.names.lookup x=some .local:=by
  split at h1
  .assumption
  .cases h1
 refine⟨e1,?_⟩;have eb:X.env.blockKind=.function:=by unfold PySem.Env.blockKind;rw[hk];rfl
 unfold swapsWith
 show(pure (X.env.blockKind==.function&&X.env.kindOf x==some .local&&p.line==(Expr.ListComp elt gens scope pos).pos.line&&!(scope.names.any λ(n,k)=>n==x&&(k==.local || k==.cell))):Sem Bool)=pure true
 rw[eb,h2,h3];unfold PySem.Env.kindOf;rw[e1];rfl
theorem afq{X:Cx}{elt:Expr}{gens:List Comprehension}{scope:Scope}{pos p:Pos}{x:Str}{l:Nat}(h:(p.line==(Expr.ListComp elt gens scope pos).pos.line)=false):swapsWith (.ListComp elt gens scope pos) (some (.Name x p)) l X.env=pure false:=by
 unfold swapsWith
 show(pure (X.env.blockKind==.function&&X.env.kindOf x==some .local&&p.line==(Expr.ListComp elt gens scope pos).pos.line&&!(scope.names.any λ(n,k)=>n==x&&(k==.local || k==.cell))):Sem Bool)=pure false
 rw[h,Bool.and_false,Bool.false_and]
def trN(t:Tr)(c:Tc):Expr->Option IF
 |.List es _=>(IK t c es).bind λfr=>some (LQ fr)
 |_=>none
theorem afC{ak:aX}{c:Tc}{X:Cx}{W:WX}{k:Nat}{t:Tr}(o:t.Ok)(a:Amb ak c X W k){e:Expr}{f:IF}(h:trN t c e=some f):FE ak X W e f/\Il e=false:=by
 unfold trN at h;split at h
 .obtain⟨fr,h1,h⟩:=atv.mp h;cases h;exact⟨alv (vY o a h1).1,rfl⟩
 .cases h
def VH(c:Tc):List Str->Option (List Nat)
 |[]=>some []
 |x::xs=>(match c.sc.names.lookup x with
  |some .local=>(idx c.N x).bind λi=>(VH c xs).bind λjs=>some (i::js)
  |_=>none)
theorem acL{ak:aX}{c:Tc}{X:Cx}{W:WX}{k:Nat}(a:Amb ak c X W k):∀{xs:List Str} {js:List Nat},VH c xs=some js->xs.length=js.length/\∀(n:Nat) (x:Str) (j:Nat),xs[n]?=some x->js[n]?=some j->X.N[j]?=some x/\X.env.scope.names.lookup x=some .local
 |[],js,h=>by
  cases h;exact⟨rfl,λn x j e=>by simp at e⟩
 |x::xs,js,h=>by
  rw[VH]at h;split at h
  .next e=>
   obtain⟨i,h1,h⟩:=atv.mp h;obtain⟨r,h2,h⟩:=atv.mp h;cases h;obtain⟨i1,i2⟩:=acL a h2;refine⟨by simp[i1],λn y j e1 e2=>?_⟩;cases n with
   |zero=>
    simp at e1 e2;subst e1 e2;exact⟨by rw[a.hN];exact JC h1,by rw[a.hs];exact e⟩
   |succ n=>exact i2 n y j (by simpa using e1) (by simpa using e2)
  .cases h
def nmE:Expr->Option (Str×Nat)
 |.Name x p=>some (x,p.line)
 |_=>none
def Wn:List Expr->Option (List (Str×Nat))
 |[]=>some []
 |e::es=>(nmE e).bind λx=>(Wn es).bind λr=>some (x::r)
def pnB(c:Tc)(ts vs:List Expr):Option (List Nat):=
 (Wn ts).bind λnls=>gd ((ts.length==2 || ts.length==3)&&(vs.length==ts.length&&(vs.all nst&&(nls.all (λp=>p.2==((ts.head?.map (·.pos.line)).getD 0))&&((nls.map (·.1)).eraseDups.length==nls.length&&(!(vs.all (foldedForSure 8))&&!(vs.all (constantsAlone 8)))))))) (VH c (nls.map (·.1)))
theorem aax:∀{ts:List Expr} {nls:List (Str×Nat)},Wn ts=some nls->nls.length=ts.length
 |[],_,h=>by cases h;rfl
 |e::es,_,h=>by
  rw[Wn]at h;obtain⟨x,h1,h⟩:=atv.mp h;obtain⟨r,h2,h⟩:=atv.mp h;cases h;simp[aax h2]
theorem Ud{sc:Scope}{l:Nat}:∀{ts:List Expr} {nls:List (Str×Nat)},Wn ts=some nls->nls.all (λp=>p.2==l)=true->(∀x∈nls.map (·.1),sc.names.lookup x=some .local)->
  (ts.filterMap λe=>match e with
  |.Name id pos=>if sc.names.lookup id==some .local&&pos.line==l then some id else none
  |_=>none)=nls.map (·.1)
 |[],_,h,_,_=>by cases h;rfl
 |e::es,_,h,hl,hk=>by
  rw[Wn]at h;obtain⟨x,h1,h⟩:=atv.mp h;obtain⟨r,h2,h⟩:=atv.mp h;cases h;rw[auk,atx]at hl;have ih:=Ud (sc:=sc) h2 hl.2 λy hy=>hk y (atA _ hy);cases e with
  |Name y p=>
   cases h1;have e1:=hk y atD;have e2:(if sc.names.lookup y==some .local&&p.line==l then some y else none)=some y:=by rw[e1,show(p.line==l)=true from hl.1];rfl
   simp only[List.filterMap_cons,e2,ih,atE]
  |_=>cases h1
theorem MJ:∀(n:Nat) (l:List Str),l.length=n->l.eraseDups.length=l.length->l.Nodup:=by
 intro n
 induction n using Nat.strongRecOn with
 |_ n ih=>
  intro l hn h;cases l with
  |nil=>exact auS
  |cons a r=>
   rw[auN]at h;simp only[atQ]at h hn;have h1:(r.filter λb=>!b==a).length<=r.length:=atU _ _;have h2:∀l:List Str,l.eraseDups.length<=l.length:=by
    intro l
    induction hm:l.length using Nat.strongRecOn generalizing l with
    |_ m ihm=>
     cases l with
     |nil=>simp
     |cons x xs=>
      rw[auN];simp only[atQ]at hm |-
      have z:(xs.filter λb=>!b==x).length<=xs.length:=atU _ _;have:=ihm _ (by omega) (xs.filter λb=>!b==x) rfl;omega
   have h3:=h2 (r.filter λb=>!b==a);have e1:(r.filter λb=>!b==a).length=r.length:=by omega
   have e2:(r.filter λb=>!b==a)=r:=auO.mpr (List.length_filter_eq_length_iff.mp e1);rw[e2]at h;rw[auC];refine⟨λz=>?_,ih r.length (by omega) r rfl (by omega)⟩;have:=auO.mp e2 a z;simp at this
theorem ach{ak:aX}{c:Tc}{X:Cx}{W:WX}{k:Nat}(a:Amb ak c X W k):∀{xs:List Str} {js:List Nat},VH c xs=some js->xs.Nodup->js.Nodup/\∀j∈js,∃x∈xs,X.N[j]?=some x
 |[],js,h,_=>by
  cases h;exact⟨auS,λj hj=>by simp at hj⟩
 |x::xs,js,h,nd=>by
  rw[VH]at h;rw[auC]at nd;split at h
  .next e=>
   obtain⟨i,h1,h⟩:=atv.mp h;obtain⟨r,h2,h⟩:=atv.mp h;cases h;obtain⟨i1,i2⟩:=ach a h2 nd.2;have hi:X.N[i]?=some x:=by rw[a.hN];exact JC h1
   refine⟨auC.mpr ⟨λz=>?_,i1⟩,λj hj=>?_⟩
   .obtain⟨y,hy,e2⟩:=i2 i z;rw[hi]at e2;cases e2;exact nd.1 hy
   .rcases atO.mp hj with rfl|hj
    .exact⟨x,atD,hi⟩
    .obtain⟨y,hy,e2⟩:=i2 j hj;exact⟨y,atA _ hy,e2⟩
  .cases h
theorem ajW{vs:List Expr}(h:vs.all nst=true):(vs.any λe=>match e with
  |.Starred _ _=>true
  |_=>false)=false:=by
 induction vs with
 |nil=>rfl
 |cons v vs ih=>
  rw[auk,atx]at h;rw[auF,ih h.2,Bool.or_false];cases v<;>first | rfl | cases h.1
theorem alZ{ak:aX}{c:Tc}{X:Cx}{W:WX}{k:Nat}(a:wZ ak c X W k){ts vs:List Expr}{js:List Nat}{kt k2:Nat}{pt p2:Pos}(h:pnB c ts vs=some js) :
  ∃xs:List Str,xs.length=js.length/\js.length<=3/\js.Nodup/\(∀(n:Nat) (x:Str) (j:Nat),xs[n]?=some x->js[n]?=some j->X.N[j]?=some x/\X.env.scope.names.lookup x=some .local)/\swappedStores [.Tuple ts kt pt] (.Tuple vs k2 p2) X.env=pure (some xs):=by
 unfold pnB at h;obtain⟨nls,h1,h⟩:=atv.mp h;obtain⟨hb,h⟩:=bA.mp h;simp only[atx,atV]at hb;obtain⟨b1,b2,b3,b4,b5,b6,b7⟩:=hb;have l1:=aax h1;obtain⟨i1,i2⟩:=acL a.toAmb h;have nd:=MJ _ _ rfl (by rw[atJ];exact au8 b5);obtain⟨d1,d2⟩:=ach a.toAmb h nd;have hloc:∀x∈nls.map (·.1),X.env.scope.names.lookup x=some .local:=λx hx=>by
  obtain⟨n,hn,e⟩:=List.mem_iff_getElem.mp hx;have hj:n<js.length:=by rw[<-i1];exact hn
  exact(i2 n x js[n] (by rw[atz hn,e]) (atz hj)).2
 have hf:=Ud (sc:=X.env.scope) h1 b4 hloc;have h3:ts.length=2\/ts.length=3:=by rw[auB]at b1;exact b1.imp au8 au8
 refine⟨nls.map (·.1),i1,?_,d1,i2,?_⟩
 .rw[<-i1,atJ,l1];omega
 .have eb:X.env.blockKind=.function:=by
   unfold PySem.Env.blockKind;rw[a.kf];rfl
  unfold swappedStores;have e1:(!(ts.length==2 || ts.length==3) || vs.length != ts.length || X.env.blockKind != .function)=false:=by rw[b1,eb,au8 b2];simp
  have e2:=ajW b3;have e3:(nls.map (·.1)).length=ts.length:=by rw[atJ,l1]
  have e4:((nls.map (·.1)).length != ts.length || (nls.map (·.1)).eraseDups.length != (nls.map (·.1)).length)=false:=by rw[e3,au8 b5,l1];simp
  simp only[e1,aud,if_false];generalize hA:List.filterMap (β:=Str) _ ts=A;have eA:A=nls.map (·.1):=hA.symm.trans hf;subst eA;split
  .next z=>exact absurd (z.symm.trans e2) (by decide)
  .rw[e4,b6,b7];rfl
section
variable{X:Cx}{ak:aX}{W:WX}{q:Bool}{e:Expr}{pos:Pos}
theorem alK{j:Nat}{y:Str}{py:Pos}{elt tg iter:Expr}{cpos:Pos}{scope:Scope}{own:List (Str×Nat)}{it:IF}{tgf:gj}{js:List Nat}{tt:QT}{te:QF}{ifs:List Expr}(hc:X.calm=true)(hN:X.N.Nodup)(hy:X.N[j]?=some y)(hyl:X.env.scope.names.lookup y=some .local)
  (hsw:swapsWith (.ListComp elt [⟨tg,iter,ifs,0⟩] scope cpos) (some (.Name y py)) pos.line X.env=pure true) (hi:QI ak X W false tg iter it) (ok:blkC X.N X.env.scope scope own=true) (hj:∀j∈js,j∈own.map (·.2))
  (hg:∀(s:Shared) (H:Hp) (C:Addr) (cl:List (Str×Addr)) (fp:List Addr),QG ak (X.blk s H scope (compEnvC scope cl C X.env) fp) tg js tgf)
  (ht:∀(s:Shared) (H:Hp) (C:Addr) (cl:List (Str×Addr)) (fp:List Addr),PTs (X.blk s H scope (compEnvC scope cl C X.env) fp) ifs (jV X.K ak WF tt))
  (he:∀(s:Shared) (H:Hp) (C:Addr) (cl:List (Str×Addr)) (fp:List Addr),QE ak (X.blk s H scope (compEnvC scope cl C X.env) fp) WF elt te) (hs:∀x,foldedSetIterable iter X.env x=pure x) :
  SE ak X W q (.Assign [.Name y py] (.ListComp elt [⟨tg,iter,ifs,0⟩] scope cpos) pos) (Ba j (zj it tgf (own.map (·.2)) tt te)):=by
 refine PS.weak (ps_setLc (g:=zA X.K ak js tgf) (tt:=jV X.K ak WF tt) (te:=tQ X.K ak WF te) hc hN hy hyl hsw hi (blkOk_by ok) (λs H C cl fp=>hg s H C cl fp) ht (λs H C cl fp=>he s H C cl fp) hs) λD σ H h=>?_;exact aaj hj σ H _ (afw D σ H h)
end
def aiD(t:Tr)(c:Tc)(elt tg iter:Expr)(ifs:List Expr)(scope:Scope):Option IF:=
 (t.I c false tg iter).bind λit=>(Vc (c.inn scope) tg).bind λjt=>(RW t (c.inn scope) ifs).bind λtt=>(t.E (c.inn scope) elt).bind λte=>
  gd (blkC c.N c.sc scope (pF tg jt.1)&&(N5 jt.1 ((pF tg jt.1).map (·.2))&&!zK iter)) (some (zj it jt.2 ((pF tg jt.1).map (·.2)) tt te))
def VL(t:Tr)(c:Tc)(x:Str)(p:Pos)(elt tg iter:Expr)(ifs:List Expr)(scope:Scope)(cpos:Pos):Option SF:=
 (yr c x).bind λj=>gd (swB c.sc (.ListComp elt [⟨tg,iter,ifs,0⟩] scope cpos) scope x p || !(p.line==(Expr.ListComp elt [⟨tg,iter,ifs,0⟩] scope cpos).pos.line))
  (match c.ml.contains x with
  |true=>(aiD t c elt tg iter ifs scope).bind λf=>some (Ba j f)
  |false=>(aar t c elt tg iter ifs scope).bind λf=>some (aZ (aF j) (gOf f)))
section
variable{ak:aX}{c:Tc}{X:Cx}{W:WX}{k:Nat}{t:Tr}{q:Bool}
theorem aek(o:t.Ok)(a:wZ ak c X W k){x:Str}{p cpos pos:Pos}{elt tg iter:Expr}{ifs:List Expr}{scope:Scope}{f:SF}(h:VL t c x p elt tg iter ifs scope cpos=some f):SE ak X W q (.Assign [.Name x p] (.ListComp elt [⟨tg,iter,ifs,0⟩] scope cpos) pos) f:=by
 unfold VL at h;obtain⟨j,hj,h⟩:=atv.mp h;obtain⟨hsw,h⟩:=bA.mp h;obtain⟨s1,s2,s3⟩:=pB a.toAmb hj;rw[auB]at hsw;split at h
 .obtain⟨f1,h1,h⟩:=atv.mp h;cases h;unfold aiD at h1;obtain⟨it,h2,h1⟩:=atv.mp h1;obtain⟨⟨js,tf⟩,h3,h1⟩:=atv.mp h1;obtain⟨tt,h4,h1⟩:=atv.mp h1;obtain⟨te,h5,h1⟩:=atv.mp h1;obtain⟨hb,h1⟩:=bA.mp h1;cases h1;simp only[atx,atV]at hb;obtain⟨b1,b2,b3⟩:=hb;rcases hsw with hsw|hsw
  .rw[<-a.hs]at hsw;obtain⟨l1,l2⟩:=Us (l:=pos.line) a.kf hsw;exact alK a.calm a.nd s1 l1 l2 (o.oi a.toAmb h2) (by rw[a.hN,a.hs];exact b1) (qw b2) (λs H C cl fp=>vm (a.toAmb.inn scope s H C cl fp) h3) (λs H C cl fp=>wF o (a.toAmb.inn scope s H C cl fp) h4) (λs H C cl fp=>o.oe (a.toAmb.inn scope s H C cl fp) h5) (rP b3)
  .exact afN a.nd s1 s2 s3 (an2 a.calm a.nd (o.oi a.toAmb h2) (by rw[a.hN,a.hs];exact b1) (qw b2) (λs H C cl fp=>vm (a.toAmb.inn scope s H C cl fp) h3) (λs H C cl fp=>wF o (a.toAmb.inn scope s H C cl fp) h4) (λs H C cl fp=>o.oe (a.toAmb.inn scope s H C cl fp) h5) (rP b3)) (afq (by simpa using hsw))
 .obtain⟨f1,h1,h⟩:=atv.mp h;cases h;rcases hsw with hsw|hsw
  .rw[<-a.hs]at hsw;obtain⟨l1,l2⟩:=Us (l:=pos.line) a.kf hsw;unfold aar at h1;obtain⟨it,h2,h1⟩:=atv.mp h1;obtain⟨⟨js,tf⟩,h3,h1⟩:=atv.mp h1;obtain⟨tt,h4,h1⟩:=atv.mp h1;obtain⟨te,h5,h1⟩:=atv.mp h1;obtain⟨hb,h1⟩:=bA.mp h1;cases h1;simp only[atx,atV]at hb;obtain⟨b1,b2,b3⟩:=hb;exact aml a.calm a.nd s1 l1 l2 (o.oi a.toAmb h2) (by rw[a.hN,a.hs];exact b1) (qw b2) (λs H C cl fp=>vm (a.toAmb.inn scope s H C cl fp) h3) (λs H C cl fp=>wF o (a.toAmb.inn scope s H C cl fp) h4) (λs H C cl fp=>o.oe (a.toAmb.inn scope s H C cl fp) h5) (rP b3)
  .exact aaX (ah8 (ac6 o a.toAmb h1)) (V9 a.nd s1 s2 s3) (afq (l:=pos.line) (by simpa using hsw)) (by with_unfolding_all rfl) (by with_unfolding_all rfl)
end
theorem Em{tg e:Expr}{l:Nat}{env:PySem.Env}(h:Il e=false):swapsWithSole [tg] e l env=pure false:=Jy h
def adJ(t:Tr)(s:Ts)(c:Tc):Expr->Expr->Option SF
 |.Name x p,.ListComp elt [⟨tg,iter,ifs,0⟩] scope cpos=>VL t c x p elt tg iter ifs scope cpos
 |.Name x _,e=>(yr c x).bind λj=>match c.ml.contains x with
  |true=>(trN t c e).bind λf=>some (Ba j f)
  |false=>gd (!Il e) ((s.G c e).bind λf=>some (aZ (aF j) f))
 |.Tuple [.Name x _,.Starred (.Name y _) _] _ _,e=>(yr c x).bind λi=>(yr c y).bind λj=>gd (!Il e&&!adz e) ((s.G c e).bind λf=>some (Zm i j f))
 |.Tuple ts _ _,.Tuple vs _ _=>(pnB c ts vs).bind λjs=>(IK t c vs).bind λf=>some (sPN js f)
 |.Tuple ts _ _,e=>(abq c ts).bind λjs=>gd (!Il e&&!adz e) ((s.G c e).bind λf=>some (aZ (bB js) f))
 |_,_=>none
theorem Td{tg e:Expr}{env:PySem.Env}(h:adz e=false):swappedStores [tg] e env=pure none:=by cases tg<;>first | rfl | (cases e<;>first | rfl | cases h)
section
variable{ak:aX}{c:Tc}{X:Cx}{W:WX}{k:Nat}{t:Tr}{s:Ts}{q:Bool}
theorem ahb(o:t.Ok)(os:s.Ok q)(a:wZ ak c X W k){tg e:Expr}{pos:Pos}{f:SF}(h:adJ t s c tg e=some f):SE ak X W q (.Assign [tg] e pos) f:=by
 unfold adJ at h;split at h
 .exact aek o a h
 .obtain⟨j,hj,h⟩:=atv.mp h;obtain⟨s1,s2,s3⟩:=pB a.toAmb hj;split at h
  .obtain⟨f1,h1,h⟩:=atv.mp h;cases h;obtain⟨i1,i2⟩:=afC o a.toAmb h1;exact afN a.nd s1 s2 s3 i1 (Jy i2)
  .obtain⟨hc,h⟩:=bA.mp h;obtain⟨f1,h1,h⟩:=atv.mp h;cases h;exact aaX (os.og a h1) (V9 a.nd s1 s2 s3) (Em (by simpa using hc)) (by with_unfolding_all rfl) (by with_unfolding_all rfl)
 .obtain⟨i,hi,h⟩:=atv.mp h;obtain⟨j,hj,h⟩:=atv.mp h;obtain⟨hc,h⟩:=bA.mp h;obtain⟨f1,h1,h⟩:=atv.mp h;cases h;simp only[atx,atV]at hc;exact aj7 a.calm a.nd (pB a.toAmb hi) (pB a.toAmb hj) (os.og a h1) (Em hc.1) (Td hc.2)
 .obtain⟨js,hj,h⟩:=atv.mp h;obtain⟨f1,h1,h⟩:=atv.mp h;cases h;obtain⟨xs,p1,p2,p3,p4,p5⟩:=alZ a hj;exact aos a.calm a.nd p3 p1 p2 p4 (vY o a.toAmb h1).1 p5 (Em rfl)
 .obtain⟨js,hj,h⟩:=atv.mp h;obtain⟨hc,h⟩:=bA.mp h;obtain⟨f1,h1,h⟩:=atv.mp h;cases h;simp only[atx,atV]at hc;exact aaX (os.og a h1) (afP a.calm a.nd (Vw a.toAmb hj)) (Em hc.1) (Td hc.2) (by with_unfolding_all rfl)
 .cases h
end
def aej(s:Ts)(c:Tc):List Stmt->Option SF
 |[]=>some aK
 |[a]=>s.S c a
 |a::b::r=>(s.S c a).bind λf=>(s.B c (b::r)).bind λg=>some (aC f g)
def stS(t:Tr)(s:Ts)(c:Tc):Stmt->Option SF
 |.Assign [tg] e _=>adJ t s c tg e
 |.Assign [.Name x _,.Name y _] e _=>(yr c x).bind λi=>(yr c y).bind λj=>gd (!adz e) ((s.G c e).bind λf=>some (T7 i j f))
 |.AugAssign (.Name x _) .Add e _=>(yr c x).bind λj=>(t.E c e).bind λf=>some (Im j f)
 |.Expr (.Call (.Attribute (.Name x _) m apos) [e] [] pos) _=>(Oq c x).bind λj=>gd (m=="append"&&(c.ml.contains x&&(nst e&&(apos.endLine==pos.line)))) ((t.E c e).bind λf=>some (CZ j f))
 |.Return (some e) _=>(match t.E c e with
  |some f=>some (aP f)
  |none=>(s.G c e).bind λf=>some (dw f))
 |.If d s1 s2 _=>(s.B c s1).bind λf=>(s.B c s2).bind λg=>(t.T c d).bind λtd=>some (bF td f g)
 |.For tg iter body [] _=>(t.I c true tg iter).bind λit=>(Vc c tg).bind λjt=>(s.B c body).bind λf=>gd (!zK iter) (some (oJ it jt.2 f))
 |_=>none
section
variable{ak:aX}{c:Tc}{X:Cx}{W:WX}{k:Nat}{t:Tr}{s:Ts}{q:Bool}
theorem ahK(os:s.Ok q)(a:wZ ak c X W k){b:List Stmt}{f:SF}(h:aej s c b=some f):Mu ak X W q b f:=by
 unfold aej at h;split at h
 .cases h;exact ak5
 .exact amY (os.os a h)
 .obtain⟨f1,h1,h⟩:=atv.mp h;obtain⟨f2,h2,h⟩:=atv.mp h;cases h;exact aj9 (os.os a h1) (os.ob a h2)
theorem am5(o:t.Ok)(os:s.Ok q)(a:wZ ak c X W k){st:Stmt}{f:SF}(h:stS t s c st=some f):SE ak X W q st f:=by
 unfold stS at h;split at h
 .exact ahb o os a h
 .obtain⟨i,hi,h⟩:=atv.mp h;obtain⟨j,hj,h⟩:=atv.mp h;obtain⟨hc,h⟩:=bA.mp h;obtain⟨f1,h1,h⟩:=atv.mp h;cases h;exact ajn a.nd (pB a.toAmb hi) (pB a.toAmb hj) (os.og a h1) (by with_unfolding_all rfl)
 .obtain⟨j,hj,h⟩:=atv.mp h;obtain⟨f1,h1,h⟩:=atv.mp h;cases h;obtain⟨s1,s2,s3⟩:=pB a.toAmb hj;exact alr a.nd s1 s2 s3 (o.oe a.toAmb h1)
 .obtain⟨j,hj,h⟩:=atv.mp h;obtain⟨hc,h⟩:=bA.mp h;obtain⟨f1,h1,h⟩:=atv.mp h;cases h;simp only[atx]at hc;cases au8 hc.1;obtain⟨s1,s2,s3,s4⟩:=CN a.toAmb hj;exact am7 s1 s2 s3 s4 (o.oe a.toAmb h1) hc.2.2.1 hc.2.2.2
 .split at h
  .next f1 h1=>
   cases h;exact anf (o.oe a.toAmb h1)
  .obtain⟨f1,h1,h⟩:=atv.mp h;cases h;exact aiJ (os.og a h1)
 .obtain⟨f1,h1,h⟩:=atv.mp h;obtain⟨f2,h2,h⟩:=atv.mp h;obtain⟨td,h3,h⟩:=atv.mp h;cases h;exact an7 (o.ot a.toAmb h3) (os.ob a h1) (os.ob a h2)
 .obtain⟨it,h1,h⟩:=atv.mp h;obtain⟨⟨js,tf⟩,h2,h⟩:=atv.mp h;obtain⟨f1,h3,h⟩:=atv.mp h;obtain⟨hc,h⟩:=bA.mp h;cases h;exact amo a.ps a.calm (o.oi a.toAmb h1) (vm a.toAmb h2) (os.ob a h3) (rP (by simpa using hc))
 .cases h
end
abbrev GA:=Mo->Env->bG (List Dat)
def anS:GA:=λM _=>.ok [] M
def amm(a:GF)(r:GA):GA:=λM Z=>(a M Z).bind λd M1=>(r M1 Z).bind λds M2=>.ok (d::ds) M2
def am8(m:Mo->List Dat->bG Dat)(as:GA):GF:=λM Z=>(as M Z).bind λds M1=>m M1 ds
def akN(m:Mo->List Dat->Out Dat)(as:GA):GF:=λM Z=>(as M Z).bind λds M1=>(m M1 ds).at M1
section
variable{X:Cx}{ak:aX}{W:WX}{q:Bool}{a b e:Expr}{es:List Expr}{pos p:Pos}
variable{x:Str}{k:Nat}{f:Addr}{fd:FuncData}{ps:List Str}
def an1(a:GT):GT:=λM Z=>(a M Z).bind λb M1=>.ok (!b) M1
def anW(a b:GT):GT:=λM Z=>(a M Z).bind λx M1=>if x=true then b M1 Z else .ok false M1
def aoT(a b:GT):GT:=λM Z=>(a M Z).bind λx M1=>if x=true then .ok true M1 else b M1 Z
def aoj(a:GF):GT:=λM Z=>(a M Z).bind λd M1=>(KN d).at M1
end
section
variable{ak:aX}{c:Tc}{X:Cx}{W:WX}{k:Nat}{t:Tr}{s:Ts}{q:Bool}
def xG(t:Tr)(s:Ts)(c:Tc):Expr->Option GF
 |.Call (.Name x _) [] [] _=>(match c.G.lookup x with
  |some (.cls 0 m)=>gd (Ju c.sc x&&!Jx x) (some (Dj x m au))
  |_=>none)
 |.Call (.Name x _) (e::es) [] _=>(match c.G.lookup x with
  |some (.fg n m)=>gd (Ju c.sc x&&(!Jx x&&decide ((e::es).length=n))) ((IK t c (e::es)).bind λas=>some (Bx m as))
  |some (.cls n m)=>gd (Ju c.sc x&&(!Jx x&&decide ((e::es).length=n))) ((IK t c (e::es)).bind λas=>some (Dj x m as))
  |_=>none)
 |.Call (.Attribute o m apos) es [] pos=>(c.hs.Ms.lookup m).bind λtb=>(t.W c o).bind λfo=>(IK t c es).bind λas=>
  gd (tbN tb (es.length+1)&&(baseOk o&&(decide (es.length<30)&&(apos.endLine==pos.line)))) (some (bW tb fo as))
 |_=>none
theorem aof(o:t.Ok)(os:s.Ok false)(a:wZ ak c X W k){e:Expr}{f:GF}(h:xG t s c e=some f):GE ak X W false e f:=by
 unfold xG at h;split at h
 .split at h
  .next m hl=>
   obtain⟨hb,h⟩:=bA.mp h;cases h;simp only[atx,atV]at hb;exact aiQ a.rm (a.gl _ _ hl) (vq a.toAmb hb.1) (vo hb.2).1
  .cases h
 .split at h
  .next n m hl=>
   obtain⟨hb,h⟩:=bA.mp h;simp only[atx,atV,au1]at hb;obtain⟨b1,b2,b3⟩:=hb;obtain⟨fa,hm,hk,fd,ps,j,hj,hp,hB,F⟩:=a.gl _ _ hl;obtain⟨as,h1,h⟩:=atv.mp h;cases h;obtain⟨i1,i2,i3⟩:=vY o a.toAmb h1;exact ajs a.tk F (a.rm.mono hj) (vq a.toAmb b1) hm hk hB i1 (b3.trans hp.symm) (vo b2).1 i2 i3
  .next n m hl=>
   obtain⟨hb,h⟩:=bA.mp h;simp only[atx,atV,au1]at hb;obtain⟨b1,b2,b3⟩:=hb;obtain⟨as,h1,h⟩:=atv.mp h;cases h;obtain⟨i1,i2,i3⟩:=vY o a.toAmb h1;exact akP a.rm (a.gl _ _ hl) (vq a.toAmb b1) (vo b2).1 i1 i2 (λM Z ds z=>by rw[i3 M Z ds z];exact b3)
  .cases h
 .next b m apos es pos=>
  obtain⟨tb,h1,h⟩:=atv.mp h;obtain⟨fo,h2,h⟩:=atv.mp h;obtain⟨as,h3,h⟩:=atv.mp h;obtain⟨hb,h⟩:=bA.mp h;cases h;simp only[atx,au1]at hb;obtain⟨b2,b3,b4,b5⟩:=hb;obtain⟨i1,i2,i3⟩:=vY o a.toAmb h3;cases es with
  |nil=>
   cases h3;exact ahP a.tk a.rm (Zo a.toAmb h1 b2) (o.ow a.toAmb h2) b3 b5
  |cons e es=>exact ajU a.tk a.rm (Zo a.toAmb h1 b2) (o.ow a.toAmb h2) i1 i3 b3 i2 b5 b4
 .cases h
theorem KJ{e o:Expr}{f:Str}{p:Pos}{l:Nat}{env:PySem.Env}:swapsWith e (some (.Attribute o f p)) l env=pure false:=by cases e<;>rfl
theorem agW{e o:Expr}{i:Expr}{p:Pos}{l:Nat}{env:PySem.Env}:swapsWith e (some (.Subscript o i p)) l env=pure false:=by cases e<;>rfl
theorem ahd{o:Expr}{f:Str}{p spos:Pos}{i:Expr}{env:PySem.Env}(h:abn i=false):∀v,assign (.Subscript (.Attribute o f p) i spos) env v=(do
   let ov <-holding [v] (eval (.Attribute o f p) env)
   let iv <-holding [v,ov] (eval i env)
   standAt spos
   holding [v,ov,iv] (setItem ov iv v)
   release [v,ov,iv] []):=λv=>by
 cases i<;>first | (with_unfolding_all rfl) | cases h
def alM(t:Tr)(c:Tc)(kx tg iter:Expr)(scope:Scope):Option (Mo->Env->Out (List (Dat×Dat))):=
 (t.I c false tg iter).bind λit=>(Vc (c.inn scope) tg).bind λjt=>(t.E (c.inn scope) kx).bind λte=>
  gd (blkC c.N c.sc scope (pF tg jt.1)&&(N5 jt.1 ((pF tg jt.1).map (·.2))&&!zK iter)) (some (qDc it jt.2 ((pF tg jt.1).map (·.2)) te))
theorem ahN(a:Amb ak c X W k):X.A.units+64<cLine:=by have:=a.rm.un;omega
def ahW(t:Tr)(s:Ts)(c:Tc)(o:Expr)(f:Str):Expr->Option SF
 |.Dict [] [] _=>(t.W c o).bind λfo=>(c.hs.df.lookup f).bind λb=>some (Qv c.hs.ft fo f b)
 |.DictComp kx (.Constant (.bool true) _ _) [⟨tg,iter,[],0⟩] scope _=>(t.W c o).bind λfo=>(alM t c kx tg iter scope).bind λfe=>some (T9 c.hs.ft fo f fe)
 |.List es p=>(t.W c o).bind λfo=>(trN t c (.List es p)).bind λfe=>some (GJ c.hs.ft fo f fe)
 |e=>gd (!Il e) ((t.W c o).bind λfo=>(s.G c e).bind λfe=>some (wM c.hs.ft fo f fe))
theorem ajR(ot:t.Ok)(os:s.Ok false)(a:wZ ak c X W k){o e:Expr}{f:Str}{p pos:Pos}{sf:SF}(h:ahW t s c o f e=some sf):SE ak X W false (.Assign [.Attribute o f p] e pos) sf:=by
 have hk:=a.hk;unfold ahW at h;split at h
 .obtain⟨fo,h1,h⟩:=atv.mp h;obtain⟨b,h2,h⟩:=atv.mp h;cases h;exact ajp hk.co hk.fk hk.hw (ot.ow a.toAmb h1) KJ
 .obtain⟨fo,h1,h⟩:=atv.mp h;obtain⟨fe,h2,h⟩:=atv.mp h;cases h;unfold alM at h2;obtain⟨it,i1,h2⟩:=atv.mp h2;obtain⟨⟨js,tf⟩,i2,h2⟩:=atv.mp h2;obtain⟨te,i3,h2⟩:=atv.mp h2;obtain⟨hb,h2⟩:=bA.mp h2;cases h2;simp only[atx,atV]at hb;obtain⟨b1,b2,b3⟩:=hb;exact ai7 hk.co hk.fk (ot.ow a.toAmb h1) (alF (g:=zA X.K ak js tf) (tk:=tQ X.K ak WF te) a.calm a.nd (ahN a.toAmb) (ot.oi a.toAmb i1) (blkOk_by (by rw[a.hN,a.hs];exact b1)) (λs H C cl fp=>vm (a.toAmb.inn _ s H C cl fp) i2) (λs H C cl fp=>ot.oe (a.toAmb.inn _ s H C cl fp) i3) (rP b3)) (λσ H Q z=>anN hk.hw (qw b2) σ H Q z) KJ
 .obtain⟨fo,h1,h⟩:=atv.mp h;obtain⟨fe,h2,h⟩:=atv.mp h;cases h;exact ajr hk.co hk.fk (ot.ow a.toAmb h1) (afC ot a.toAmb h2).1 KJ
 .obtain⟨hc,h⟩:=bA.mp h;obtain⟨fo,h1,h⟩:=atv.mp h;obtain⟨fe,h2,h⟩:=atv.mp h;cases h;exact aiP hk.co hk.fk (ot.ow a.toAmb h1) (os.og a h2) KJ
def abF(n:Str):List Expr->Option (List Str)
 |[]=>some []
 |.Attribute (.Name m _) f _::es=>gd (m==n) ((abF n es).bind λfs=>some (f::fs))
 |_=>none
def aeg(nm:Option Str):Expr->Option Ie
 |.Constant (.str x) _ _=>some (.con (.str x))
 |.Constant .none _ _=>some (.con .none)
 |.Tuple [] _ _=>some (.con (.tuple []))
 |.Attribute (.Name m _) f _=>nm.bind λn=>gd (m==n) (some (.fld f))
 |.Tuple es _ _=>nm.bind λn=>(abF n es).bind λfs=>some (.flds fs)
 |_=>none
def Ie.fs:Ie->List Str
 |.con _=>[]
 |.fld f=>[f]
 |.flds fs=>fs
def aea(c:Tc)(nm:Option Str):List Stmt->Option (List (Nat×Ie))
 |[]=>some []
 |.Assign [.Name x _] e _::r=>(yr c x).bind λj=>(aeg nm e).bind λse=>(aea c nm r).bind λst=>some ((j,se)::st)
 |_=>none
def Wg(c:Tc):Option Str->Option (Option Nat)
 |none=>some none
 |some n=>(Oq c n).bind λi=>match c.sc.names.lookup n with
  |some .local=>some (some i)
  |_=>none
def akU(c:Tc):ExceptHandler->Option Hd
 |.ExceptHandler (some (.Name y _)) nm (s0::su) _=>(c.hs.xm.lookup y).bind λtab=>(Wg c nm).bind λi=>(aea c nm (s0::su)).bind λst=>
  (match c.G.lookup y with
  |some .exc=>some true
  |some (.exi _)=>some true
  |_=>none).bind λ_=>
  gd (Ju c.sc y&&(!Jx y&&(st.all (λp=>match i with
   |some j=>!(j==p.1)
   |none=>true)&&st.all (λp=>p.2.fs.all (λf=>((c.hs.xf.lookup y).getD []).contains f)&&decide (p.2.fs.length<=100))))) (some ⟨y,λx=>tab.lookup x,i,st⟩)
 |_=>none
def Zd(c:Tc):List ExceptHandler->Option (List Hd)
 |[]=>some []
 |h::hs=>(akU c h).bind λd=>(Zd c hs).bind λds=>some (d::ds)
theorem acF{y n:Str}{C:Addr}{a:Addr}{oe:Obj}{cls:Value}{d:Option Addr}{pn:List (Addr×Obj)}{j:Nat}{fl:List Str}(hC:ak y=some C)(T:XfC X.K C)(hno:∀f∈fl,PySem.W.findIn X.K (.ref C) f=some none)(hz:Zc cls d oe)(hf:∃vs,oe.data=.fields vs)(hN:X.N[j]?=some n)(hv:Vis X.env.scope n)(hd:(n==("__debug__" : Str))=false)(hcd:(n==("__classdict__" : Str))=false) :
  ∀{es:List Expr} {fs:List Str},abF n es=some fs->(∀f∈fs,f∈fl)->PA (X.suite a ((a,oe)::pn)) es (tUA X.K ak a cls d (some j) λx=>Tw y x fs)
 |[],fs,h,_=>by
  cases h;exact aeR
 |.Attribute (.Name m p) f p2::es,fs,h,hs=>by
  rw[abF]at h;obtain⟨hm,h⟩:=bA.mp h;obtain⟨fr,h1,h⟩:=atv.mp h;cases h;cases au8 hm;exact aj2 (afb hC T (hno f (hs f atD)) hz hf hN hv hd hcd) (acF hC T hno hz hf hN hv hd hcd h1 λf hf=>hs f (atA _ hf)) rfl
theorem ai4{y:Str}{nm:Option Str}{i:Option Nat}{a:Addr}{oe:Obj}{cls:Value}{d:Option Addr}{pn:List (Addr×Obj)}{e:Expr}{se:Ie}(am:Amb ak c X W k)(hi:Wg c nm=some i)(hy:(c.hs.xf.lookup y).getD []=fl)(hfl:∀f∈se.fs,f∈fl)(hl:se.fs.length<=100)(hz:Zc cls d oe)(hf:∃vs,oe.data=.fields vs)(h:aeg nm e=some se) :
  PE (X.suite a ((a,oe)::pn)) e (tU X.K ak a cls d i λx=>abC y x se):=by
 have fld:∀n j,nm=some n->i=some j->X.N[j]?=some n/\Vis X.env.scope n/\(n==("__debug__" : Str))=false/\(n==("__classdict__" : Str))=false:=λn j e1 e2=>by
  subst e1 e2;unfold Wg at hi;obtain⟨j',h1,hi⟩:=atv.mp hi;split at hi
  .cases hi;exact CN am h1
  .cases hi
 have hsome:∀n,nm=some n->∃j,i=some j:=λn e1=>by
  subst e1;unfold Wg at hi;obtain⟨j',h1,hi⟩:=atv.mp hi;split at hi
  .cases hi;exact⟨_,rfl⟩
  .cases hi
 have hxf:fl≠[]->∃C,ak y=some C/\XfC X.K C/\∀f∈fl,PySem.W.findIn X.K (.ref C) f=some none:=λne=>by
  cases hx:c.hs.xf.lookup y with
  |none=>
   rw[hx]at hy;exact absurd hy.symm ne
  |some l=>
   rw[hx]at hy;cases hy;exact am.hk.xf y _ hx
 unfold aeg at h;split at h
 .cases h;exact afS pe_str λσ H Q ⟨g,Z,M,x,z,I,e,kk⟩=>by
   cases e;exact kk _ H (Ex.refl H) (.str _)
 .cases h;exact afS pe_non λσ H Q ⟨g,Z,M,x,z,I,e,kk⟩=>by
   cases e;exact kk _ H (Ex.refl H) .non
 .cases h;exact PE.weak (aeK (ak:=ak) (cls:=cls) (d:=d) (i:=i) aeR λx zs e=>by cases e;exact auo _) λσ H Q z=>z
 .obtain⟨n,e1,h⟩:=atv.mp h;obtain⟨hm,h⟩:=bA.mp h;cases h;cases au8 hm;obtain⟨j,rfl⟩:=hsome _ e1;obtain⟨f1,f2,f3,f4⟩:=fld _ j e1 rfl;obtain⟨C,c1,c2,c3⟩:=hxf (List.ne_nil_of_mem (hfl _ (atF.mpr rfl)));exact afb c1 c2 (c3 _ (hfl _ (atF.mpr rfl))) hz hf f1 f2 f3 f4
 .next es _ _ hne=>
  obtain⟨n,e1,h⟩:=atv.mp h;obtain⟨fs,e2,h⟩:=atv.mp h;cases h;obtain⟨j,rfl⟩:=hsome _ e1;obtain⟨f1,f2,f3,f4⟩:=fld _ j e1 rfl;have hfs:fs≠[]:=λz=>by
   subst z
   match es,e2 with
   |[],_=>exact hne rfl
   |.Attribute (.Name m _) f _::es,e2=>
    rw[abF]at e2;obtain⟨_,e2⟩:=bA.mp e2;obtain⟨_,_,e2⟩:=atv.mp e2;cases e2
  have hfn:fl≠[]:=by
   cases fs with
   |nil=>exact absurd rfl hfs
   |cons f r=>exact List.ne_nil_of_mem (hfl f atD)
  obtain⟨C,c1,c2,c3⟩:=hxf hfn;exact aeK (acF c1 c2 c3 hz hf f1 f2 f3 f4 e2 hfl) λx zs e=>by
   have:=Ye e;have hl:fs.length<=100:=hl;omega
 .cases h
theorem Wf{y:Str}{nm:Option Str}{i:Option Nat}{a:Addr}{oe:Obj}{cls:Value}{d:Option Addr}{pn:List (Addr×Obj)}{fl:List Str}(am:Amb ak c X W k)(hi:Wg c nm=some i)(hy:(c.hs.xf.lookup y).getD []=fl)(hz:Zc cls d oe)(hf:∃vs,oe.data=.fields vs) :
  ∀{ss:List Stmt} {st:List (Nat×Ie)},aea c nm ss=some st->(∀p∈st,(∀f∈p.2.fs,f∈fl)/\p.2.fs.length<=100)->PSs (X.suite a ((a,oe)::pn)) ss (tSu X.K ak a cls d i y st)
 |[],st,h,_=>by
  cases h;exact PSs.weak pss_nil λD σ H z=>amU z
 |.Assign [.Name x p] e p2::r,st,h,hs=>by
  rw[aea]at h;obtain⟨j,h1,h⟩:=atv.mp h;obtain⟨se,h2,h⟩:=atv.mp h;obtain⟨st',h3,h⟩:=atv.mp h;cases h;obtain⟨s1,s2,s3⟩:=pB am h1;obtain⟨u1,u2⟩:=hs (j,se) atD;have he:=ai4 (a:=a) (pn:=pn) am hi hy u1 u2 hz hf h2;have hne:Il e=false/\swappedStores [.Name x p] e X.env=pure none:=by unfold aeg at h2;split at h2<;>first | exact⟨rfl,rfl⟩ | cases h2
  refine PSs.weak (pss_cons (ps_asg he (pg_name (X:=X.suite a ((a,oe)::pn)) am.nd s1 s2 s3) (Em hne.1) hne.2 (by with_unfolding_all rfl)) (Wf am hi hy hz hf h3 λp hp=>hs p (atA _ hp))) λD σ H z=>?_;exact ak9 z λσ' H' z'=>z'
def apz(ak:aX)(K:atw)(h:Hd)(D:Addr):Cl:=⟨.ref D,h.nm,λa cls d=>tSu K ak a cls d h.nm h.y h.st⟩
theorem aa6(am:Amb ak c X W k):∀{hds:List ExceptHandler} {hs:List Hd},Zd c hds=some hs->∃ls,DN X hds ls/\Jm X.K ak hs ls
 |[],hs,h=>by
  cases h;exact⟨[],.nil,.nil⟩
 |h0::hds,hs,h=>by
  rw[Zd]at h;obtain⟨d,h1,h⟩:=atv.mp h;obtain⟨ds,h2,h⟩:=atv.mp h;cases h;obtain⟨ls,i1,i2⟩:=aa6 am h2;unfold akU at h1;split at h1
  .next y np nm s0 su cp=>
   obtain⟨tab,j1,h1⟩:=atv.mp h1;obtain⟨i,j2,h1⟩:=atv.mp h1;obtain⟨st,j3,h1⟩:=atv.mp h1;obtain⟨_,j4,h1⟩:=atv.mp h1;obtain⟨hb,h1⟩:=bA.mp h1;cases h1;simp only[atx,atV]at hb;obtain⟨b1,b2,b3,b4⟩:=hb;obtain⟨⟨D,hD⟩,hx⟩:=am.hk.xm y tab j1;have hm:X.mg y=some (.ref D):=by
    split at j4
    .next hl=>
     obtain⟨C,g1,g2,_⟩:=am.gl y _ hl;rw[hD]at g2;cases g2;exact g1
    .next hl=>
     obtain⟨C,fI,fd,ps,g1,g2,_⟩:=am.gl y _ hl;rw[hD]at g2;cases g2;exact g1
    .cases j4
   have hnames:Names X y (.ref D):=⟨vq am b1,(vo b2).1,.inl hm⟩;have hst:∀p∈st,(∀f∈p.2.fs,f∈(c.hs.xf.lookup y).getD [])/\p.2.fs.length<=100:=λp hp=>by
    have:=at7.mp b4 p hp;rw[atx,au1]at this;exact⟨λf hf=>by simpa using at7.mp this.1 f hf,this.2⟩
   have hnj:∀p∈st,i≠some p.1:=λp hp z=>by
    subst z;have:=at7.mp b3 p hp;simp at this
   refine⟨apz ak X.K ⟨y,λx=>tab.lookup x,i,st⟩ D::ls,?_,.cons ⟨⟨D,hD,rfl⟩,hx,rfl,rfl,hnj⟩ i2⟩;cases nm with
   |none=>
    cases j2;exact .one hnames rfl (λa oe cls d pn hz hf=>Wf am rfl rfl hz hf j3 hst) i1
   |some n=>
    have j2':=j2;unfold Wg at j2;obtain⟨i',s1,j2⟩:=atv.mp j2;split at j2
    .next hloc=>
     cases j2;refine .as hnames rfl (CN am s1).1 ?_ (λa oe cls d pn hz hf=>Wf am j2' rfl hz hf j3 hst) i1;unfold PySem.Env.kindOf;rw[am.hs];exact hloc
    .cases j2
  .cases h1
theorem wZ.tr(a:wZ ak c X W k){W':WX}{pn:List (Addr×Obj)}{xe:Value->Shared->Prop}(t:Takes (X.tr pn xe) W')(p:PassesOwn (model X.prog X.w) X.A X.env xe):wZ ak c (X.tr pn xe) W' k where
 hN:=a.hN
 hs:=a.hs
 calm:=a.calm
 nd:=a.nd
 tk:=t
 rm:=a.rm
 gl:=a.gl
 bl:=a.bl
 fn:=a.fn
 hk:=a.hk
 ps:=p
 st:=a.st
 fr:=a.fr
 kf:=a.kf
def xS(q:Bool)(t:Tr)(s:Ts)(c:Tc):Stmt->Option SF
 |.Raise (some (.Call (.Name x _) [] [] _)) none _=>(match c.G.lookup x with
  |some .exc=>gd (Ju c.sc x&&!Jx x) (some (fJ x))
  |_=>none)
 |.Raise (some (.Call (.Name x _) (e::es) [] _)) none _=>(match c.G.lookup x with
  |some (.exi fs)=>(IK t c (e::es)).bind λas=>gd (Ju c.sc x&&(!Jx x&&(decide ((e::es).length=fs.length)&&decide (fs.length<=1000)))) (some (Ek x fs as))
  |_=>none)
 |.Try body (h::hds) [] [] _=>(s.B c body).bind λf=>(Zd c (h::hds)).bind λhs=>some (Oi f hs)
 |.Pass _=>some aK
 |.Expr (.Call (.Attribute (.Attribute o f p1) m apos) [e] [] pos) epos=>(match q with
  |true=>(s.G c (.Call (.Attribute (.Attribute o f p1) m apos) [e] [] pos)).bind λf=>some (cH f)
  |false=>match m=="append" with
   |true=>gd (baseOk o&&(nst e&&(apos.endLine==pos.line))) ((t.W c o).bind λfo=>(s.G c e).bind λfe=>some (Hw f fo fe))
   |false=>(s.G c (.Call (.Attribute (.Attribute o f p1) m apos) [e] [] pos)).bind λf=>some (cH f))
 |.Expr e _=>gd (!Il e) ((s.G c e).bind λf=>some (cH f))
 |.Assign [.Name x p] (.ListComp elt [⟨tg,iter,ifs,0⟩,⟨tg1,iter1,ifs1,0⟩] scope cpos) _=>(yr c x).bind λj=>
  gd (swB c.sc (.ListComp elt [⟨tg,iter,ifs,0⟩,⟨tg1,iter1,ifs1,0⟩] scope cpos) scope x p&&!c.ml.contains x) ((Uv t c elt tg iter ifs tg1 iter1 ifs1 scope).bind λf=>some (aZ (aF j) (gOf f)))
 |.Assign [.Attribute o f _] e _=>(match q with
  |true=>none
  |false=>ahW t s c o f e)
 |.Assign [.Subscript (.Attribute o f _) i _] e _=>(match q with
  |true=>none
  |false=>gd (baseOk o&&(!abn i&&!Il e)) ((t.W c o).bind λfo=>(t.E c i).bind λfi=>(t.E c e).bind λfe=>match c.hs.df.lookup f with
   |some _=>some (Qi f fo fi fe)
   |none=>some (Tz f fo fi fe)))
 |.AugAssign (.Attribute o f _) .Add e _=>(match q with
  |true=>none
  |false=>(t.W c o).bind λfo=>(t.E c e).bind λfe=>some (Ux c.hs.ft f fo fe))
 |.Delete [.Subscript (.Attribute o f _) i _] _=>(match q with
  |true=>none
  |false=>gd (baseOk o) ((t.W c o).bind λfo=>(t.E c i).bind λfi=>some (Qt f fo fi)))
 |_=>none
theorem anG(o:t.Ok)(os:s.Ok q)(a:wZ ak c X W k){st:Stmt}{f:SF}(h:xS q t s c st=some f):SE ak X W q st f:=by
 have hk:=a.hk;unfold xS at h;split at h
 .split at h
  .next hl=>
   obtain⟨hb,h⟩:=bA.mp h;cases h;simp only[atx,atV]at hb;exact ah1 a.calm a.tk (vq a.toAmb hb.1) (vo hb.2).1 (a.gl _ _ hl)
  .cases h
 .split at h
  .next fs hl=>
   obtain⟨as,h1,h⟩:=atv.mp h;obtain⟨hb,h⟩:=bA.mp h;cases h;simp only[atx,atV,au1]at hb;obtain⟨b1,b2,b3,b4⟩:=hb;obtain⟨i1,i2,i3⟩:=vY o a.toAmb h1;exact aeH a.calm a.tk a.rm (vq a.toAmb b1) (vo b2).1 (a.gl _ _ hl) i1 i2 (λM Z ds z=>by rw[i3 M Z ds z];exact b3) b4
  .cases h
 .obtain⟨f1,h1,h⟩:=atv.mp h;obtain⟨hs,h2,h⟩:=atv.mp h;cases h;obtain⟨ls,i1,i2⟩:=aa6 a.toAmb h2;exact alH a.st a.fr a.nd a.tk (λW' pn xe t p=>os.ob (a.tr t p) h1) i1 i2
 .cases h;exact PS.weak ps_pass λD σ H ⟨g,Z,M,I,z⟩=>z σ H g .refl I
 .split at h
  .obtain⟨f1,h1,h⟩:=atv.mp h;cases h;exact Wj (os.og a h1) (Jy rfl)
  .split at h
   .next hm=>
    obtain⟨hb,h⟩:=bA.mp h;obtain⟨fo,h1,h⟩:=atv.mp h;obtain⟨fe,h2,h⟩:=atv.mp h;cases h;simp only[atx]at hb;cases au8 hm;exact ai0 hk.co (o.ow a.toAmb h1) hb.1 (os.og a h2) hb.2.1 hb.2.2
   .obtain⟨f1,h1,h⟩:=atv.mp h;cases h;exact Wj (os.og a h1) (Jy rfl)
 .obtain⟨hb,h⟩:=bA.mp h;obtain⟨f1,h1,h⟩:=atv.mp h;cases h;exact Wj (os.og a h1) (Jy (by simpa using hb))
 .obtain⟨j,hj,h⟩:=atv.mp h;obtain⟨hsw,h⟩:=bA.mp h;rw[atx]at hsw;obtain⟨f1,h1,h⟩:=atv.mp h;cases h;obtain⟨s1,s2,s3⟩:=pB a.toAmb hj;have hsw:=hsw.1;rw[<-a.hs]at hsw;have l1:=(Us (l:=0) a.kf hsw).1;have l2:=λl=>(Us (l:=l) a.kf hsw).2;clear h;unfold Uv at h1;obtain⟨it,g1,h⟩:=atv.mp h1;obtain⟨⟨js,tf⟩,h2,h⟩:=atv.mp h;obtain⟨tt,h3,h⟩:=atv.mp h;obtain⟨it1,h4,h⟩:=atv.mp h;obtain⟨⟨js1,tf1⟩,h5,h⟩:=atv.mp h;obtain⟨tt1,h6,h⟩:=atv.mp h;obtain⟨te,h7,h⟩:=atv.mp h;obtain⟨hb,h⟩:=bA.mp h;cases h;simp only[atx,atV]at hb;obtain⟨b1,b2,b3,b4,b5,b6⟩:=hb;have am:=a.toAmb;exact akk a.calm a.nd s1 l1 (l2 _) (o.oi am g1) (by rw[a.hN,a.hs];exact b1) (qw b2) (qw b3) (qw b4) (λs H C cl fp=>vm (am.inn _ s H C cl fp) h2) (λs H C cl fp=>wF o (am.inn _ s H C cl fp) h3) (λs H C cl fp=>o.oi (am.inn _ s H C cl fp) h4) (λs H C cl fp=>vm (am.inn _ s H C cl fp) h5) (λs H C cl fp=>wF o (am.inn _ s H C cl fp) h6) (λs H C cl fp=>o.oe (am.inn _ s H C cl fp) h7) (rP b5) (λenv=>rP b6)
 .split at h
  .cases h
  .exact ajR o os a h
 .split at h
  .cases h
  .obtain⟨hb,h⟩:=bA.mp h;obtain⟨fo,h1,h⟩:=atv.mp h;obtain⟨fi,h2,h⟩:=atv.mp h;obtain⟨fe,h3,h⟩:=atv.mp h;simp only[atx,atV]at hb;obtain⟨b1,b2,b3⟩:=hb;split at h
   .cases h;exact akd hk.co hk.hw (ahN a.toAmb) (o.ow a.toAmb h1) b1 (o.oe a.toAmb h2) (o.oe a.toAmb h3) agW
   .cases h;exact aj8 hk.co (o.ow a.toAmb h1) b1 (o.oe a.toAmb h3) (o.oe a.toAmb h2) (ahd b2) (Em b3) (by with_unfolding_all rfl)
 .split at h
  .cases h
  .obtain⟨fo,h1,h⟩:=atv.mp h;obtain⟨fe,h2,h⟩:=atv.mp h;cases h;exact ajX hk.co hk.fk (o.ow a.toAmb h1) (o.oe a.toAmb h2)
 .split at h
  .cases h
  .obtain⟨hb,h⟩:=bA.mp h;obtain⟨fo,h1,h⟩:=atv.mp h;obtain⟨fi,h2,h⟩:=atv.mp h;cases h;exact aji hk.co hk.hw (ahN a.toAmb) (o.ow a.toAmb h1) hb (o.oe a.toAmb h2)
 .cases h
end
def tr0:Tr:=⟨λ_ _=>none,λ_ _=>none,λ_ _=>none,λ_ _ _ _=>none⟩
def ami(t:Tr):Tr:=⟨xtE t,xtW t,xtT t,xtI t⟩
def tr:Nat->Tr
 |0=>tr0
 |n+1=>ami (tr n)
theorem BP:∀n,(tr n).Ok
 |0=>⟨λ_=>(by intro _ _ h;cases h),λ_=>(by intro _ _ h;cases h),λ_=>(by intro _ _ h;cases h),λ_=>(by intros;rename_i h;cases h)⟩
 |n+1=>⟨λa=>(by intro _ _ h;exact(yI h).elim (anR (BP n) a) (amA (BP n) a)),λa=>(by intro _ _ h;exact(yI h).elim (anK (BP n) a) (amb (BP n) a)),λa=>(by intro _ _ h;exact(yI h).elim (ank (BP n) a) (alg (BP n) a)),λa=>(by intro _ _ _ _ h;exact(yI h).elim (aoi (BP n) a) (al4 (BP n) a))⟩
def ts0:Ts:=⟨λ_ _=>none,λ_ _=>none,λ_ _=>none,λ_ _=>none⟩
def ldG(q:Bool)(t:Tr)(s:Ts)(c:Tc)(e:Expr):Option GF:=match q with
 |true=>none
 |false=>xG t s c e
def ldH(_:Bool)(_:Ts)(_:Tc)(_:Expr):Option GT:=none
def alq(q:Bool)(t:Tr)(s:Ts):Ts:=⟨λc e=>els ((t.E c e).bind λf=>some (gOf f)) (ldG q t s c e),λc e=>els ((t.T c e).bind λf=>some (ah0 f)) (ldH q s c e),λc e=>els (stS t s c e) (xS q t s c e),aej s⟩
def ts(q:Bool)(t:Tr):Nat->Ts
 |0=>ts0
 |n+1=>alq q t (ts q t n)
theorem Qa{t:Tr}(o:t.Ok)(q:Bool):∀n,(ts q t n).Ok q
 |0=>⟨λ_=>(by intro _ _ h;cases h),λ_=>(by intro _ _ h;cases h),λ_=>(by intro _ _ h;cases h),λ_=>(by intros;rename_i h;cases h)⟩
 |n+1=>⟨λa=>by
   intro _ _ h;rcases yI h with h|h
   .obtain⟨f,h1,h⟩:=atv.mp h;cases h;exact ah8 (o.oe a.toAmb h1)
   .cases q with
    |true=>cases h
    |false=>exact aof o (Qa o false n) a h,λa=>by
   intro _ _ h;rcases yI h with h|h
   .obtain⟨f,h1,h⟩:=atv.mp h;cases h;exact anT (o.ot a.toAmb h1)
   ·(cases h),λa=>by
   intro _ _ h;rcases yI h with h|h
   .exact am5 o (Qa o q n) a h
   .exact anG o (Qa o q n) a h,λa=>by
   intro _ _ h;exact ahK (Qa o q n) a h⟩
def rd(c:Tc)(b:List Stmt):Option SF:=(ts true (tr 40) 60).B c b
def rdG(c:Tc)(b:List Stmt):Option SF:=(ts false (tr 40) 60).B c b
def Ez(P:Program)(w:World)(K:atw)(mg:Str->Option Value)(base:Heap)(ak:aX)(k:Nat):List (Str×GV)->Prop
 |[]=>True
 |(x,v)::r=>bh P w K mg base ak k x v/\Ez P w K mg base ak k r
def Gi(mg:Str->Option Value):List Str->Prop
 |[]=>True
 |x::r=>mg x=none/\Gi mg r
section
variable{P:Program}{w:World}{K:atw}{mg:Str->Option Value}{base:Heap}{ak:aX}{k:Nat}
theorem Ez.get:∀{G:List (Str×GV)},Ez P w K mg base ak k G->∀x v,G.lookup x=some v->bh P w K mg base ak k x v
 |[],_,x,v,h=>nomatch h
 |(y,u)::r,g,x,v,h=>by
  rw[aub]at h;split at h
  .next e=>
   cases h;rw[au8 e];exact g.1
  .exact g.2.get x v h
theorem Gi.get:∀{B:List Str},Gi mg B->∀x,x∈B->mg x=none
 |[],_,x,h=>nomatch h
 |y::r,g,x,h=>by
  rcases atO.mp h with rfl|h
  .exact g.1
  .exact g.2.get x h
theorem afx{qual:Str}{st:Stmt}{f:Addr}{N ps ml B:List Str}{G:List (Str×GV)}{Ms:Hs}(S:FnScope N ps (defScope st))(g:Ez P w K mg base ak k G)(b:Gi mg B)(hh:Vz P w K mg base ak k Ms)
  (cdv:Value) (A:Around) (outer:List PySem.Env) (s:Shared) (H:Hp) (E:XK) (hr:Room k (A.deeper (envOfC qual (defScope st) s.heap.objs.size f cdv))) :
  wZ ak ⟨N,defScope st,G,B,Ms,ml,true⟩ (cxOf (L2.CX P w) P w K mg base N qual (defScope st) f cdv A outer s H E) (aha E) k where
 hN:=rfl
 hs:=rfl
 calm:=rfl
 nd:=S.nd
 tk:=takes_of rfl rfl rfl rfl
 rm:=hr
 gl:=g.get
 bl:=b.get
 fn:=λ_ _=>rfl
 hk:=hh
 ps:=passes_of rfl
 st:=rfl
 fr:=rfl
 kf:=S.kind
theorem aaU{x qual:Str}{st:Stmt}{f:Addr}{fd:FuncData}{N ps ml B:List Str}{G:List (Str×GV)}{Ms:Hs}{body:SF}(F:Fun K x qual st f fd)(S:FnScope N ps (defScope st))(g:Ez P w K mg base ak k G)(b:Gi mg B)(hh:Vz P w K mg base ak k Ms)
  (h:rd ⟨N,defScope st,G,B,Ms,ml,true⟩ (defBody st)=some body):FnOk P w K mg base (L2.CX P w) (k+1) f fd ps (Yk K ak ps.length (mQ N.length body)):=
 apA F S λcdv A outer s H E hr=>(Qa (BP 40) true 60).ob (afx S g b hh cdv A outer s H E hr) h
theorem Vf{x qual:Str}{st:Stmt}{f:Addr}{fd:FuncData}{N ps ml B:List Str}{G:List (Str×GV)}{Ms:Hs}{body:SF}(F:Fun K x qual st f fd)(S:FnScope N ps (defScope st))(g:Ez P w K mg base ak k G)(b:Gi mg B)(hh:Vz P w K mg base ak k Ms)
  (h:rdG ⟨N,defScope st,G,B,Ms,ml,true⟩ (defBody st)=some body):FnOk P w K mg base (L2.CX P w) (k+1) f fd ps (Mv K ak ps.length (mG N.length body)):=
 aoP F S λcdv A outer s H E hr=>(Qa (BP 40) false 60).ob (afx S g b hh cdv A outer s H E hr) h
theorem alI{f:Addr}{fd:FuncData}{ps:List Str}{j:Nat}:FnOk P w K mg base (L2.CX P w) j f fd ps (Yk K ak ps.length λ_ _=>.bad):=
 ⟨λvs H Q E h=>h.1,λA outer s H args us vs Q E _ _ _ _ h=>by
  obtain⟨_,g,M,ds,_,_,_,z⟩:=h;exact au0 z⟩
theorem ahu{x:Str}{f:Addr}{fd:FuncData}{ps:List Str}{j:Nat}{m:Mo->List Dat->Out Dat}(hj:j<=k)(hg:mg x=some (.ref f))(hk:PySem.W.keepIn K (.ref f)=true)(hB:Binds K fd ps [])(F:FnOk P w K mg base (L2.CX P w) j f fd ps (Yk K ak ps.length m)):bh P w K mg base ak k x (.fq ps.length m):=
 ⟨f,hg,hk,fd,ps,j,hj,rfl,hB,F⟩
theorem Ot{x:Str}{i:Int}{t:Tok}(h:mg x=some (.int i t)):bh P w K mg base ak k x (.con (.int i)):=⟨.int i,_,h,⟨t,rfl⟩,λ_ _=>.int i⟩
theorem Xk{g:Gh}{H:Hp}:∀{vs:List V} {ds:List Dat},(vs.zip ds).all (λp=>match p with
  |(.int i,.int j)=>decide (i=j)
  |(.str x,.str y)=>decide (x=y)
  |_=>false)=true->vs.length=ds.length->aQ K g H vs ds
 |[],[],_,_=>.nil
 |[],_::_,_,h=>nomatch h
 |_::_,[],_,h=>nomatch h
 |v::vs,d::ds,h,hl=>by
  rw[auH,auk,atx]at h;refine .cons ?_ (Xk h.2 (auy hl));have h1:=h.1;split at h1
  .next e=>cases e;cases au2 h1;exact .int _
  .next e=>cases e;cases au2 h1;exact .str _
  .cases h1
theorem aga{x:Str}{a:Addr}{vs:List V}{ds:List Dat}(h:mg x=some (.ref a))(q:∀H:Hp,SqT K H a vs)(hf:(vs.zip ds).all (λp=>match p with
  |(.int i,.int j)=>decide (i=j)
  |(.str x,.str y)=>decide (x=y)
  |_=>false)=true) (hl:vs.length=ds.length):bh P w K mg base ak k x (.con (.tuple ds)):=⟨.ref a,_,h,rfl,λ_ H=>.tup (q H) (Xk hf hl)⟩
end
open PySem PySem.Spec PyProof.Rows L2
section
variable{fa:List He.Fa}{fn:List He.DefD}{tb:List He.Tab}{ex:atw->Bool}{w:World}{K:atw}
theorem Ql.rB(c:Ql fa fn tb ex w K)(i:Nat){f:He.Fa}(h:fa[i]?=some f:=by rfl):f.ok K=true:=c.t.d.fact i h
theorem Ql.Xw(c:Ql fa fn tb ex w K)(i:Nat){d:He.DefD}(h:fn[i]?=some d:=by rfl):∃fd,FunD K d.name d.qual d.params d.body d.scope (d.dvs K) (d.kws K) (He.fAd K d.at_) fd:=c.t.d.def_ i h
theorem Gq{x qual:Str}{st:Stmt}{f:Addr}{fd:FuncData}(F:FunD K x qual (defArgs st) (defBody st) (defScope st) [] [] f fd):L2.Fun K x qual st f fd:=by
 obtain⟨oc,od,dV,kV,doc,pm,an,cdv,ct,osl,e,l,c,hd,_⟩:=F.ex;rcases hd with⟨_,z⟩|⟨z,_⟩
 .cases z;exact⟨⟨oc,od,kV,doc,pm,an,cdv,ct,osl,e,l,c⟩,F.kp⟩
 .exact absurd rfl z
end
def g0:Gh:=⟨[],λ_=>none,λ_=>False,λ_=>False⟩
theorem amC(a:Addr):¬g0.A a:=λz=>by
 rcases z with(z|z)|z|z
 .cases z
 .exact z rfl
 .exact z
 .exact z
theorem aoa{H:Hp}:Kd g0 H:=⟨λa z=>absurd z (amC a),λa z=>au0 z,λa z=>au0 z⟩
theorem al8{K:atw}{ak:aX}{H:Hp}(nc:ak ""=none):gW K ak g0 H []:=⟨rfl,λh k a e=>(by cases h<;>cases e),λh a i e=>(by cases h<;>cases e),λh i e=>(by cases h<;>cases e),λh i e=>(by cases h<;>cases e),λh a i e=>(by cases h<;>cases e),λh i e=>(by cases h<;>cases e),nc⟩
theorem Xy{K:atw}{g:Gh}{H:Hp}:∀ns:List Int,aQ K g H (ns.map V.int) (ns.map PyData.int)
 |[]=>.nil
 |n::ns=>.cons (.int n) (Xy ns)
theorem amT{K:atw}{H:Hp}{a:Addr}{ns:List Int}(hS:SqL K H a (ns.map V.int)):aQ K g0 H [.ref a] [.list (ns.map PyData.int)]:=by
 refine .cons (.lst ?_ (Xy ns)) .nil;rcases hS with h|h
 .exact .inl ⟨h,amC a⟩
 .exact .inr h
theorem aok{K:atw}{ak:aX}(nc:ak ""=none){m:Mo->List Dat->bG Dat}{H:Hp}{a:Addr}{ns:List Int}{M:Mo}(hS:SqL K H a (ns.map V.int))(h:m [] [.list (ns.map PyData.int)]=.ok (.bool true) M):Mv K ak 1 m [.ref a] H (λv _=>v=.bl true) λ_ _ _=>False:=
 ⟨rfl,g0,[],[.list (ns.map PyData.int)],aoa,al8 nc,amT hS,by
  rw[h];exact λv H' g' _ _ _ r=>by cases r;rfl⟩
section
variable{K:atw}{h:Heap}{mg:Str->Option Value}{w:World}
def qM(w:World)(K:atw)(xs:List Str)(ft:Ft):aX:=⟨λx=>match xs.contains x with
 |true=>some (He.ga K x)
 |false=>none,λc=>(ft.lookup c).getD [],w⟩
theorem R7{xs:List Str}{ft:Ft}{x:Str}{C:Addr}(e:qM w K xs ft x=some C):C=He.ga K x:=by
 have e:(match xs.contains x with
  |true=>some (He.ga K x)
  |false=>none)=some C:=e
 split at e
 .exact(atY e).symm
 .cases e
theorem Ew{xs:List Str}{ft:Ft}{x:Str}(e:xs.contains x=true):qM w K xs ft x=some (He.ga K x):=by
 show(match xs.contains x with
  |true=>some (He.ga K x)
  |false=>none)=_
 rw[e]
theorem abm{ft:Ft}(hb:Oz K ft=true){c:Str}{fs:List Str}(hl:ft.lookup c=some fs):Cls K (He.ga K c)/\∀f∈fs,NoAttr K (He.ga K c) f:=by obtain⟨h1,h2⟩:=He.ba (at7.mp hb _ (sW hl));exact⟨He.cls_ok h1,λf hf=>He.noat_ok (at7.mp h2 f hf)⟩
theorem ae0{xs:List Str}{ft:Ft}(hb:Oz K ft=true):j5 K (qM w K xs ft):=λc C f e hf=>by
 have e:=R7 e;subst e;have hf:f∈(ft.lookup c).getD []:=hf;cases hl:ft.lookup c with
 |none=>rw[hl]at hf;cases hf
 |some fs=>
  rw[hl]at hf;obtain⟨h1,h2⟩:=abm hb hl;exact⟨h1,h2 f hf⟩
theorem ahI{xs:List Str}{ft:Ft}:Ph ft (qM w K xs ft):=λc f e=>by
 unfold Ft.has at e;show f∈(ft.lookup c).getD [];split at e
 .next fs hl=>
  rw[hl];simpa using e
 .cases e
def xmN(xs:List Str)(xm:List (Str×List (Str×Bool))):Bool:=xm.all λp=>xs.contains p.1
theorem an9{xs:List Str}{ft:Ft}{xm:List (Str×List (Str×Bool))}(hb:xmB K xm=true)(hn:xmN xs xm=true)(y:Str)(tab:List (Str×Bool))(hl:xm.lookup y=some tab):(∃D,qM w K xs ft y=some D)/\aei K (qM w K xs ft) y λx=>tab.lookup x:=by refine⟨⟨_,Ew (at7.mp hn _ (sW hl))⟩,λx b C e1 e2 D e3=>?_⟩;rw[R7 e2,R7 e3];exact He.exm_ok (at7.mp (at7.mp hb _ (sW hl)) _ (sW e1))
theorem aiK{C:Addr}(hb:akO K C=true):OexC K C:=by
 obtain⟨h1,h2⟩:=He.ba hb;obtain⟨h2,h3⟩:=He.ba h2;obtain⟨h3,h4⟩:=He.ba h3;obtain⟨h4,h5⟩:=He.ba h4;refine⟨?_,He.eqO_ok h2,au2 h3,au2 h4,h5⟩;split at h1
 .next t dd cd sl hl=>
  obtain⟨t1,h1⟩:=He.ba h1;split at h1
  .next C' bm k0 k1 k2 k3 n k5 e1 e2=>
   obtain⟨a1,h1⟩:=He.ba h1;obtain⟨a2,h1⟩:=He.ba h1;obtain⟨a3,h1⟩:=He.ba h1;obtain⟨a4,a5⟩:=He.ba h1;have q1:=au2 t1;have q2:=au2 a1;have q3:=au2 a2;have q4:cd.hasDel=false:=by simpa using a3
   have q5:sl=#[k0,k1,k2,k3,some (.builtin n),k5]:=by rw[<-Array.toList_inj];exact e2
   obtain⟨nm,bs,mro,ns,qn,hd,sn,sub,ab,col,hdel⟩:=cd;have e1:mro=.ref C'::bm:=e1;have q4:hdel=false:=q4;have a4:hd=true:=a4;subst q1 q2 q3 q4 q5 e1 a4;exact⟨nm,qn,ns,bs,bm,sn,sub,ab,col,dd,k0,k1,k2,k3,k5,hl,a5⟩
  .cases h1
 .cases h1
theorem Vx{x:Str}{fs:List Str}(hb:Vn K x fs=true):OexC K (He.ga K x)/\PySem.W.findIn K (.ref (He.ga K x)) "__init__"=some (some (.ref (He.ma K (He.ga K x) "__init__")))/\PySem.W.typeIn K (.ref (He.ma K (He.ga K x) "__init__"))=some (.type "function")/\XfC K (He.ga K x)/\∀f∈fs,PySem.W.findIn K (.ref (He.ga K x)) f=some none:=by obtain⟨h1,h2⟩:=He.ba hb;obtain⟨h2,h3⟩:=He.ba h2;obtain⟨h3,h4⟩:=He.ba h3;obtain⟨h4,h5⟩:=He.ba h4;exact⟨aiK h1,He.eqO_ok h2,au2 h3,xfB_ok h4,λf hf=>He.eqO_ok (at7.mp h5 f hf)⟩
theorem ahA{a:Addr}{xs:List Str}(hb:Zq K a xs=true)(H:Hp):SqT K H a (xs.map V.str):=by
 unfold Zq at hb;split at hb
 .next c d its n sl hl=>
  obtain⟨h1,h2⟩:=He.ba hb;obtain⟨h3,h4⟩:=He.ba h2;have q1:=au2 h1;subst q1;exact .inr ⟨_,its,n,hl,rfl,rfl,au2 h3,He.relAll_ok h4⟩
 .cases hb
def Cd(kvs:List (Str×List Str)):List (Str×Dat):=kvs.map λq=>(q.1,.tuple (q.2.map PyData.str))
theorem Yj{g:Gh}{H:Hp}:∀xs:List Str,aQ K g H (xs.map V.str) (xs.map PyData.str)
 |[]=>.nil
 |x::xs=>.cons (.str x) (Yj xs)
theorem Tv{y:Str}:∀{kvs:List (Str×List Str)},(Cd kvs).lookup y=(kvs.lookup y).map λxs=>PyData.tuple (xs.map PyData.str)
 |[]=>rfl
 |(z,xs)::r=>by
  show List.lookup y ((z,PyData.tuple (xs.map PyData.str))::Cd r)=_;rw[aub,aub];split
  .rfl
  .exact Tv
theorem look_none{α:Type}{y:Str}:∀{kvs:List (Str×α)},kvs.lookup y=none->y∉kvs.map (·.1)
 |[],_=>by simp
 |(z,a)::r,h=>by
  rw[aub]at h;split at h
  .cases h
  .next hn=>
   rw[atE,atO]
   rintro(e|e)
   .subst e;simp at hn
   .exact look_none h e
theorem ajl{x:Str}{kvs:List (Str×List Str)}(hb:ag9 K x kvs=true)(hk:∃es n,KDict K w (He.ga K x) es n):adN w K (He.ga K x) (Cd kvs):=by
 obtain⟨h1,h2⟩:=He.ba hb;obtain⟨h2,h3⟩:=He.ba h2;obtain⟨es,n,D⟩:=hk;rw[D.at_]at h1;refine⟨es,n,D,?_,λy=>?_⟩
 .unfold Cd;rw[aua];exact au2 h2
 .rw[Tv];cases hl:kvs.lookup y with
  |some xs=>
   have h4:=at7.mp h3 _ (sW hl);show ∃v u,PySem.W.nsIn K (He.ga K x) y=some (some u)/\RelV v u/\∀g H,Rep K g H v (.tuple (xs.map PyData.str));have h4:(match PySem.W.nsIn K (He.ga K x) y with
    |some (some (.ref a))=>Zq K a xs
    |_=>false)=true:=h4
   split at h4
   .next a he=>exact⟨.ref a,.ref a,he,rfl,λg H=>.tup (ahA h4 H) (Yj xs)⟩
   .cases h4
  |none=>
   show PySem.W.nsIn K (He.ga K x) y=some none;have ny:=look_none hl;unfold PySem.W.nsIn;rw[D.at_];have h1:es.toList.all (λe=>(match e.key with
    |.str y _=>(kvs.map (·.1)).contains y
    |_=>false)&&!e.refKey)=true:=h1
   have f1:es.toList.find? (·.key.isStr y)=none:=by
    rw[List.find?_eq_none];intro e he z;obtain⟨a1,a2⟩:=He.ba (at7.mp h1 e he);split at a1
    .next y' tk hy=>
     rw[hy]at z;have z:(y'==y)=true:=z;have e':=au8 z;subst e';exact ny (by simpa using a1)
    .cases a1
   have f2:es.toList.any (·.refKey)=false:=by rw[List.any_eq_false];intro e he z;obtain⟨a1,a2⟩:=He.ba (at7.mp h1 e he);rw[z]at a2;cases a2
   show(match es.toList.find? (·.key.isStr y) with
    |some e=>some (some e.val)
    |none=>if es.toList.any (·.refKey) then none else some none)=some none
   rw[f1,f2];rfl
end
section
variable{P:Program}{w:World}{K:atw}{mg:Str->Option Value}{base:Heap}{k:Nat}{xs:List Str}{ft:Ft}
def Zk(P:Program)(w:World)(K:atw)(mg:Str->Option Value)(base:Heap)(ak:aX)(k:Nat)(m:Str):List (Str×MV)->Prop
 |[]=>True
 |(c,v)::r=>cC P w K mg base ak k c m v/\Zk P w K mg base ak k m r
def Iu(P:Program)(w:World)(K:atw)(mg:Str->Option Value)(base:Heap)(ak:aX)(k:Nat):List (Str×List (Str×MV))->Prop
 |[]=>True
 |(m,tb)::r=>Zk P w K mg base ak k m tb/\Iu P w K mg base ak k r
theorem Zk.get{ak:aX}{m:Str}:∀{tb:List (Str×MV)},Zk P w K mg base ak k m tb->∀c v,tb.lookup c=some v->cC P w K mg base ak k c m v
 |[],_,c,v,h=>nomatch h
 |(y,u)::r,g,c,v,h=>by
  rw[aub]at h;split at h
  .next e=>
   cases h;rw[au8 e];exact g.1
  .exact g.2.get c v h
theorem Iu.get{ak:aX}:∀{Ms:List (Str×List (Str×MV))},Iu P w K mg base ak k Ms->∀m tb,Ms.lookup m=some tb->∀c v,tb.lookup c=some v->cC P w K mg base ak k c m v
 |[],_,m,tb,h=>nomatch h
 |(y,u)::r,g,m,tb,h=>by
  rw[aub]at h;split at h
  .next e=>
   cases h;rw[au8 e];exact g.1.get
  .exact g.2.get m tb h
theorem apb{ak:aX}{x:Str}{f:Addr}{fd:FuncData}{ps:List Str}{j:Nat}{m:Mo->List Dat->bG Dat}(hj:j<=k)(hg:mg x=some (.ref f))(hk:PySem.W.keepIn K (.ref f)=true)(hB:Binds K fd ps [])(F:FnOk P w K mg base (L2.CX P w) j f fd ps (Mv K ak ps.length m)):bh P w K mg base ak k x (.fg ps.length m):=
 ⟨f,hg,hk,fd,ps,j,hj,rfl,hB,F⟩
theorem ju{x:Str}(hn:xs.contains x=true)(hg:mg x=some (.ref (He.ga K x)))(he:(He.Fa.exc x).ok K=true):bh P w K mg base (qM w K xs ft) k x .exc:=by obtain⟨h1,h2,h3,h4⟩:=He.exc_ok he;exact⟨_,hg,Ew hn,h1,h2,h3,h4⟩
theorem aln{x:Str}{fd:FuncData}{ps:List Str}{j n:Nat}{m:Mo->List Dat->bG Dat}(hj:j+1<=k)(hn:xs.contains x=true)(hg:mg x=some (.ref (He.ga K x)))(hc:Cls K (He.ga K x))(hm:(He.Fa.mkr x).ok K=true)(hp:ps.length=n+1)(hB:Binds K fd ps [])
  (F:FnOk P w K mg base (L2.CX P w) j (He.ma K (He.ga K x) "__init__") fd ps (Mv K (qM w K xs ft) ps.length m)):bh P w K mg base (qM w K xs ft) k x (.cls n m):=
 ⟨_,_,fd,ps,j,hg,Ew hn,hc,He.mkr_ok hm,hj,hp,hB,F⟩
theorem akQ{ak:aX}{x:Str}{kvs:List (Str×List Str)}(hg:mg x=some (.ref (He.ga K x)))(hb:ag9 K x kvs=true)(hk:∃es n,KDict K w (He.ga K x) es n):bh P w K mg base ak k x (.dic (Cd kvs)):=⟨_,hg,ajl hb hk⟩
theorem ak4{x:Str}{fs:List Str}{fd:FuncData}{ps:List Str}(h2:2<=k)(hn:xs.contains x=true)(hg:mg x=some (.ref (He.ga K x)))(ho:Vn K x fs=true)(hp:ps.length=fs.length+1)(hB:Binds K fd ps [])(F:FnOk P w K mg base CX0 1 (He.ma K (He.ga K x) "__init__") fd ps (ahR (He.ga K x) fs)):bh P w K mg base (qM w K xs ft) k x (.exi fs):=by obtain⟨h1,h3,h4,_,_⟩:=Vx ho;exact⟨_,_,fd,ps,hg,Ew hn,h1,h3,h4,h2,hp,hB,F⟩
theorem aiv{m:Str}{l:List Str}(hf:l.contains m=false)(z:m∈l):False:=by rw[List.contains_iff_mem.mpr z]at hf;cases hf
theorem ao9{c m:Str}{fd:FuncData}{ps:List Str}{j:Nat}{mm:Mo->List Dat->Out Dat}(hj:j<=k)(hn:xs.contains c=true)(hc:Cls K (He.ga K c))(hm:(He.Fa.meth c m).ok K=true)(hf:((ft.lookup c).getD []).contains m=false)(hB:Binds K fd ps [])(F:FnOk P w K mg base (L2.CX P w) j (He.ma K (He.ga K c) m) fd ps (Yk K (qM w K xs ft) ps.length mm)):cC P w K mg base (qM w K xs ft) k c m (.q ps.length mm):=
 ⟨_,_,Ew hn,hc,He.meth_ok hm,(λz=>aiv hf z),fd,ps,j,hj,rfl,hB,F⟩
theorem apo{c m:Str}{fd:FuncData}{ps:List Str}{j:Nat}{mm:Mo->List Dat->bG Dat}(hj:j<=k)(hn:xs.contains c=true)(hc:Cls K (He.ga K c))(hm:(He.Fa.meth c m).ok K=true)(hf:((ft.lookup c).getD []).contains m=false)(hB:Binds K fd ps [])(F:FnOk P w K mg base (L2.CX P w) j (He.ma K (He.ga K c) m) fd ps (Mv K (qM w K xs ft) ps.length mm)):cC P w K mg base (qM w K xs ft) k c m (.g ps.length mm):=
 ⟨_,_,Ew hn,hc,He.meth_ok hm,(λz=>aiv hf z),fd,ps,j,hj,rfl,hB,F⟩
theorem an3{Ms:List (Str×List (Str×MV))}{xm:List (Str×List (Str×Bool))}{df:List (Str×Bool)}{xf:List (Str×List Str)}(hm:Iu P w K mg base (qM w K xs ft) k Ms)(hb:Oz K ft=true)(hx:xmB K xm=true)(hn:xmN xs xm=true)(hf:(xf.all λp=>xs.contains p.1&&Vn K p.1 p.2)=true):Vz P w K mg base (qM w K xs ft) k ⟨Ms,ft,xm,df,xf⟩ where
 ms:=hm.get
 fk:=ahI
 co:=ae0 hb
 hw:=rfl
 xm:=an9 hx hn
 xf:=λy fs hl=>by
  obtain⟨h1,h2⟩:=He.ba (at7.mp hf _ (sW hl));obtain⟨_,_,_,h3,h4⟩:=Vx h2;exact⟨_,Ew h1,h3,h4⟩
end
abbrev lI(l:List Int):Dat:=.list (l.map PyData.int)
abbrev aH(l:List Int):Dat:=.tuple (l.map PyData.int)
theorem fD{tg:gj}{body:SF}{d:Dat}{ds:List Dat}{M M2:Mo}{Z Z1 Z2:Env}(h1:tg d Z=some Z1)(h2:body M Z1=.next Z2 M2):dX tg body (d::ds) M Z=dX tg body ds M2 Z2:=by
 rw[dX,h1]
 show(match body M Z1 with
   |.next Z2 M2=>dX tg body ds M2 Z2
   |.cont Z2 M2=>dX tg body ds M2 Z2
   |.brk Z2 M2=>.next Z2 M2
   |.ret d M2=>.ret d M2
   |.exc x Z2 M2=>.exc x Z2 M2
   |.bad=>.bad)=_
 rw[h2]
theorem gQ{α:Type}{tg:gj}{tt:QT}{te:QF}{M:Mo}{Z:Env}(ds:α->Dat)(p:α->Bool)(f:α->Dat):∀(xs:List α),(∀x∈xs,∃Z1,tg (ds x) Z=some Z1/\tt M Z1=.ok (p x)/\(p x=true->te M Z1=.ok (f x)))->cX tg tt te M Z (xs.map ds)=.ok ((xs.filter p).map f)
 |[],_=>rfl
 |x::xs,h=>by
  obtain⟨Z1,h1,h2,h3⟩:=h x atD;have ih:=gQ ds p f xs λy hy=>h y (atA _ hy);rw[atE,cX,h1]
  show((zJ (tt M Z1)).bind λb=>if b=true then(zJ (te M Z1)).bind λy=>(cX tg tt te M Z (xs.map ds)).bind λr=>.ok (y::r) else cX tg tt te M Z (xs.map ds))=_
  rw[h2,ih];cases hp:p x with
  |true=>
   show(if true=true then(zJ (te M Z1)).bind λy=>(Out.ok ((xs.filter p).map f)).bind λr=>.ok (y::r) else Out.ok ((xs.filter p).map f))=_
   rw[h3 hp,au5 rfl,List.filter_cons_of_pos hp];rfl
  |false=>
   show(if false=true then(zJ (te M Z1)).bind λy=>(Out.ok ((xs.filter p).map f)).bind λr=>.ok (y::r) else Out.ok ((xs.filter p).map f))=_
   rw[au6 (by decide),List.filter_cons_of_neg (by rw[hp];decide)]
theorem fG{α:Type}{tg:gj}{te:QF}{M:Mo}{Z:Env}(ds:α->Dat)(f:α->Dat)(xs:List α)(h:∀x∈xs,∃Z1,tg (ds x) Z=some Z1/\te M Z1=.ok (f x)):cX tg iT te M Z (xs.map ds)=.ok (xs.map f):=by
 have:=gQ (tt:=iT) ds (λ_=>true) f xs λx hx=>by
  obtain⟨Z1,h1,h2⟩:=h x hx;exact⟨Z1,h1,rfl,λ_=>h2⟩
 rw[this,auO.mpr (λ_ _=>rfl)]
theorem aiz{i j:Int}(h : -(2^64)<i/\i<2^64):decide (CMul i j)=true:=decide_eq_true (.inl h)
theorem mul_r{i j:Int}(h : -(2^64)<j/\j<2^64):decide (CMul i j)=true:=decide_eq_true (.inr h)
section
variable(M:Mo)(Z:Env)
@[simp]theorem aku (f k:SF):aC f k M Z=match f M Z with
 |.next Z' M'=>k M' Z'
 |o=>o:=rfl
@[simp]theorem aqc:aK M Z=.next Z M:=rfl
@[simp]theorem asM (tg:gj) (f:GF):aZ tg f M Z=(f M Z).then Z λd M'=>match tg d Z with
 |some Z'=>.next Z' M'
 |none=>.bad:=rfl
@[simp]theorem ap7 (i j:Nat) (f:GF):T7 i j f M Z=(f M Z).then Z λd M'=>.next ((Z.set i (some (.dat d))).set j (some (.dat d))) M':=rfl
@[simp]theorem ev_if (t:QT) (f k:SF):bF t f k M Z=((t M (uV Z)).at M).then Z λc M'=>if c=true then f M' Z else k M' Z:=rfl
@[simp]theorem aqJ (f:QF):aP f M Z=((f M (uV Z)).at M).then Z λd M'=>.ret d M':=rfl
@[simp]theorem asl (it:IF) (tg:gj) (body:SF):oJ it tg body M Z=((it M Z).at M).then Z λds M'=>dX tg body ds M' Z:=rfl
@[simp]theorem ar5 (j:Nat) (f:IF):Ba j f M Z=((f M Z).at M).then Z λxs M'=>.next (Z.set j (some (.mut xs))) M':=rfl
@[simp]theorem aqu (f:GF):cH f M Z=(f M Z).then Z λ_ M'=>.next Z M':=rfl
@[simp]theorem aqK (j:Nat) (f:QF):CZ j f M Z=match Z[j]? with
 |some (some (.mut xs))=>((f M Z).at M).then Z λd M'=>if xs.length<100000 then .next (Z.set j (some (.mut (xs++[d])))) M' else .bad
 |_=>.bad:=rfl
@[simp]theorem aqh (j:Nat) (fi f:QF):an8 j fi f M Z=match Z[j]? with
 |some (some (.mut xs))=>((f M Z).at M).then Z λd M'=>((fi M' Z).at M').then Z λi M2=>match i with
  |.int k=>match ixN xs.length k with
   |some n=>.next (Z.set j (some (.mut (xs.set n d)))) M2
   |none=>.bad
  |_=>.bad
 |_=>.bad:=rfl
@[simp]theorem asv (j:Nat) (f:QF):Im j f M Z=match Z[j]? with
 |some (some (.dat (.int i)))=>((f M Z).at M).then Z λd M'=>match d with
  |.int k=>.next (Z.set j (some (.dat (.int (i+k))))) M'
  |_=>.bad
 |_=>.bad:=rfl
@[simp]theorem ap5 (i j:Nat) (f:GF):Zm i j f M Z=(f M Z).then Z λd M'=>match d with
 |.list (d0::ds)=>if ds.length<=16000 then .next ((Z.set i (some (.dat d0))).set j (some (.dat (.list ds)))) M' else .bad
 |.tuple (d0::ds)=>if ds.length<=16000 then .next ((Z.set i (some (.dat d0))).set j (some (.dat (.list ds)))) M' else .bad
 |_=>.bad:=rfl
@[simp]theorem as5 (js:List Nat) (as:QA):sPN js as M Z=((as M Z).at M).then Z λds M'=>match uN js ds Z with
 |some Z'=>.next Z' M'
 |none=>.bad:=rfl
@[simp]theorem arZ (f:QF):gOf f M Z=(f M Z).at M:=rfl
@[simp]theorem ev_op (o:Dat->Dat->Out Dat) (a b:QF):aA o a b M Z=(a M Z).bind λx=>(b M Z).bind λy=>o x y:=rfl
@[simp]theorem ev_un (o:Dat->Out Dat) (a:QF):eE o a M Z=(a M Z).bind o:=rfl
@[simp]theorem ev_c (d:Dat):qC d M Z=.ok d:=rfl
@[simp]theorem ev_var (i:Nat):aq i M Z=match Z[i]? with
 |some (some (.dat d))=>.ok d
 |_=>.bad:=rfl
@[simp]theorem aqv (i:Nat):ao i M Z=match Z[i]? with
 |some (some (.dat d))=>.ok d
 |some (some (.mut xs))=>.ok (.list xs)
 |_=>.bad:=rfl
@[simp]theorem arb:au M Z=.ok []:=rfl
@[simp]theorem apQ (a:QF) (r:QA):aj a r M Z=(a M Z).bind λx=>(r M Z).bind λxs=>.ok (x::xs):=rfl
@[simp]theorem arV (r:QA):bD r M Z=(r M Z).bind λxs=>Out.when (decide (xs.length<=100000)) (.ok (.tuple xs)):=rfl
@[simp]theorem aso (r:QA):xg r M Z=(r M Z).bind λxs=>Out.when (decide (xs.length<=100000)) (.ok (.list xs)):=rfl
@[simp]theorem ark (a:QF):fB a M Z=(a M Z).bind KN:=rfl
@[simp]theorem as6 (a:QF):aW a M Z=(a M Z).bind Dr:=rfl
@[simp]theorem apM (a:QT):iW a M Z=(a M Z).bind λb=>.ok (!b):=rfl
@[simp]theorem ap6 (a b:QT):gH a b M Z=(a M Z).bind λx=>if x=true then b M Z else .ok false:=rfl
@[simp]theorem arI (a b:QT):Ag a b M Z=(a M Z).bind λx=>if x=true then .ok true else b M Z:=rfl
@[simp]theorem atk (a:QT):Ut a M Z=(a M Z).bind λb=>.ok (.bool b):=rfl
@[simp]theorem aqS (t:QT) (a b:QF):O2 t a b M Z=(t M Z).bind λx=>if x=true then a M Z else b M Z:=rfl
@[simp]theorem ev_is (neg:Bool) (c:Dat) (a:QF):vP neg c a M Z=(a M Z).bind λd=>.ok (.bool (neg ^^ jE c d)):=rfl
@[simp]theorem ev_notV (a:QF):TX a M Z=((a M Z).bind Dr).bind λb=>.ok (.bool (!b)):=by
 show(((a M Z).bind Dr).bind λb=>Out.ok (!b)).bind (λb=>Out.ok (PyData.bool b))=_
 cases a M Z with
 |ok d=>cases h:Dr d<;>simp[Out.bind,h]
 |exc x=>rfl
 |bad=>rfl
@[simp]theorem ev_andV (a b:QF):xV a b M Z=(a M Z).bind λd=>(Dr d).bind λx=>if x=true then b M Z else .ok (.bool false):=rfl
@[simp]theorem ev_orV (a b:QF):ahV a b M Z=(a M Z).bind λd=>(Dr d).bind λx=>if x=true then .ok (.bool true) else b M Z:=rfl
@[simp]theorem apL (o o':Dat->Dat->Out Dat) (a b c:QF):nQ o o' a b c M Z=(a M Z).bind λx=>(b M Z).bind λy=>(o x y).bind λz=>(Dr z).bind λk=>if k=true then(c M Z).bind λw=>(o' y w).bind Dr else .ok false:=rfl
@[simp]theorem aq5 (t:Rc) (a:QF):yL t a M Z=(a M Z).bind (wY t):=rfl
@[simp]theorem as7 (a:QF) (lo hi:QO):Et a lo hi M Z=(a M Z).bind λd=>(lo M Z).bind λl=>(hi M Z).bind λh=>slD d l h:=rfl
@[simp]theorem atf:uz M Z=.ok none:=rfl
@[simp]theorem atc (a:QF):lC a M Z=(a M Z).bind λd=>(Dc d).bind λi=>.ok (some i):=rfl
@[simp]theorem ev_call (m:Mo->List Dat->Out Dat) (as:QA):aR m as M Z=(as M Z).bind λds=>m M ds:=rfl
@[simp]theorem apx (a:QF):cR a M Z=(a M Z).bind qT:=rfl
@[simp]theorem aoJ (a:QF):Ea a M Z=(a M Z).bind λd=>(Dc d).bind λn=>Out.when (decide (n<=100000/\-100000<=n)) (.ok (jR 0 n.toNat)):=rfl
@[simp]theorem aqE (k₀:Int) (a:QF):yh k₀ a M Z=(a M Z).bind λd=>(qT d).bind λds=>.ok (pJ k₀ ds):=rfl
@[simp]theorem arK (a b:QF):Gm a b M Z=(a M Z).bind λd=>(b M Z).bind λe=>(qT d).bind λds=>(qT e).bind λes=>.ok (yX ds es):=rfl
@[simp]theorem aqb (it:IF) (tg:gj) (vs:List Nat) (tt:QT) (te:QF):fu it tg vs tt te M Z=(it M Z).bind λds=>Out.when (decide (ds.length<=50000)) ((cX tg tt te M (bY Z vs) ds).bind λr=>.ok (.list r)):=rfl
@[simp]theorem aph (it:IF) (tg:gj) (vs:List Nat) (tt:QT) (te:QF):zj it tg vs tt te M Z=(it M Z).bind λds=>Out.when (decide (ds.length<=50000)) (cX tg tt te M (bY Z vs) ds):=rfl
@[simp]theorem asY (f:QA):LQ f M Z=(f M Z).bind λxs=>Out.when (decide (xs.length<=100000)) (.ok xs):=rfl
@[simp]theorem anh (f:QF):ag7 f M Z=(f M Z).bind Zt:=rfl
@[simp]theorem aoA (j:Nat) (d:Dat):aF j d Z=some (Z.set j (some (.dat d))):=rfl
@[simp]theorem apa (js:List Nat) (ds:List Dat):bB js (.tuple ds) Z=uN js ds Z:=rfl
@[simp]theorem as9 (n:Nat) (b:SF) (ds:List Dat):mQ n b M ds=match b M (ini n ds) with
 |.ret d _=>.ok d
 |.next _ _=>.ok .none
 |.exc x _ _=>.exc x
 |_=>.bad:=rfl
@[simp]theorem atm (n:Nat) (b:SF) (ds:List Dat):mG n b M ds=match b M (ini n ds) with
 |.ret d M'=>.ok d M'
 |.next _ M'=>.ok .none M'
 |.exc x _ M'=>.exc x M'
 |_=>.bad:=rfl
end
section
variable(i j:Int)(ds es:List Dat)(b c:Bool)(x y:Str)
@[simp]theorem ap4:dZ (.int i) (.int j)=.ok (.int (i+j)):=rfl
@[simp]theorem apO:dZ (.list ds) (.list es)=Out.when (decide (ds.length+es.length<=100000)) (.ok (.list (ds++es))):=rfl
@[simp]theorem aqr:dZ (.tuple ds) (.tuple es)=Out.when (decide (ds.length+es.length<=100000)) (.ok (.tuple (ds++es))):=rfl
@[simp]theorem arn:mH (.int i) (.int j)=.ok (.int (i-j)):=rfl
@[simp]theorem arw:yw (.int i) (.int j)=Out.when (decide (CMul i j)) (.ok (.int (i*j))):=rfl
@[simp]theorem aq1:zW (.int i) (.int j)=Out.when (decide (CDiv i j)) (.ok (.int (i/j))):=rfl
@[simp]theorem aq2:jy (.int i) (.int j)=Out.when (decide (0<j)) (.ok (.int (i%j))):=rfl
@[simp]theorem asB:Rg (.int i) (.int j)=Out.when (decide (CPow i j)) (.ok (.int (i^j.toNat))):=rfl
@[simp]theorem ati:Q7 (.int i) (.int j)=.ok (.bool (decide (i<j))):=rfl
@[simp]theorem atn:qP (.int i) (.int j)=.ok (.bool (decide (i<=j))):=rfl
@[simp]theorem as4:Xj (.int i) (.int j)=.ok (.bool (decide (j<i))):=rfl
@[simp]theorem atj:geD (.int i) (.int j)=.ok (.bool (decide (j<=i))):=rfl
@[simp]theorem arN:bR (.int i) (.int j)=.ok (.bool (i==j)):=rfl
@[simp]theorem asf:bR (.str x) (.str y)=.ok (.bool (x==y)):=rfl
@[simp]theorem aro:bR (.bool b) (.bool c)=.ok (.bool (b==c)):=rfl
@[simp]theorem asx:vX (.int i) (.int j)=.ok (.bool (!(i==j))):=rfl
@[simp]theorem asz:vX (.str x) (.str y)=.ok (.bool (!(x==y))):=rfl
@[simp]theorem arz:Rv (.int i)=.ok (.int (-i)):=rfl
@[simp]theorem aqg:KN (.bool b)=.ok b:=rfl
@[simp]theorem aqt:KN (.list ds)=.ok (!ds.isEmpty):=rfl
@[simp]theorem aqw:KN (.tuple ds)=.ok (!ds.isEmpty):=rfl
@[simp]theorem arG:Dr (.bool b)=.ok b:=rfl
@[simp]theorem aqp:ou (.list ds)=.ok (.int ds.length):=rfl
@[simp]theorem apT:ou (.tuple ds)=.ok (.int ds.length):=rfl
@[simp]theorem ar0:WY (.int i)=.ok (.int (if i<0 then -i else i)):=rfl
@[simp]theorem ev_max2:u9 (.int i) (.int j)=.ok (.int (if j>i then j else i)):=rfl
@[simp]theorem apZ:KR (.int i) (.int j)=.ok (.int (if j<i then j else i)):=rfl
@[simp]theorem aq9:aN (.list ds) (.int i)=match atI ds i with
  |some d=>.ok d
  |none=>.bad:=rfl
@[simp]theorem asI:aN (.tuple ds) (.int i)=match atI ds i with
  |some d=>.ok d
  |none=>.bad:=rfl
@[simp]theorem aqs:Dc (.int i)=.ok i:=rfl
@[simp]theorem ar8 (lo hi:Option Int):slD (.list ds) lo hi=.ok (.list (cutD ds lo hi)):=rfl
@[simp]theorem ar6 (lo hi:Option Int):slD (.tuple ds) lo hi=.ok (.tuple (cutD ds lo hi)):=rfl
@[simp]theorem aqA:mJ (.list ds)=.ok (.tuple ds):=rfl
@[simp]theorem aqy:mJ (.tuple ds)=.ok (.tuple ds):=rfl
@[simp]theorem ao7:Qh (.list ds)=.ok (.list ds):=rfl
@[simp]theorem aoS:Qh (.tuple ds)=.ok (.list ds):=rfl
@[simp]theorem arS:Zt (.list ds)=.ok ds:=rfl
@[simp]theorem asH:Zt (.tuple ds)=.ok ds:=rfl
@[simp]theorem arP:qT (.list ds)=.ok ds:=rfl
@[simp]theorem ash:qT (.tuple ds)=.ok ds:=rfl
@[simp]theorem apY (o:Option Cell) (Z:Env):uV (o::Z)=o.map Ve::uV Z:=rfl
@[simp]theorem apK:uV []=[]:=rfl
@[simp]theorem apH (d:Dat):Ve (.dat d)=.dat d:=rfl
@[simp]theorem apq (ds:List Dat):Ve (.mut ds)=.dat (.list ds):=rfl
@[simp]theorem aqa (Z:Env):uN [] [] Z=some Z:=rfl
@[simp]theorem aqd (j:Nat) (js:List Nat) (d:Dat) (Z:Env):uN (j::js) (d::ds) Z=uN js ds (Z.set j (some (.dat d))):=rfl
@[simp]theorem aoQ (Z:Env):bY Z []=Z:=rfl
@[simp]theorem apB (Z:Env) (j:Nat) (js:List Nat):bY Z (j::js)=(bY Z js).set j none:=rfl
@[simp]theorem aoH {α:Type} (a:α) (l:List α):atI (a::l) 0=some a:=atI_nat (j:=0) rfl
@[simp]theorem aqj (n:Nat):ini n ds=ds.map (λd=>some (.dat d))++List.replicate (n-ds.length) none:=rfl
end
theorem acz{a b:String}:Str.ofString a=Str.ofString b↔a=b:=by
 constructor
 .intro h;rw[Str.ofString_eq_toList,Str.ofString_eq_toList]at h;have h1:a.toList.map Char.toNat=b.toList.map Char.toNat:=by simpa using h
  have h2:a.toList=b.toList:=by
   refine List.map_inj_right (f:=Char.toNat) (λx y e=>?_) |>.mp h1
   exact Char.ext (UInt32.toNat_inj.mp e)
  exact String.toList_inj.mp h2
 .rintro rfl;rfl
@[simp]theorem arY (a b:String):(Str.ofString a=Str.ofString b)=(a=b):=propext acz
@[simp]theorem aql (a b:String):(Str.ofString a==Str.ofString b)=decide (a=b):=by rw[auI];simp[acz]
@[simp]theorem ate {α:Type} (a b:α) (l:List α):atI (a::b::l) 1=some b:=atI_nat (j:=1) rfl
@[simp]theorem as8 {α:Type} (a b c:α) (l:List α):atI (a::b::c::l) 2=some c:=atI_nat (j:=2) rfl
@[simp]theorem atl {α:Type} (a b c d:α) (l:List α):atI (a::b::c::d::l) 3=some d:=atI_nat (j:=3) rfl
@[simp]theorem ato {α:Type} (a b c d e:α) (l:List α):atI (a::b::c::d::e::l) 4=some e:=atI_nat (j:=4) rfl
@[simp]theorem ath {α:Type} (a b c d e f:α) (l:List α):atI (a::b::c::d::e::f::l) 5=some f:=atI_nat (j:=5) rfl
@[simp]theorem ata {α:Type} (a b c d e f g:α) (l:List α):atI (a::b::c::d::e::f::g::l) 6=some g:=atI_nat (j:=6) rfl
@[simp]theorem apc (s:String):PyData.strOk (Str.ofString s)=true:=by
 rw[Str.ofString_eq_toList];unfold PyData.strOk;simp only[Array.all_eq_true,au1];intro i h;simp only[List.getElem_toArray,List.getElem_map];have:=s.toList[i]'(by simpa using h) |>.valid
 rcases this with z|⟨_,z⟩
 .show(s.toList[i]'(by simpa using h)).val.toNat<_
  omega
 .show(s.toList[i]'(by simpa using h)).val.toNat<_
  omega
section
variable(i j:Int)(x y:Str)(d e:Dat)(ds es:List Dat)(b c:Bool)
@[simp]theorem Zv:PyData.eqv (.int i) (.int j)=(i==j):=by simp[PyData.eqv]
@[simp]theorem asT:PyData.eqv (.str x) (.str y)=(x==y):=by simp[PyData.eqv]
@[simp]theorem aqV:PyData.eqv (.bool b) (.bool c)=(b==c):=by simp[PyData.eqv]
@[simp]theorem arO:PyData.eqv .none .none=true:=by simp[PyData.eqv]
@[simp]theorem abA:PyData.eqv (.tuple ds) (.tuple es)=PyData.eqvAll ds es:=by simp[PyData.eqv]
@[simp]theorem al7:PyData.eqv (.list ds) (.list es)=PyData.eqvAll ds es:=by simp[PyData.eqv]
@[simp]theorem asu:PyData.eqv (.tuple ds) .none=false:=by simp[PyData.eqv]
@[simp]theorem asw:PyData.eqv .none (.tuple ds)=false:=by simp[PyData.eqv]
@[simp]theorem arQ:PyData.eqv (.str x) (.int i)=false:=by simp[PyData.eqv]
@[simp]theorem ar4:PyData.eqv (.int i) (.str x)=false:=by simp[PyData.eqv]
@[simp]theorem ajm:PyData.eqvAll [] []=true:=by simp[PyData.eqvAll]
@[simp]theorem aqx:PyData.eqvAll [] (d::ds)=false:=by simp[PyData.eqvAll]
@[simp]theorem akm:PyData.eqvAll (d::ds) []=false:=by simp[PyData.eqvAll]
@[simp]theorem ace:PyData.eqvAll (d::ds) (e::es)=(PyData.eqv d e&&PyData.eqvAll ds es):=by simp[PyData.eqvAll]
end
@[simp]theorem BL:∀l m:List Int,PyData.eqvAll (l.map PyData.int) (m.map PyData.int)=decide (l=m)
 |[],[]=>by simp
 |[],_::_=>by simp
 |_::_,[]=>by simp
 |a::l,b::m=>by
  rw[atE,atE,ace,BL l m,Zv];by_cases h:a=b<;>by_cases h2:l=m<;>simp[h,h2]
theorem Bh{n:Nat}:∀{ds:List Dat},lJ n ds=true↔∀d∈ds,okd n d=true
 |[]=>by simp[lJ]
 |d::ds=>by simp[lJ,Bh (ds:=ds)]
@[simp]theorem aj0 (n:Nat) (i:Int):okd n (.int i)=true:=by simp[okd]
@[simp]theorem Xx (n:Nat) (l:List Int):lJ n (l.map PyData.int)=true:=Bh.mpr λd h=>by
 obtain⟨i,_,rfl⟩:=atM.mp h;simp
def ob(h:Nat):Dat:=obj h
section
variable(M:Mo)(Z:Env)(h:Nat)(f:Str)
@[simp]theorem aqD:O6 M f (ob h)=(M[h]?).bind λi=>i.fs.lookup f:=rfl
@[simp]theorem apD (tb:List (Str×MV)):G4 tb M (ob h)=(M[h]?).bind λi=>tb.lookup i.cls:=rfl
@[simp]theorem aaI:lQ M (ob h)=(M[h]?).bind λi=>match i.cls=="" with
 |true=>none
 |false=>some (h,i):=rfl
@[simp]theorem asN (o:QF):gq f o M Z=(o M Z).bind λd=>match O6 M f d with
 |some (.dat x)=>.ok x
 |_=>.bad:=rfl
@[simp]theorem ap9 (o:QF):bL f o M Z=(o M Z).bind λd=>match O6 M f d with
 |some (.dat x)=>.ok x
 |some (.lst _ xs)=>.ok (.list xs)
 |_=>.bad:=rfl
@[simp]theorem ap2 (tb:List (Str×MV)) (o:QF) (as:QA):aV tb o as M Z=(o M Z).bind λd=>match G4 tb M d with
 |some (.q _ m)=>(as M Z).bind λds=>m M (d::ds)
 |_=>.bad:=rfl
@[simp]theorem apu (tb:List (Str×MV)) (o:QF) (as:QA):bW tb o as M Z=((o M Z).at M).bind λd _=>match G4 tb M d with
 |some (.q _ m)=>((as M Z).at M).bind λds _=>(m M (d::ds)).at M
 |some (.g _ m)=>((as M Z).at M).bind λds _=>m M (d::ds)
 |none=>.bad:=rfl
@[simp]theorem aqm (x:Str) (m:Mo->List Dat->bG Dat) (as:QA):Dj x m as M Z=((as M Z).at M).bind λds _=>match m (M++[⟨x,[]⟩]) (ob M.length::ds) with
 |.ok .none M'=>.ok (ob M.length) M'
 |_=>.bad:=rfl
@[simp]theorem aoM (m:Mo->List Dat->bG Dat) (as:QA):Bx m as M Z=((as M Z).at M).bind λds _=>m M ds:=rfl
@[simp]theorem aoC (m:Mo->List Dat->bG Dat) (as:GA):am8 m as M Z=(as M Z).bind λds M1=>m M1 ds:=rfl
@[simp]theorem aoG (m:Mo->List Dat->Out Dat) (as:GA):akN m as M Z=(as M Z).bind λds M1=>(m M1 ds).at M1:=rfl
@[simp]theorem ao6:anS M Z=.ok [] M:=rfl
@[simp]theorem aox (a:GF) (r:GA):amm a r M Z=(a M Z).bind λd M1=>(r M1 Z).bind λds M2=>.ok (d::ds) M2:=rfl
@[simp]theorem ap0 (t:QT):ah0 t M Z=(t M Z).at M:=rfl
@[simp]theorem aoV (a:GT):an1 a M Z=(a M Z).bind λb M1=>.ok (!b) M1:=rfl
@[simp]theorem ao4 (a b:GT):anW a b M Z=(a M Z).bind λx M1=>if x=true then b M1 Z else .ok false M1:=rfl
@[simp]theorem apW (a b:GT):aoT a b M Z=(a M Z).bind λx M1=>if x=true then .ok true M1 else b M1 Z:=rfl
@[simp]theorem aoZ (a:GF):aoj a M Z=(a M Z).bind λd M1=>(KN d).at M1:=rfl
@[simp]theorem apl (x:Str):fJ x M Z=.exc ⟨x,[]⟩ Z M:=rfl
@[simp]theorem aou (x:Str) (fs:List Str) (as:QA):Ek x fs as M Z=((as M Z).at M).then Z λds M'=>.exc ⟨x,(fs.zip ds).reverse⟩ Z M':=rfl
@[simp]theorem asR (b:SF) (hs:List Hd):Oi b hs M Z=match b M Z with
 |.exc x Z' M'=>hdl hs x Z' M'
 |o=>o:=rfl
@[simp]theorem aqB (x:eX):hdl [] x Z M=.exc x Z M:=rfl
@[simp]theorem aqn (h:Hd) (r:List Hd) (x:eX):hdl (h::r) x Z M=match h.tk x.cls with
  |some true=>match adF Z h.nm with
   |true=>match Hl h.y x h.st (V4 Z h.nm) with
    |some Z2=>.next (V4 Z2 h.nm) M
    |none=>.bad
   |false=>.bad
  |some false=>hdl r x Z M
  |none=>.bad:=rfl
@[simp]theorem ap3:V4 Z none=Z:=rfl
@[simp]theorem aqC (i:Nat):V4 Z (some i)=Z.set i none:=rfl
@[simp]theorem apF:adF Z none=true:=rfl
@[simp]theorem apE (i:Nat):adF Z (some i)=decide (i<Z.length):=rfl
@[simp]theorem arX (y:Str) (x:eX):Hl y x [] Z=some Z:=rfl
@[simp]theorem aqW (y:Str) (x:eX) (j:Nat) (e:Ie) (r:List (Nat×Ie)):Hl y x ((j,e)::r) Z=(abC y x e).bind λd=>Hl y x r (Z.set j (some (.dat d))):=rfl
@[simp]theorem asj (y:Str) (x:eX) (d:Dat):abC y x (.con d)=some d:=rfl
@[simp]theorem aqk (g:GF):dw g M Z=(g M Z).then Z λd M'=>.ret d M':=rfl
@[simp]theorem aqX (t:GT) (f k:SF):apn t f k M Z=(t M Z).then Z λc M'=>if c=true then f M' Z else k M' Z:=rfl
@[simp]theorem aoE (a b:QF):Es a b M Z=(a M Z).bind λd=>(b M Z).bind λe=>(Dc d).bind λlo=>(Dc e).bind λn=>Out.when (decide (n<=100000/\-100000<=n/\lo<=100000/\-100000<=lo)) (.ok (jR lo (n-lo).toNat)):=rfl
@[simp]theorem aqe (ft:Ft) (o:QF) (e:GF):wM ft o f e M Z=(e M Z).then Z λd M1=>((o M1 Z).at M1).then Z λod M2=>match lQ M2 od with
 |some (h,i)=>match ft.has i.cls f&&decide (i.fs.length<100) with
  |true=>.next Z (M2.set h (i.put f (.dat d)))
  |false=>.bad
 |none=>.bad:=rfl
@[simp]theorem apS (ft:Ft) (o:QF) (e:IF):GJ ft o f e M Z=((e M Z).at M).then Z λxs M0=>((o (M0++[⟨"",[]⟩]) Z).at (M0++[⟨"",[]⟩])).then Z λod M2=>match lQ M2 od with
 |some (h,i)=>match ft.has i.cls f&&decide (i.fs.length<100) with
  |true=>.next Z (M2.set h (i.put f (.lst M0.length xs)))
  |false=>.bad
 |none=>.bad:=rfl
@[simp]theorem ap8 (ft:Ft) (o:QF) (b:Bool):Qv ft o f b M Z=((o (M++[⟨"",[]⟩]) Z).at (M++[⟨"",[]⟩])).then Z λod M2=>match lQ M2 od with
 |some (h,i)=>match ft.has i.cls f&&decide (i.fs.length<100) with
  |true=>.next Z (M2.set h (i.put f (.dic b [])))
  |false=>.bad
 |none=>.bad:=rfl
@[simp]theorem aqq (ft:Ft) (o:QF) (e:Mo->Env->Out (List (Dat×Dat))):T9 ft o f e M Z=((e M Z).at M).then Z λkvs _=>((o (M++[⟨"",[]⟩]) Z).at (M++[⟨"",[]⟩])).then Z λod M2=>match lQ M2 od with
 |some (h,i)=>match ft.has i.cls f&&decide (i.fs.length<100) with
  |true=>.next Z (M2.set h (i.put f (.dic true kvs)))
  |false=>.bad
 |none=>.bad:=rfl
@[simp]theorem aqi (o:QF) (e:GF):Hw f o e M Z=((o M Z).at M).then Z λod M0=>match Ir M0 f od with
 |some (_,_,n,_)=>(e M0 Z).then Z λd M1=>match Ir M1 f od with
  |some (h,i,n',xs)=>match n==n'&&decide (xs.length<100000) with
   |true=>.next Z (M1.set h (i.put f (.lst n (xs++[d]))))
   |false=>.bad
  |none=>.bad
 |none=>.bad:=rfl
@[simp]theorem ap1 (o fi e:QF):Tz f o fi e M Z=((e M Z).at M).then Z λd _=>((o M Z).at M).then Z λod _=>match Ir M f od with
 |some (h,i,n,xs)=>((fi M Z).at M).then Z λk _=>match k with
  |.int k=>match ixN xs.length k with
   |some j=>.next Z (M.set h (i.put f (.lst n (xs.set j d))))
   |none=>.bad
  |_=>.bad
 |none=>.bad:=rfl
@[simp]theorem aqF (ft:Ft) (o e:QF):Ux ft f o e M Z=((o M Z).at M).then Z λod _=>match lQ M od with
 |some (h,i)=>match i.fs.lookup f,ft.has i.cls f&&decide (i.fs.length<100) with
  |some (.dat (.int a)),true=>((e M Z).at M).then Z λd _=>match d with
   |.int b=>.next Z (M.set h (i.put f (.dat (.int (a+b)))))
   |_=>.bad
  |_,_=>.bad
 |none=>.bad:=rfl
theorem akj(d:Dat):Ir M f d=(lQ M d).bind λp=>match p.2.fs.lookup f with
 |some (.lst n xs)=>some (p.1,p.2,n,xs)
 |_=>none:=rfl
@[simp]theorem apU:Ir M f (ob h)=(M[h]?).bind λi=>match i.cls=="" with
 |true=>none
 |false=>match i.fs.lookup f with
  |some (.lst n xs)=>some (h,i,n,xs)
  |_=>none:=by
 rw[akj,aaI];cases M[h]? with
 |none=>rfl
 |some i=>
  show(match i.cls=="" with
   |true=>none
   |false=>some (h,i)).bind _=(match i.cls=="" with
   |true=>none
   |false=>_)
  cases i.cls==""<;>rfl
@[simp]theorem aqz (i:Inst) (x:jN):i.put f x=⟨i.cls,putL f x i.fs⟩:=rfl
@[simp]theorem atd (x:jN):putL f x []=[(f,x)]:=rfl
@[simp]theorem atg (x y:jN) (g:Str) (r:List (Str×jN)):putL f x ((g,y)::r)=if g=f then(g,x)::r else(g,y)::putL f x r:=rfl
@[simp]theorem apR (ft:Ft) (c:Str):Ft.has ft c f=match ft.lookup c with
 |some fs=>fs.contains f
 |none=>false:=rfl
@[simp]theorem aqo:Bp M f (ob h)=(M[h]?).bind λi=>match i.cls=="" with
 |true=>none
 |false=>match i.fs.lookup f with
  |some (.dic b kvs)=>some (h,i,b,kvs)
  |_=>none:=by
 show(lQ M (ob h)).bind _=_
 rw[aaI];cases M[h]? with
 |none=>rfl
 |some i=>
  show(match i.cls=="" with
   |true=>none
   |false=>some (h,i)).bind _=(match i.cls=="" with
   |true=>none
   |false=>_)
  cases i.cls==""<;>rfl
@[simp]theorem aqO (neg:Bool) (k o:QF):SN neg f k o M Z=(k M Z).bind λd=>(o M Z).bind λod=>match Bp M f od with
 |some (_,_,b,kvs)=>(dhas b kvs d).bind λr=>.ok (.bool (neg ^^ r))
 |none=>.bad:=rfl
@[simp]theorem apP (o k e:QF):Qi f o k e M Z=((e M Z).at M).then Z λv _=>((o M Z).at M).then Z λod _=>match Bp M f od with
 |some (h,i,b,kvs)=>((k M Z).at M).then Z λd _=>match dhas b kvs d,decide (kvs.length<100000) with
  |.ok false,true=>.next Z (M.set h (i.put f (.dic b (kvs++[(d,v)]))))
  |_,_=>.bad
 |none=>.bad:=rfl
@[simp]theorem apV (o k:QF):Qt f o k M Z=((o M Z).at M).then Z λod _=>match Bp M f od with
 |some (h,i,b,kvs)=>((k M Z).at M).then Z λd _=>match dhas b kvs d,decide (kvs.length<=100000) with
  |.ok true,true=>.next Z (M.set h (i.put f (.dic b (kvs.filter λp=>!PyData.eqv p.1 d))))
  |_,_=>.bad
 |none=>.bad:=rfl
@[simp]theorem apI (o:QF):Ey f o M Z=(o M Z).bind λod=>match Bp M f od with
 |some (_,_,true,kvs)=>.ok (kvs.map (·.1))
 |_=>.bad:=rfl
@[simp]theorem apm (o:QF):Fq f o M Z=(o M Z).bind λod=>match Bp M f od with
 |some (_,_,_,kvs)=>.ok (.list (kvs.map (·.1)))
 |none=>.bad:=rfl
@[simp]theorem as3 (it:IF) (tg:gj) (vs:List Nat) (tk:QF):qDc it tg vs tk M Z=(it M Z).bind λds=>Out.when (decide (ds.length<=50000)) (HS tg tk M (bY Z vs) ds []):=rfl
@[simp]theorem apv (kvs:List (Dat×Dat)) (i:Int):dhas false kvs (.int i)=.ok (kvs.any λp=>PyData.eqv p.1 (.int i)):=rfl
@[simp]theorem aqM (neg:Bool) (kvs:List (Str×Dat)) (k:QF):V6 neg kvs k M Z=(k M Z).bind λd=>match d with
 |.str x=>.ok (.bool (neg ^^ (kvs.lookup x).isSome))
 |_=>.bad:=rfl
@[simp]theorem aqI (kvs:List (Str×Dat)) (k:QF):adB kvs k M Z=(k M Z).bind λd=>match d with
 |.str x=>match kvs.lookup x with
  |some y=>.ok y
  |none=>.bad
 |_=>.bad:=rfl
@[simp]theorem apy (it:IF) (tg:gj) (vs:List Nat) (tt:QT) (it1:IF) (tg1:gj) (vs1:List Nat) (tt1:QT) (te:QF):FZ it tg vs tt it1 tg1 vs1 tt1 te M Z=((it M Z).bind λds=>(jd tg tt it1 tg1 vs1 tt1 te M (bY Z vs) ds).bind λr=>Out.when (decide (r.length<=50000)) (.ok r)).bind λr=>.ok (.list r):=rfl
@[simp]theorem aoB (it:IF) (tg:gj) (vs:List Nat) (tt:QT) (te:QF):Ef it tg vs tt te M Z=((it M Z).bind λds=>Out.when (decide (ds.length<=50000)) (cX tg tt te M (bY Z vs) ds)).bind λds=>match intsOf ds with
 |some l=>Out.when (decide (l.length<=4000)) (.ok (.list ((Bs l).map PyData.int)))
 |none=>.bad:=rfl
@[simp]theorem aow {α:Type} (k g:Str) (y:α) (r:List (Str×α)):List.lookup k ((g,y)::r)=if k=g then some y else List.lookup k r:=by
 rw[aub];by_cases e:k=g
 .subst e;simp
 .have:(k==g)=false:=by simpa using e
  rw[this,au6 e]
end
end Rf
namespace Pr
open PySem PySem.Spec PyProof.Rows L2 Evl Rf
def Br:SF:=
 (aC (GJ lN (ao 0) "allowances" (LQ au))
 (GJ lN (ao 0) "circles" (LQ au)))
def wu:=mG 1 Br
def Dg:SF:=
 (Qv lN (ao 0) "held" true)
def yj:=mG 1 Dg
def Ip:SF:=
 (GJ lN (ao 0) "beasts" (LQ au))
def BW:=mG 1 Ip
def Am:SF:=
 (aC (wM lN (ao 0) "owner_count" (gOf (qC (.int 0))))
 (aC (Qv lN (ao 0) "holders" false)
 (aC (wM lN (ao 0) "grounds" (Dj "Grounds" wu au))
 (aC (wM lN (ao 0) "rights" (Dj "Rights" yj au))
 (wM lN (ao 0) "herd" (Dj "Herd" BW au))))))
def rZ:=mG 1 Am
def aaf:SF:=
 (aC (bF (aW (aA Q7 (ao 1) (eE ou (ao 0)))) (aP (aA aN (ao 0) (ao 1))) aK)
 (aP (qC (.int 0))))
def Cg:=mQ 2 aaf
def VB:SF:=
 (aC (aZ (aF 5) (gOf (aA jy (aA dZ (aA dZ (aA yw (ao 5) (qC (.int 48271))) (aA yw (qC (.int 9973)) (ao 4))) (qC (.int 11))) (qC (.int 2147483647)))))
 (CZ 3 (aA jy (aA zW (ao 5) (qC (.int 1021))) (ao 2))))
def WQ:SF:=
 (aC (CZ 3 (aA jy (ao 0) (ao 2)))
 (aZ (aF 0) (gOf (aA zW (ao 0) (ao 2)))))
def adE:SF:=
 (aC (Ba 3 (LQ au))
 (aC (aZ (aF 0) (gOf (eE WY (ao 0))))
 (aC (bF (aW (aA geD (ao 0) (aA Rg (qC (.int 10)) (qC (.int 18))))) (aC (oJ (Ea (ao 1)) (aF 4) WQ)
 (aP (aq 3))) aK)
 (aC (aZ (aF 5) (gOf (aA jy (aA yw (aA dZ (aA jy (ao 0) (qC (.int 1000003))) (qC (.int 17))) (qC (.int 69621))) (qC (.int 2147483647)))))
 (aC (oJ (Ea (ao 1)) (aF 4) VB)
 (aP (aq 3)))))))
def uf:=mQ 6 adE
def Ss:SF:=
 (aC (bF (aW (aA bR (aA jy (ao 1) (qC (.int 4))) (qC (.int 1)))) (aP (eE mJ (fu (cR (ao 0)) (aF 2) [2] iT (aA u9 (qC (.int 0)) (aA mH (ao 2) (qC (.int 7))))))) aK)
 (aC (bF (aW (aA bR (aA jy (ao 1) (qC (.int 4))) (qC (.int 2)))) (aP (eE mJ (fu (cR (ao 0)) (aF 2) [2] iT (aA jy (ao 2) (qC (.int 3)))))) aK)
 (aP (eE mJ (ao 0)))))
def vU:=mQ 3 Ss
def adX:SF:=
 (aC (aZ (aF 1) (gOf (aR uf (aj (aq 0) (aj (qC (.int 7)) (aj (qC (.int 10)) au))))))
 (aP (aR vU (aj (Et (ao 1) uz (lC (qC (.int 6)))) (aj (aA aN (ao 1) (qC (.int 6))) au)))))
def Ko:=mQ 2 adX
def Iv:SF:=
 (aC (bF (aW (aA bR (aA jy (ao 0) (qC (.int 8))) (qC (.int 7)))) (aP (xg au)) aK)
 (aC (aZ (aF 1) (gOf (xg (aj (bD (aj (qC (.str "ground")) (aj (qC (.int 0)) (aj (qC (.int 0)) au)))) (aj (bD (aj (qC (.str "owner")) (aj (qC (.int 0)) (aj (qC (.int 0)) au)))) (aj (bD (aj (qC (.str "owner")) (aj (qC (.int 0)) (aj (qC (.int 0)) au)))) (aj (bD (aj (qC (.str "enrol")) (aj (qC (.int 0)) (aj (qC (.int 0)) au)))) (aj (bD (aj (qC (.str "enrol")) (aj (qC (.int 1)) (aj (qC (.int 0)) au)))) au))))))))
 (aC (aZ (aF 1) (gOf (aA dZ (ao 1) (xg (aj (bD (aj (qC (.str "bring")) (aj (qC (.int 0)) (aj (qC (.int 0)) au)))) (aj (bD (aj (qC (.str "cut")) (aj (qC (.int 0)) (aj (qC (.int 0)) au)))) (aj (bD (aj (qC (.str "bring")) (aj (qC (.int 1)) (aj (qC (.int 0)) au)))) (aj (bD (aj (qC (.str "cut")) (aj (qC (.int 1)) (aj (qC (.int 0)) au)))) (aj (bD (aj (qC (.str "ground")) (aj (qC (.int 0)) (aj (qC (.int 0)) au)))) (aj (bD (aj (qC (.str "enrol")) (aj (qC (.int 0)) (aj (qC (.int 1)) au)))) au))))))))))
 (aP (aq 1)))))
def xP:=mQ 2 Iv
def Oo:SF:=
 (aC (aZ (aF 1) (gOf (xg (aj (qC (.str "tear")) (aj (qC (.str "cut")) (aj (qC (.str "bring")) (aj (qC (.str "sell")) (aj (qC (.str "move")) (aj (qC (.str "enrol")) (aj (qC (.str "bear")) (aj (qC (.str "tear")) (aj (qC (.str "cut")) (aj (qC (.str "sell")) (aj (qC (.str "move")) (aj (qC (.str "unite")) (aj (qC (.str "part")) au))))))))))))))))
 (aC (aZ (aF 1) (gOf (aA dZ (ao 1) (xg (aj (qC (.str "heir")) (aj (qC (.str "pass")) (aj (qC (.str "die")) (aj (qC (.str "leave")) (aj (qC (.str "ground")) (aj (qC (.str "owner")) (aj (qC (.str "enrol")) (aj (qC (.str "tear")) (aj (qC (.str "sell")) (aj (qC (.str "bring")) (aj (qC (.str "bear")) (aj (qC (.str "cut")) au))))))))))))))))
 (aP (aA aN (ao 1) (aA jy (ao 0) (qC (.int 25)))))))
def vZ:=mQ 2 Oo
def nZ:SF:=
 (bF (aW (SN true "holders" (aq 1) (ao 0))) (fJ "NoOwner") aK)
def jU:=mQ 2 nZ
def wD:SF:=
 (aP (eE ou (bL "allowances" (ao 0))))
def rO:=mQ 1 wD
def fM:List (Str×MV):=[("Grounds",.q 1 rO)]
def Di:SF:=
 (aP (Ut (nQ qP qP (qC (.int 1)) (ao 1) (aV fM (ao 0) au))))
def yd:=mQ 2 Di
def Bj:List (Str×MV):=[("Grounds",.q 2 yd)]
def Bl:SF:=
 (bF (iW (fB (aV Bj (ao 0) (aj (aq 1) au)))) (fJ "NoGround") aK)
def wB:=mQ 2 Bl
def Bq:SF:=
 (aP (fu (Ey "held" (ao 0)) (bB [3,4,5]) [3,4,5] (gH (aW (aA bR (ao 3) (ao 1))) (aW (aA bR (ao 4) (ao 2)))) (aq 5)))
def wO:=mQ 6 Bq
def cQ:List (Str×MV):=[("Rights",.q 3 wO)]
def vK:SF:=
 (aP (aA Xj (eE ou (aV cQ (ao 0) (aj (aq 1) (aj (aq 2) au)))) (qC (.int 0))))
def qG:=mQ 3 vK
def uW:List (Str×MV):=[("Rights",.q 3 qG)]
def tX:SF:=
 (bF (iW (fB (aV uW (bL "rights" (ao 0)) (aj (aq 1) (aj (aq 2) au))))) (fJ "NoRight") aK)
def oE:=mQ 3 tX
def uU:SF:=
 (aC (Ux lN "owner_count" (ao 0) (qC (.int 1)))
 (aC (Qi "holders" (ao 0) (gq "owner_count" (ao 0)) (qC (.bool true)))
 (aP (gq "owner_count" (ao 0)))))
def gU:=mG 1 uU
def qH:SF:=
 (aC (aZ (aF 4) (gOf (bD (aj (aq 1) (aj (aq 2) (aj (aq 3) au))))))
 (aC (bF (aW (SN false "held" (aq 4) (ao 0))) (fJ "HasRight") aK)
 (Qi "held" (ao 0) (aq 4) (qC (.bool true)))))
def jL:=mG 5 qH
def EY:SF:=
 (aZ (aF 2) (gOf (FZ (cR (ao 2)) (bB [4,5]) [4,5,6] iT (Es (ao 3) (aA dZ (aA KR (aA dZ (ao 3) (ao 5)) (qC cZ)) (qC (.int 1)))) (aF 6) [6] iT (bD (aj (aA dZ (ao 4) (bD (aj (aq 6) au))) (aj (aA mH (ao 5) (aA mH (ao 6) (ao 3))) au))))))
def ZF:SF:=
 (aC (aZ (aF 2) (gOf (xg (aj (bD (aj (bD au) (aj (aq 1) au))) au))))
 (aC (oJ (cR (aq 0)) (aF 3) EY)
 (aP (fu (cR (ao 2)) (bB [4,5]) [4,5] iT (aq 4)))))
def Od:=mQ 7 ZF
def Vk:SF:=
 (aP (eE W4 (fu (Gm (ao 0) (ao 1)) (bB [2,3]) [2,3] (aW (aA Xj (ao 3) (ao 2))) (aA mH (ao 3) (ao 2)))))
def qd:=mQ 4 Vk
def Ih:SF:=
 (aP (fu (cR (aR Od (aj (aq 0) (aj (aq 1) au)))) (aF 2) [2] (aW (aA bR (aR qd (aj (aq 0) (aj (aq 2) au))) (ao 1))) (aq 2)))
def xK:=mQ 3 Ih
def W3:SF:=
 (aP (aA u9 (aR qd (aj (aq 0) (aj (aq 1) au))) (aR qd (aj (aq 1) (aj (aq 0) au)))))
def Jz:=mQ 2 W3
def aaY:SF:=
 (aP (aA qP (aR Jz (aj (aq 0) (aj (aq 1) au))) (ao 2)))
def uD:=mQ 3 aaY
def lM:SF:=
 (bF (iW (fB (eE Ro (fu (cR (ao 2)) (bB [5,6]) [5,6] iT (aR uD (aj (aq 4) (aj (aq 6) (aj (aq 3) au)))))))) (aP (aq 4)) aK)
def za:SF:=
 (aC (oJ (cR (aR xK (aj (aq 0) (aj (aq 1) au)))) (aF 4) lM)
 (fJ "NoneFree"))
def sH:=mQ 7 za
def tL:SF:=
 (aP (aA aN (aV cQ (bL "rights" (ao 0)) (aj (aq 1) (aj (aq 2) au))) (qC (.int 0))))
def oH:=mQ 3 tL
def aG:List (Str×MV):=[("Grounds",.q 2 wB)]
def qR:SF:=
 (aC (cH (gOf (aV aG (ao 0) (aj (aq 1) au))))
 (aP (eE Qh (aA aN (bL "circles" (ao 0)) (aA mH (ao 1) (qC (.int 1)))))))
def lZ:=mQ 2 qR
def bK:List (Str×MV):=[("Grounds",.q 2 lZ)]
def qU:SF:=
 (aP (aV bK (bL "grounds" (ao 0)) (aj (aq 1) au)))
def mj:=mQ 2 qU
def RX:SF:=
 (aP (eE UW (ao 0)))
def uo:=mQ 1 RX
def wW:SF:=
 (aP (fu (yh 1 (bL "beasts" (ao 0))) (bB [1,2]) [1,2] (fB (bL "alive" (ao 2))) (bD (aj (aq 1) (aj (aq 2) au)))))
def rE:=mQ 3 wW
def eV:List (Str×MV):=[("Herd",.q 1 rE)]
def Az:SF:=
 (aP (fu (cR (aV eV (ao 0) au)) (bB [2,3]) [2,3] (aW (aA (inD false) (bL "ground" (ao 3)) (ao 1))) (bD (aj (aq 2) (aj (aq 3) au)))))
def sJ:=mQ 4 Az
def uP:SF:=
 (aP (fu (Ey "held" (ao 0)) (bB [2,3,4]) [2,3,4] (aW (aA (inD false) (ao 3) (ao 1))) (bD (aj (aq 2) (aj (aq 4) au)))))
def pP:=mQ 5 uP
def sY:List (Str×MV):=[("Rights",.q 2 pP)]
def fQ:List (Str×MV):=[("Herd",.q 2 sJ)]
def bT:List (Str×MV):=[("Commons",.q 2 mj)]
def lO:SF:=
 (aC (aZ (aF 3) (gOf (aV bT (ao 0) (aj (aq 2) au))))
 (aC (aZ (aF 4) (gOf (fu (cR (aV fQ (bL "herd" (ao 0)) (aj (aq 3) au))) (bB [5,6]) [5,6] (gH (aW (vP true .none (bL "due" (ao 6)))) (aW (aA vX (ao 5) (ao 1)))) (bD (aj (gq "owner" (ao 6)) (aj (gq "due" (ao 6)) au))))))
 (aP (aR uo (aj (aA dZ (aV sY (bL "rights" (ao 0)) (aj (aq 3) au)) (ao 4)) au)))))
def jo:=mQ 7 lO
def dH:List (Str×MV):=[("Commons",.q 3 jo)]
def qW:SF:=
 (aP (aV dH (ao 0) (aj (qC (.int 0)) (aj (aq 1) au))))
def lY:=mQ 2 qW
def pQ:SF:=
 (aC (cH (gOf (aV aG (ao 0) (aj (aq 1) au))))
 (aP (aA aN (bL "allowances" (ao 0)) (aA mH (ao 1) (qC (.int 1))))))
def lA:=mQ 2 pQ
def eO:List (Str×MV):=[("Grounds",.q 2 lA)]
def wU:SF:=
 (aP (eE maxD (fu (cR (aV bK (ao 0) (aj (aq 1) au))) (aF 2) [2] iT (aV eO (ao 0) (aj (aq 2) au)))))
def sG:=mQ 3 wU
def vf:List (Str×MV):=[("Grounds",.q 2 sG)]
def wA:SF:=
 (aP (aV vf (bL "grounds" (ao 0)) (aj (aq 1) au)))
def sE:=mQ 2 wA
def jk:List (Str×MV):=[("Rights",.g 4 jL)]
def dI:List (Str×MV):=[("Commons",.g 1 gU)]
def bQ:List (Str×MV):=[("Commons",.q 2 sE)]
def bH:List (Str×MV):=[("Commons",.q 2 lY)]
def cD:List (Str×MV):=[("Commons",.q 3 oH)]
def aU:List (Str×MV):=[("Commons",.q 3 oE)]
def aD:List (Str×MV):=[("Commons",.q 2 jU)]
def eG:SF:=
 (aC (cH (gOf (aV aD (ao 0) (aj (aq 1) au))))
 (aC (cH (gOf (aV aG (bL "grounds" (ao 0)) (aj (aq 2) au))))
 (aC (bF (iW (nQ qP qP (qC jK) (ao 3) (qC lW))) (fJ "BadExtra") aK)
 (aC (cH (gOf (aV aU (ao 0) (aj (aq 1) (aj (aq 2) au)))))
 (aC (aZ (aF 4) (gOf (aR sH (aj (aV cD (ao 0) (aj (aq 1) (aj (aq 2) au))) (aj (aq 3) (aj (aV bH (ao 0) (aj (aq 2) au)) (aj (aV bQ (ao 0) (aj (aq 2) au)) au)))))))
 (aC (aZ (aF 5) (bW dI (ao 0) au))
 (aC (cH (bW jk (bL "rights" (ao 0)) (aj (aq 5) (aj (aq 2) (aj (aq 4) au)))))
 (aP (bD (aj (aq 5) (aj (aq 4) au)))))))))))
def cV:=mG 6 eG
def j6:SF:=
 (aC (bF (iW (nQ qP qP (qC (.int 0)) (ao 1) (qC iK))) (fJ "BadAllowance") aK)
 (aC (Hw "allowances" (ao 0) (gOf (aq 1)))
 (aC (Hw "circles" (ao 0) (gOf (bD (aj (aV fM (ao 0) au) au))))
 (aP (aV fM (ao 0) au)))))
def fW:=mG 2 j6
def mW:List (Str×MV):=[("Grounds",.g 2 fW)]
def nY:SF:=
 (dw (bW mW (bL "grounds" (ao 0)) (aj (aq 1) au)))
def fZ:=mG 2 nY
def Oh:SF:=
 (aP (fu (cR (aR uo (aj (aq 2) au))) (bB [4,5]) [4,5] (gH (aW (aA vX (ao 4) (ao 0))) (fB (aR uD (aj (aq 1) (aj (aq 5) (aj (aq 3) au)))))) (bD (aj (aq 4) (aj (aq 5) au)))))
def Cy:=mQ 6 Oh
def Wv:SF:=
 (aP (eE mJ (fu (Gm (ao 0) (ao 1)) (bB [2,3]) [2,3] iT (aA u9 (ao 2) (ao 3)))))
def rW:=mQ 4 Wv
def DK:SF:=
 (aC (aZ (aF 4) (gOf (aR Cy (aj (aq 0) (aj (aq 1) (aj (aq 2) (aj (aq 3) au)))))))
 (bF (fB (ao 4)) (aC (aZ (bB [5,6]) (gOf (aA aN (ao 4) (qC (.int 0)))))
 (Ek "Clash" ["ones","others","ear"] (aj (bD (aj (aq 0) (aj (aq 1) au))) (aj (bD (aj (aq 5) (aj (aq 6) au))) (aj (aR rW (aj (aq 1) (aj (aq 6) au))) au))))) aK))
def qJ:=mQ 7 DK
def oG:SF:=
 (cH (gOf (aR qJ (aj (aq 1) (aj (aq 2) (aj (aV bH (ao 0) (aj (aq 3) au)) (aj (aV bQ (ao 0) (aj (aq 3) au)) au)))))))
def iJ:=mQ 4 oG
def Le:SF:=
 (aP (xV (aA bR (eE ou (ao 0)) (eE ou (qC jB))) (eE KH (fu (cR (ao 0)) (aF 1) [1] iT (Ut (nQ qP qP (qC (.int 0)) (ao 1) (qC cZ)))))))
def vL:=mQ 2 Le
def Kg:SF:=
 (bF (iW (fB (aR vL (aj (aq 0) au)))) (fJ "BadEar") aK)
def oF:=mQ 1 Kg
def cG:List (Str×MV):=[("Commons",.q 4 iJ)]
def iy:SF:=
 (aC (cH (gOf (aV aD (ao 0) (aj (aq 1) au))))
 (aC (cH (gOf (aV aG (bL "grounds" (ao 0)) (aj (aq 2) au))))
 (aC (cH (gOf (aR oF (aj (aq 3) au))))
 (aC (bF (aW (aA bR (ao 3) (qC jQ))) (fJ "Bare") aK)
 (aC (bF (aW (aA (inD false) (ao 3) (aV cQ (bL "rights" (ao 0)) (aj (aq 1) (aj (aq 2) au))))) (fJ "HasRight") aK)
 (aC (cH (gOf (aV cG (ao 0) (aj (aq 1) (aj (aq 3) (aj (aq 2) au))))))
 (cH (bW jk (bL "rights" (ao 0)) (aj (aq 1) (aj (aq 2) (aj (aq 3) au)))))))))))
def dU:=mG 4 iy
def zX:SF:=
 (Qt "held" (ao 0) (bD (aj (aq 1) (aj (aq 2) (aj (aq 4) au)))))
def xY:SF:=
 (aC (aZ (aF 3) (gOf (aV cQ (ao 0) (aj (aq 1) (aj (aq 2) au)))))
 (aC (bF (iW (fB (ao 3))) (fJ "NoRight") aK)
 (aC (oJ (cR (aq 3)) (aF 4) zX)
 (aP (aq 3)))))
def qp:=mG 5 xY
def Ak:List (Str×MV):=[("Rights",.g 3 qp)]
def j8:SF:=
 (aC (cH (gOf (aV aD (ao 0) (aj (aq 1) au))))
 (aC (cH (gOf (aV aG (bL "grounds" (ao 0)) (aj (aq 2) au))))
 (aC (cH (gOf (aV aU (ao 0) (aj (aq 1) (aj (aq 2) au)))))
 (aC (bF (fB (eE Ro (fu (cR (aV fQ (bL "herd" (ao 0)) (aj (xg (aj (aq 2) au)) au))) (bB [3,4]) [3,4] iT (aA bR (bL "owner" (ao 4)) (ao 1))))) (fJ "StillThere") aK)
 (dw (bW Ak (bL "rights" (ao 0)) (aj (aq 1) (aj (aq 2) au))))))))
def fO:=mG 5 j8
def tM:SF:=
 (aC (aZ (bB [2,3,4,5,6]) (gOf (aq 1)))
 (aC (wM lN (ao 0) "owner" (gOf (aq 2)))
 (aC (wM lN (ao 0) "ground" (gOf (aq 3)))
 (aC (wM lN (ao 0) "due" (gOf (aq 4)))
 (aC (wM lN (ao 0) "ear" (gOf (aq 5)))
 (wM lN (ao 0) "alive" (gOf (aq 6))))))))
def pG:=mG 7 tM
def Qs:SF:=
 (aC (bF (aW (aA bR (aA aN (ao 0) (qC (.int 0))) (qC (.str "born")))) (aC (aZ (bB [1,2,3,4]) (gOf (aq 0)))
 (aP (bD (aj (aq 3) (aj (aq 4) (aj (qC .none) (aj (qC jQ) (aj (qC (.bool true)) au)))))))) aK)
 (aC (aZ (bB [1,3,4,5]) (gOf (aq 0)))
 (aP (bD (aj (aq 3) (aj (aq 4) (aj (qC .none) (aj (aq 5) (aj (qC (.bool true)) au)))))))))
def Ei:=mQ 6 Qs
def j9:List (Str×MV):=[("Beast",.g 2 pG)]
def Fp:SF:=
 (aC (GJ lN (ao 0) "story" (LQ (aj (aq 1) au)))
 (aC (wM lN (ao 0) "mother" (gOf (O2 (aW (aA bR (aA aN (ao 1) (qC (.int 0))) (qC (.str "born")))) (aA aN (ao 1) (qC (.int 1))) (qC (.int 0)))))
 (cH (bW j9 (ao 0) (aj (aR Ei (aj (aq 1) au)) au)))))
def vA:=mG 2 Fp
def yJ:SF:=
 (aC (Hw "beasts" (ao 0) (Dj "Beast" vA (aj (aq 1) au)))
 (aP (eE ou (bL "beasts" (ao 0)))))
def tZ:=mG 2 yJ
def kJ:List (Str×MV):=[("Herd",.g 2 tZ)]
def jX:SF:=
 (aC (cH (gOf (aV aD (ao 0) (aj (aq 1) au))))
 (aC (cH (gOf (aV aG (bL "grounds" (ao 0)) (aj (aq 2) au))))
 (aC (cH (gOf (aR oF (aj (aq 3) au))))
 (aC (cH (gOf (aV aU (ao 0) (aj (aq 1) (aj (aq 2) au)))))
 (dw (bW kJ (bL "herd" (ao 0)) (aj (bD (aj (qC (.str "brought")) (aj (aq 1) (aj (aq 2) (aj (aq 3) au))))) au)))))))
def fP:=mG 4 jX
def v7:SF:=
 (aC (bF (iW (nQ qP qP (qC (.int 1)) (ao 1) (eE ou (bL "beasts" (ao 0))))) (fJ "NoBeast") aK)
 (aP (aA aN (bL "beasts" (ao 0)) (aA mH (ao 1) (qC (.int 1))))))
def mK:=mQ 2 v7
def gA:List (Str×MV):=[("Herd",.q 2 mK)]
def yg:SF:=
 (aC (aZ (aF 2) (gOf (aV gA (ao 0) (aj (aq 1) au))))
 (aC (bF (iW (fB (bL "alive" (ao 2)))) (fJ "Dead") aK)
 (aP (aq 2))))
def uI:=mQ 3 yg
def bO:List (Str×MV):=[("Herd",.q 2 uI)]
def uF:SF:=
 (aC (aZ (aF 2) (gOf (aV bO (ao 0) (aj (aq 1) au))))
 (aC (bF (aW (vP false .none (bL "due" (ao 2)))) (fJ "Unmarked") aK)
 (aP (aq 2))))
def qj:=mQ 3 uF
def bJ:List (Str×MV):=[("Herd",.q 2 qj)]
def oO:SF:=
 (aC (aZ (aF 2) (gOf (aV bJ (bL "herd" (ao 0)) (aj (aq 1) au))))
 (dw (bW kJ (bL "herd" (ao 0)) (aj (bD (aj (qC (.str "born")) (aj (aq 1) (aj (gq "owner" (ao 2)) (aj (gq "ground" (ao 2)) au))))) au))))
def iY:=mG 3 oO
def Kz:SF:=
 (aP (eE mJ (fu (yh 0 (ao 0)) (bB [2,3]) [2,3] iT (O2 (aW (aA bR (ao 2) (ao 1))) (aA dZ (ao 3) (qC (.int 1))) (aq 3)))))
def zV:=mQ 4 Kz
def Nr:SF:=
 (aC (aZ (bB [2,3,4,5,6]) (gOf (aq 0)))
 (aC (aZ (aF 7) (gOf (aA aN (ao 1) (qC (.int 0)))))
 (aC (bF (aW (aA bR (ao 7) (qC (.str "cut")))) (T7 4 5 (gOf (aA aN (ao 1) (qC (.int 1))))) (bF (aW (aA bR (ao 7) (qC (.str "torn")))) (aZ (aF 5) (gOf (aR zV (aj (aq 5) (aj (aA aN (ao 1) (qC (.int 1))) au))))) (bF (aW (aA bR (ao 7) (qC (.str "sold")))) (aC (aZ (aF 2) (gOf (aA aN (ao 1) (qC (.int 1)))))
 (T7 4 5 (gOf (aA aN (ao 1) (qC (.int 2)))))) (bF (aW (aA bR (ao 7) (qC (.str "moved")))) (aZ (aF 3) (gOf (aA aN (ao 1) (qC (.int 1))))) (bF (aW (aA bR (ao 7) (qC (.str "followed")))) (aC (aZ (aF 2) (gOf (aA aN (ao 1) (qC (.int 1)))))
 (aZ (aF 3) (gOf (aA aN (ao 1) (qC (.int 2)))))) (bF (aW (aA bR (ao 7) (qC (.str "passed")))) (aZ (aF 2) (gOf (aA aN (ao 1) (qC (.int 1))))) (bF (aW (aA bR (ao 7) (qC (.str "died")))) (aZ (aF 6) (gOf (qC (.bool false)))) aK)))))))
 (aP (bD (aj (aq 2) (aj (aq 3) (aj (aq 4) (aj (aq 5) (aj (aq 6) au))))))))))
def CJ:=mQ 8 Nr
def Dd:SF:=
 (aP (bD (aj (gq "owner" (ao 0)) (aj (gq "ground" (ao 0)) (aj (gq "due" (ao 0)) (aj (gq "ear" (ao 0)) (aj (gq "alive" (ao 0)) au)))))))
def xU:=mQ 1 Dd
def oU:List (Str×MV):=[("Beast",.q 1 xU)]
def Ao:SF:=
 (aC (Hw "story" (ao 0) (gOf (aq 1)))
 (cH (bW j9 (ao 0) (aj (aR CJ (aj (aV oU (ao 0) au) (aj (aq 1) au))) au))))
def oV:=mG 2 Ao
def bV:List (Str×MV):=[("Beast",.g 2 oV)]
def ql:SF:=
 (aC (aZ (aF 2) (gOf (aV bO (bL "herd" (ao 0)) (aj (aq 1) au))))
 (aC (aZ (aF 3) (gOf (aR rW (aj (gq "ear" (ao 2)) (aj (aV cD (ao 0) (aj (gq "owner" (ao 2)) (aj (gq "ground" (ao 2)) au))) au)))))
 (aC (cH (gOf (aV cG (ao 0) (aj (gq "owner" (ao 2)) (aj (aq 3) (aj (gq "ground" (ao 2)) au))))))
 (aC (cH (bW bV (ao 2) (aj (bD (aj (qC (.str "cut")) (aj (aq 3) au))) au)))
 (aP (aq 3))))))
def jA:=mG 4 ql
def jM:SF:=
 (aC (aZ (aF 3) (gOf (aV bO (bL "herd" (ao 0)) (aj (aq 1) au))))
 (aC (bF (iW (nQ qP Q7 (qC (.int 0)) (ao 2) (eE ou (qC jB)))) (fJ "NoPlace") aK)
 (aC (bF (aW (aA geD (aA aN (bL "ear" (ao 3)) (ao 2)) (qC cZ))) (fJ "Deepest") aK)
 (aC (cH (bW bV (ao 3) (aj (bD (aj (qC (.str "torn")) (aj (aq 2) au))) au)))
 (aP (gq "ear" (ao 3)))))))
def fL:=mG 4 jM
def yt:SF:=
 (aC (cH (gOf (aV gA (ao 0) (aj (aq 1) au))))
 (aP (fu (cR (aV eV (ao 0) au)) (bB [2,3]) [2,3] (gH (aW (aA bR (bL "mother" (ao 3)) (ao 1))) (aW (vP false .none (bL "due" (ao 3))))) (bD (aj (aq 2) (aj (aq 3) au))))))
def uE:=mQ 4 yt
def Bg:List (Str×MV):=[("Herd",.q 2 uE)]
def tV:SF:=
 (cH (bW bV (ao 4) (aj (bD (aj (qC (.str "followed")) (aj (gq "owner" (ao 2)) (aj (gq "ground" (ao 2)) au)))) au)))
def vO:SF:=
 (aC (aZ (aF 2) (gOf (aV gA (ao 0) (aj (aq 1) au))))
 (oJ (cR (aV Bg (ao 0) (aj (aq 1) au))) (bB [3,4]) tV))
def qO:=mG 5 vO
def ji:List (Str×MV):=[("Herd",.g 2 qO)]
def gK:SF:=
 (aC (aZ (aF 3) (gOf (aV bJ (bL "herd" (ao 0)) (aj (aq 1) au))))
 (aC (cH (gOf (aV aD (ao 0) (aj (aq 2) au))))
 (aC (bF (aW (aA bR (bL "owner" (ao 3)) (ao 2))) (fJ "SameOwner") aK)
 (aC (cH (gOf (aV aU (ao 0) (aj (aq 2) (aj (gq "ground" (ao 3)) au)))))
 (aC (aZ (aF 4) (gOf (aR rW (aj (gq "ear" (ao 3)) (aj (aV cD (ao 0) (aj (aq 2) (aj (gq "ground" (ao 3)) au))) au)))))
 (aC (cH (gOf (aR qJ (aj (aq 2) (aj (aq 4) (aj (aV dH (ao 0) (aj (aq 1) (aj (gq "ground" (ao 3)) au))) (aj (aV bQ (ao 0) (aj (gq "ground" (ao 3)) au)) au)))))))
 (aC (cH (bW bV (ao 3) (aj (bD (aj (qC (.str "sold")) (aj (aq 2) (aj (aq 4) au)))) au)))
 (aC (cH (bW ji (bL "herd" (ao 0)) (aj (aq 1) au)))
 (aP (aq 4))))))))))
def dO:=mG 5 gK
def gJ:SF:=
 (aC (aZ (aF 3) (gOf (aV bJ (bL "herd" (ao 0)) (aj (aq 1) au))))
 (aC (cH (gOf (aV aG (bL "grounds" (ao 0)) (aj (aq 2) au))))
 (aC (aZ (aF 4) (gOf (gq "ground" (ao 3))))
 (aC (bF (aW (aA bR (ao 4) (ao 2))) (fJ "SameGround") aK)
 (aC (cH (gOf (aV aU (ao 0) (aj (gq "owner" (ao 3)) (aj (aq 2) au)))))
 (aC (cH (gOf (aV cG (ao 0) (aj (gq "owner" (ao 3)) (aj (gq "due" (ao 3)) (aj (aq 2) au))))))
 (aC (cH (bW bV (ao 3) (aj (bD (aj (qC (.str "moved")) (aj (aq 2) au))) au)))
 (aC (cH (bW ji (bL "herd" (ao 0)) (aj (aq 1) au)))
 (aP (aq 4))))))))))
def dR:=mG 5 gJ
def uJ:SF:=
 (cH (bW bV (aV bO (bL "herd" (ao 0)) (aj (aq 1) au)) (aj (bD (aj (qC (.str "died")) au)) au)))
def kW:=mG 2 uJ
def Kr:SF:=
 (aC (aZ (aF 2) (gOf (aR uo (aj (aq 0) au))))
 (aP (FZ (yh 0 (ao 2)) (bB [3,4]) [3,4,5] iT (cR (Et (ao 2) (lC (aA dZ (ao 3) (qC (.int 1)))) uz)) (aF 5) [5] (gH (aW (aA vX (aA aN (ao 4) (qC (.int 0))) (aA aN (ao 5) (qC (.int 0))))) (fB (aR uD (aj (aA aN (ao 4) (qC (.int 1))) (aj (aA aN (ao 5) (qC (.int 1))) (aj (aq 1) au)))))) (bD (aj (aq 4) (aj (aq 5) au))))))
def wC:=mQ 6 Kr
def vW:SF:=
 (aC (aZ (aF 3) (gOf (aA u9 (aV bQ (ao 0) (aj (aq 1) au)) (aV bQ (ao 0) (aj (aq 2) au)))))
 (aP (aR wC (aj (aA dZ (aV bH (ao 0) (aj (aq 1) au)) (aV bH (ao 0) (aj (aq 2) au))) (aj (aq 3) au)))))
def lU:=mQ 4 vW
def uR:SF:=
 (Tz "circles" (ao 0) (aA mH (ao 3) (qC (.int 1))) (aq 2))
def xH:SF:=
 (aC (aZ (aF 2) (gOf (eE mJ (ao 1))))
 (aC (oJ (cR (aq 1)) (aF 3) uR)
 (aP (aq 1))))
def nM:=mG 4 xH
def iG:List (Str×MV):=[("Grounds",.g 2 nM)]
def u5:SF:=
 (aC (aZ (aF 3) (gOf (aV bK (ao 0) (aj (aq 1) au))))
 (aC (aZ (aF 4) (gOf (aV bK (ao 0) (aj (aq 2) au))))
 (aC (bF (aW (aA (inD false) (ao 2) (ao 3))) (fJ "Together") aK)
 (dw (bW iG (ao 0) (aj (eE Bw (aA dZ (ao 3) (ao 4))) au))))))
def jY:=mG 5 u5
def yD:List (Str×MV):=[("Grounds",.g 3 jY)]
def pY:List (Str×MV):=[("Commons",.q 3 lU)]
def jW:SF:=
 (aC (cH (gOf (aV aG (bL "grounds" (ao 0)) (aj (aq 2) au))))
 (aC (bF (aW (aA (inD false) (ao 2) (aV bT (ao 0) (aj (aq 1) au)))) (fJ "Together") aK)
 (aC (aZ (aF 3) (gOf (aV pY (ao 0) (aj (aq 1) (aj (aq 2) au)))))
 (aC (bF (fB (ao 3)) (aC (aZ (bB [4,5]) (gOf (aA aN (ao 3) (qC (.int 0)))))
 (Ek "Clash" ["ones","others","ear"] (aj (aq 4) (aj (aq 5) (aj (aR rW (aj (aA aN (ao 4) (qC (.int 1))) (aj (aA aN (ao 5) (qC (.int 1))) au))) au))))) aK)
 (dw (bW yD (bL "grounds" (ao 0)) (aj (aq 1) (aj (aq 2) au))))))))
def eY:=mG 6 jW
def rM:SF:=
 (aC (aZ (aF 2) (gOf (fu (cR (aV bK (ao 0) (aj (aq 1) au))) (aF 3) [3] (aW (aA vX (ao 3) (ao 1))) (aq 3))))
 (aC (bF (iW (fB (ao 2))) (fJ "Alone") aK)
 (aC (cH (bW iG (ao 0) (aj (xg (aj (aq 1) au)) au)))
 (dw (bW iG (ao 0) (aj (aq 2) au))))))
def iU:=mG 4 rM
def qX:List (Str×MV):=[("Grounds",.g 2 iU)]
def sO:SF:=
 (dw (bW qX (bL "grounds" (ao 0)) (aj (aq 1) au)))
def iV:=mG 2 sO
def vD:SF:=
 (T9 lN (ao 0) "held" (qDc (Ey "held" (ao 0)) (bB [3,4,5]) [3,4,5] (bD (aj (O2 (aW (aA bR (ao 3) (ao 1))) (aq 2) (aq 3)) (aj (aq 4) (aj (aq 5) au))))))
def qL:=mG 6 vD
def Fo:SF:=
 (aP (fu (cR (aV eV (ao 0) au)) (bB [2,3]) [2,3] (aW (aA bR (bL "owner" (ao 3)) (ao 1))) (bD (aj (aq 2) (aj (aq 3) au)))))
def zQ:=mQ 4 Fo
def Dh:List (Str×MV):=[("Herd",.q 2 zQ)]
def uY:List (Str×MV):=[("Rights",.g 3 qL)]
def uX:SF:=
 (cH (bW bV (ao 5) (aj (bD (aj (qC (.str "passed")) (aj (aq 2) au))) au)))
def kE:SF:=
 (aC (cH (gOf (aV aD (ao 0) (aj (aq 1) au))))
 (aC (cH (gOf (aV aD (ao 0) (aj (aq 2) au))))
 (aC (bF (aW (aA bR (ao 1) (ao 2))) (fJ "SameOwner") aK)
 (aC (cH (bW uY (bL "rights" (ao 0)) (aj (aq 1) (aj (aq 2) au))))
 (aC (aZ (aF 3) (gOf (aV Dh (bL "herd" (ao 0)) (aj (aq 1) au))))
 (aC (oJ (cR (aq 3)) (bB [4,5]) uX)
 (aC (Qt "holders" (ao 0) (aq 1))
 (aP (fu (cR (ao 3)) (bB [4,5]) [4,5] iT (aq 4))))))))))
def fH:=mG 6 kE
def xR:SF:=
 (aC (bF (aW (aA bR (ao 0) (qC (.str "ear")))) (aP (xV (yL .tuple (ao 1)) (aR vL (aj (aq 1) au)))) aK)
 (aC (aZ (aF 2) (gOf (O2 (aW (aA bR (ao 0) (qC (.str "place")))) (aA mH (eE ou (qC jB)) (qC (.int 1))) (qC qN))))
 (aP (xV (yL .int (ao 1)) (Ut (nQ qP qP (qC (.int 0)) (ao 1) (ao 2)))))))
def jw:=mQ 3 xR
def aaS:SF:=
 (aC (bF (Ag (aW (aA bR (eE ou (ao 0)) (qC (.int 0)))) (aW (V6 true (Cd Ay) (aA aN (ao 0) (qC (.int 0)))))) (aP (qC (.bool false))) aK)
 (aC (aZ (aF 1) (gOf (adB (Cd Ay) (aA aN (ao 0) (qC (.int 0))))))
 (aC (aZ (aF 2) (gOf (Et (ao 0) (lC (qC (.int 1))) uz)))
 (aP (xV (aA bR (eE ou (ao 2)) (eE ou (ao 1))) (eE KH (fu (Gm (ao 1) (ao 2)) (bB [3,4]) [3,4] iT (aR jw (aj (aq 3) (aj (aq 4) au))))))))))
def JK:=mQ 5 aaS
def jh:List (Str×MV):=[("Commons",.g 4 cV)]
def jO:List (Str×MV):=[("Commons",.g 3 fH)]
def zF:List (Str×MV):=[("Commons",.g 2 iV)]
def yE:List (Str×MV):=[("Commons",.g 3 eY)]
def oW:List (Str×MV):=[("Commons",.g 2 kW)]
def mU:List (Str×MV):=[("Commons",.g 3 dR)]
def mV:List (Str×MV):=[("Commons",.g 3 dO)]
def mO:List (Str×MV):=[("Commons",.g 3 fL)]
def oR:List (Str×MV):=[("Commons",.g 2 jA)]
def mY:List (Str×MV):=[("Commons",.g 2 iY)]
def lF:List (Str×MV):=[("Commons",.g 4 fP)]
def lK:List (Str×MV):=[("Commons",.g 3 fO)]
def lH:List (Str×MV):=[("Commons",.g 4 dU)]
def iz:List (Str×MV):=[("Commons",.g 2 fZ)]
def cY:SF:=
 (aC (bF (iW (fB (aR JK (aj (aq 1) au)))) (fJ "BadDeed") aK)
 (aC (Zm 2 3 (gOf (aq 1)))
 (aC (bF (aW (aA bR (ao 2) (qC (.str "owner")))) (dw (bW dI (ao 0) au)) aK)
 (aC (bF (aW (aA bR (ao 2) (qC (.str "ground")))) (dw (bW iz (ao 0) (aj (aA aN (ao 3) (qC (.int 0))) au))) aK)
 (aC (bF (aW (aA bR (ao 2) (qC (.str "enrol")))) (dw (bW lH (ao 0) (aj (aA aN (ao 3) (qC (.int 0))) (aj (aA aN (ao 3) (qC (.int 1))) (aj (aA aN (ao 3) (qC (.int 2))) au))))) aK)
 (aC (bF (aW (aA bR (ao 2) (qC (.str "leave")))) (dw (bW lK (ao 0) (aj (aA aN (ao 3) (qC (.int 0))) (aj (aA aN (ao 3) (qC (.int 1))) au)))) aK)
 (aC (bF (aW (aA bR (ao 2) (qC (.str "bring")))) (dw (bW lF (ao 0) (aj (aA aN (ao 3) (qC (.int 0))) (aj (aA aN (ao 3) (qC (.int 1))) (aj (aA aN (ao 3) (qC (.int 2))) au))))) aK)
 (aC (bF (aW (aA bR (ao 2) (qC (.str "bear")))) (dw (bW mY (ao 0) (aj (aA aN (ao 3) (qC (.int 0))) au))) aK)
 (aC (bF (aW (aA bR (ao 2) (qC (.str "cut")))) (dw (bW oR (ao 0) (aj (aA aN (ao 3) (qC (.int 0))) au))) aK)
 (aC (bF (aW (aA bR (ao 2) (qC (.str "tear")))) (dw (bW mO (ao 0) (aj (aA aN (ao 3) (qC (.int 0))) (aj (aA aN (ao 3) (qC (.int 1))) au)))) aK)
 (aC (bF (aW (aA bR (ao 2) (qC (.str "sell")))) (dw (bW mV (ao 0) (aj (aA aN (ao 3) (qC (.int 0))) (aj (aA aN (ao 3) (qC (.int 1))) au)))) aK)
 (aC (bF (aW (aA bR (ao 2) (qC (.str "move")))) (dw (bW mU (ao 0) (aj (aA aN (ao 3) (qC (.int 0))) (aj (aA aN (ao 3) (qC (.int 1))) au)))) aK)
 (aC (bF (aW (aA bR (ao 2) (qC (.str "die")))) (dw (bW oW (ao 0) (aj (aA aN (ao 3) (qC (.int 0))) au))) aK)
 (aC (bF (aW (aA bR (ao 2) (qC (.str "unite")))) (dw (bW yE (ao 0) (aj (aA aN (ao 3) (qC (.int 0))) (aj (aA aN (ao 3) (qC (.int 1))) au)))) aK)
 (aC (bF (aW (aA bR (ao 2) (qC (.str "part")))) (dw (bW zF (ao 0) (aj (aA aN (ao 3) (qC (.int 0))) au))) aK)
 (aC (bF (aW (aA bR (ao 2) (qC (.str "pass")))) (dw (bW jO (ao 0) (aj (aA aN (ao 3) (qC (.int 0))) (aj (aA aN (ao 3) (qC (.int 1))) au)))) aK)
 (dw (bW jh (ao 0) (aj (aA aN (ao 3) (qC (.int 0))) (aj (aA aN (ao 3) (qC (.int 1))) (aj (aA aN (ao 3) (qC (.int 2))) au)))))))))))))))))))))
def cJ:=mG 4 cY
def qD:List (Str×MV):=[("Commons",.g 2 cJ)]
def Jr:SF:=
 (aC (aZ (aF 3) (gOf (qC .none)))
 (aC (Oi (aZ (aF 3) (bW qD (ao 0) (aj (aq 1) au))) [⟨"CommonError",λx=>oX.lookup x,none,[(3,(.con .none))]⟩])
 (aC (bF (aW (vP false .none (ao 3))) (aP (aq 2)) aK)
 (aC (aZ (bB [4,5,6]) (gOf (aq 2)))
 (aC (bF (Ag (aW (aA bR (aA aN (ao 1) (qC (.int 0))) (qC (.str "owner")))) (aW (aA bR (aA aN (ao 1) (qC (.int 0))) (qC (.str "heir"))))) (Im 4 (qC (.int 1))) aK)
 (aC (bF (aW (aA bR (aA aN (ao 1) (qC (.int 0))) (qC (.str "ground")))) (Im 5 (qC (.int 1))) aK)
 (aC (bF (Ag (aW (aA bR (aA aN (ao 1) (qC (.int 0))) (qC (.str "bring")))) (aW (aA bR (aA aN (ao 1) (qC (.int 0))) (qC (.str "bear"))))) (Im 6 (qC (.int 1))) aK)
 (aP (bD (aj (aq 4) (aj (aq 5) (aj (aq 6) au))))))))))))
def nO:=mG 7 Jr
def RG:SF:=
 (aC (aZ (aF 5) (gOf (aA aN (bD (aj (qC (.int 0)) (aj (qC (.int 0)) (aj (qC (.int 0)) (aj (qC (.int 0)) (aj (qC (.int 0)) (aj (qC (.int 1)) (aj (qC (.int 1)) (aj (qC (.int 2)) (aj (qC (.int 3)) (aj (eE Rv (qC (.int 1))) au))))))))))) (ao 4))))
 (CZ 2 (aA u9 (qC (.int 0)) (aA KR (qC (.int 9)) (aA dZ (ao 3) (ao 5))))))
def abk:SF:=
 (aC (Ba 2 (LQ au))
 (aC (oJ (Gm (aq 0) (aq 1)) (bB [3,4]) RG)
 (aP (eE mJ (ao 2)))))
def Pk:=mQ 6 abk
def Np:SF:=
 (aC (bF (aW (aA Q7 (ao 1) (qC (.int 4)))) (aP (aR Pk (aj (aq 2) (aj (aq 0) au)))) aK)
 (aP (aR vU (aj (aq 0) (aj (aq 1) au)))))
def yU:=mQ 3 Np
def Zh:SF:=
 (aC (bF (fB (ao 2)) (aP (aA dZ (qC (.int 1)) (aA jy (ao 0) (aA u9 (qC (.int 1)) (ao 1))))) aK)
 (aP (aA jy (ao 0) (aA dZ (ao 1) (qC (.int 2))))))
def kZ:=mQ 3 Zh
def lu:SF:=
 (aC (aZ (aF 6) (gOf (aA vX (aA aN (ao 3) (qC (.int 6))) (qC (.int 9)))))
 (aC (aZ (aF 7) (gOf (aR yU (aj (Et (ao 3) (lC (qC (.int 8))) (lC (qC (.int 14)))) (aj (aA aN (ao 3) (qC (.int 7))) (aj (aq 5) au))))))
 (aC (bF (aW (aA bR (ao 0) (qC (.str "owner")))) (aP (bD (aj (qC (.str "owner")) au))) aK)
 (aC (bF (aW (aA bR (ao 0) (qC (.str "ground")))) (aP (bD (aj (qC (.str "ground")) (aj (aA dZ (aA aN (bD (aj (qC (.int 0)) (aj (qC (.int 1)) (aj (qC (.int 2)) (aj (qC (.int 3)) (aj (qC (.int 0)) (aj (qC (.int 1)) (aj (qC (.int 5)) (aj (qC (.int 6)) (aj (qC (.int 7)) (aj (qC (.int 8)) au))))))))))) (aA aN (ao 3) (qC (.int 7)))) (aA yw (qC (.int 4)) (eE intD (TX (ao 6))))) au)))) aK)
 (aC (bF (gH (aW (aA bR (ao 0) (qC (.str "bring")))) (aW (aA Q7 (aA aN (ao 3) (qC (.int 7))) (qC (.int 6))))) (aZ (aF 7) (gOf (bD (aj (qC (.int 0)) (aj (qC (.int 0)) (aj (qC (.int 0)) (aj (qC (.int 0)) (aj (qC (.int 0)) (aj (qC (.int 0)) au))))))))) aK)
 (aC (bF (Ag (aW (aA bR (ao 0) (qC (.str "enrol")))) (aW (aA bR (ao 0) (qC (.str "bring"))))) (aP (bD (aj (aq 0) (aj (aR kZ (aj (aq 1) (aj (aA aN (ao 4) (qC (.int 0))) (aj (aq 6) au)))) (aj (aR kZ (aj (aq 2) (aj (aA aN (ao 4) (qC (.int 1))) (aj (aq 6) au)))) (aj (aq 7) au)))))) aK)
 (aC (bF (aW (aA bR (ao 0) (qC (.str "leave")))) (aP (bD (aj (aq 0) (aj (aR kZ (aj (aq 1) (aj (aA aN (ao 4) (qC (.int 0))) (aj (aq 6) au)))) (aj (aR kZ (aj (aq 2) (aj (aA aN (ao 4) (qC (.int 1))) (aj (aq 6) au)))) au))))) aK)
 (aC (bF (aW (aA bR (ao 0) (qC (.str "heir")))) (aP (bD (aj (aq 0) (aj (aR kZ (aj (aq 1) (aj (aA aN (ao 4) (qC (.int 0))) (aj (aq 6) au)))) (aj (aR kZ (aj (aq 2) (aj (aA aN (ao 4) (qC (.int 1))) (aj (aq 6) au)))) (aj (aA jy (aA aN (ao 3) (qC (.int 7))) (qC (.int 4))) au)))))) aK)
 (aC (bF (aW (aA bR (ao 0) (qC (.str "pass")))) (aP (bD (aj (aq 0) (aj (aR kZ (aj (aq 1) (aj (aA aN (ao 4) (qC (.int 0))) (aj (aq 6) au)))) (aj (aR kZ (aj (aq 2) (aj (aA aN (ao 4) (qC (.int 0))) (aj (aq 6) au)))) au))))) aK)
 (aC (bF (aW (aA bR (ao 0) (qC (.str "unite")))) (aP (bD (aj (aq 0) (aj (aR kZ (aj (aq 1) (aj (aA aN (ao 4) (qC (.int 1))) (aj (aq 6) au)))) (aj (aR kZ (aj (aq 2) (aj (aA aN (ao 4) (qC (.int 1))) (aj (aq 6) au)))) au))))) aK)
 (aC (bF (aW (aA bR (ao 0) (qC (.str "part")))) (aP (bD (aj (aq 0) (aj (aR kZ (aj (aq 1) (aj (aA aN (ao 4) (qC (.int 1))) (aj (aq 6) au)))) au)))) aK)
 (aC (bF (aW (aA bR (ao 0) (qC (.str "tear")))) (aP (bD (aj (aq 0) (aj (aR kZ (aj (aq 1) (aj (aA aN (ao 4) (qC (.int 2))) (aj (aq 6) au)))) (aj (aA jy (aA aN (ao 3) (qC (.int 7))) (qC (.int 6))) au))))) aK)
 (aC (bF (aW (aA bR (ao 0) (qC (.str "sell")))) (aP (bD (aj (aq 0) (aj (aR kZ (aj (aq 1) (aj (aA aN (ao 4) (qC (.int 2))) (aj (aq 6) au)))) (aj (aR kZ (aj (aq 2) (aj (aA aN (ao 4) (qC (.int 0))) (aj (aq 6) au)))) au))))) aK)
 (aC (bF (aW (aA bR (ao 0) (qC (.str "move")))) (aP (bD (aj (aq 0) (aj (aR kZ (aj (aq 1) (aj (aA aN (ao 4) (qC (.int 2))) (aj (aq 6) au)))) (aj (aR kZ (aj (aq 2) (aj (aA aN (ao 4) (qC (.int 1))) (aj (aq 6) au)))) au))))) aK)
 (aP (bD (aj (aq 0) (aj (aR kZ (aj (aq 1) (aj (aA aN (ao 4) (qC (.int 2))) (aj (aq 6) au)))) au))))))))))))))))))
def gD:=mQ 8 lu
def KC:SF:=
 (aC (aZ (aF 3) (Bx nO (aj (aq 0) (aj (bD (aj (qC (.str "bring")) (aj (qC (.int 1)) (aj (qC (.int 1)) (aj (bD (aj (qC (.int 0)) (aj (qC (.int 0)) (aj (qC (.int 0)) (aj (qC (.int 0)) (aj (qC (.int 0)) (aj (qC (.int 0)) au))))))) au))))) (aj (aq 3) au)))))
 (aZ (aF 3) (Bx nO (aj (aq 0) (aj (bD (aj (qC (.str "cut")) (aj (aA aN (ao 3) (qC (.int 2))) au))) (aj (aq 3) au))))))
def Fx:SF:=
 (aC (aZ (aF 8) (gOf (aR uf (aj (aq 7) (aj (qC (.int 14)) (aj (qC (.int 10)) au))))))
 (aC (aZ (aF 9) (gOf (aR vZ (aj (aA dZ (aA yw (aA aN (ao 8) (qC (.int 0))) (qC (.int 10))) (aA aN (ao 8) (qC (.int 1)))) au))))
 (aC (aZ (aF 10) (gOf (aA dZ (aA yw (aA aN (ao 8) (qC (.int 2))) (qC (.int 10))) (aA aN (ao 8) (qC (.int 3))))))
 (aC (aZ (aF 11) (gOf (aA dZ (aA yw (aA aN (ao 8) (qC (.int 4))) (qC (.int 10))) (aA aN (ao 8) (qC (.int 5))))))
 (aC (bF (aW (aA Q7 (ao 6) (eE ou (ao 5)))) (aZ (bB [9,10,11]) (gOf (aA aN (ao 5) (ao 6)))) aK)
 (aZ (aF 3) (Bx nO (aj (aq 0) (aj (aR gD (aj (aq 9) (aj (aq 10) (aj (aq 11) (aj (aq 8) (aj (aq 3) (aj (aq 4) au))))))) (aj (aq 3) au))))))))))
def Uw:SF:=
 (aC (aZ (aF 3) (gOf (bD (aj (qC (.int 0)) (aj (qC (.int 0)) (aj (qC (.int 0)) au))))))
 (aC (aZ (aF 4) (gOf (aR Ko (aj (aA zW (ao 2) (qC (.int 512))) au))))
 (aC (aZ (aF 5) (gOf (aR xP (aj (aq 2) au))))
 (aC (oJ (yh 0 (aq 1)) (bB [6,7]) Fx)
 (aC (bF (aW (aA bR (aA jy (aA zW (ao 2) (qC (.int 8))) (qC (.int 8))) (qC (.int 1)))) (oJ (Ea (aA yw (aA jy (aA zW (ao 2) (qC (.int 64))) (qC (.int 8))) (qC (.int 4)))) (aF 12) KC) aK)
 (aP (aq 3)))))))
def Jo:=mG 13 Uw
def FJ:SF:=
 (aP (aA dZ (aV oU (ao 0) au) (bD (aj (gq "mother" (ao 0)) (aj (eE mJ (bL "story" (ao 0))) au)))))
def zE:=mQ 1 FJ
def yH:SF:=
 (aP (Fq "holders" (ao 0)))
def ug:=mQ 1 yH
def w6:SF:=
 (aP (Fq "held" (ao 0)))
def rJ:=mQ 1 w6
def v9:List (Str×MV):=[("Rights",.q 1 rJ)]
def wX:List (Str×MV):=[("Commons",.q 1 ug)]
def yq:List (Str×MV):=[("Beast",.q 1 zE)]
def Af:SF:=
 (aC (aZ (aF 1) (gOf (fu (Es (qC (.int 1)) (aA dZ (aV fM (bL "grounds" (ao 0)) au) (qC (.int 1)))) (aF 3) [3] iT (bD (aj (aV eO (bL "grounds" (ao 0)) (aj (aq 3) au)) (aj (eE mJ (aV bT (ao 0) (aj (aq 3) au))) au))))))
 (aC (aZ (aF 2) (gOf (fu (cR (bL "beasts" (bL "herd" (ao 0)))) (aF 4) [4] iT (aV yq (ao 4) au))))
 (aP (bD (aj (aV wX (ao 0) au) (aj (aq 1) (aj (aV v9 (bL "rights" (ao 0)) au) (aj (aq 2) au))))))))
def rQ:=mQ 5 Af
def Wc:SF:=
 (aC (aZ (aF 4) (gOf (aR uf (aj (aq 1) (aj (qC (.int 14)) (aj (qC (.int 10)) au))))))
 (aP (aR gD (aj (aq 0) (aj (aA dZ (aA yw (aA aN (ao 4) (qC (.int 2))) (qC (.int 10))) (aA aN (ao 4) (qC (.int 3)))) (aj (aA dZ (aA yw (aA aN (ao 4) (qC (.int 4))) (qC (.int 10))) (aA aN (ao 4) (qC (.int 5)))) (aj (aq 4) (aj (aq 2) (aj (aR Ko (aj (aA zW (ao 3) (qC (.int 512))) au)) au)))))))))
def wI:=mQ 5 Wc
def Aj:SF:=
 (bF (Ag (aW (aA bR (ao 1) (xg au))) (aW (aA vX (aA aN (ao 1) (eE Rv (qC (.int 1)))) (ao 2)))) (CZ 1 (aq 2)) aK)
def aaz:SF:=
 (aC (Ba 1 (LQ au))
 (aC (oJ (cR (eE Bw (ao 0))) (aF 2) Aj)
 (aP (aq 1))))
def Nq:=mQ 3 aaz
def oK:SF:=
 (bF (gH (fB (aA aN (ao 5) (qC (.int 4)))) (gH (aW (vP true .none (aA aN (ao 5) (qC (.int 2))))) (gH (aW (aA (inD false) (aA aN (ao 5) (qC (.int 1))) (ao 1))) (aW (aA vX (aA dZ (ao 4) (qC (.int 1))) (ao 2)))))) (CZ 3 (bD (aj (aA aN (ao 5) (qC (.int 0))) (aj (aA aN (ao 5) (qC (.int 2))) au)))) aK)
def Ny:SF:=
 (aC (Ba 3 (zj (cR (aA aN (ao 0) (qC (.int 2)))) (bB [6,7,8]) [6,7,8] (aW (aA (inD false) (ao 7) (ao 1))) (bD (aj (aq 6) (aj (aq 8) au)))))
 (aC (oJ (yh 0 (aA aN (ao 0) (qC (.int 3)))) (bB [4,5]) oK)
 (aP (aR Nq (aj (aq 3) au)))))
def Cu:=mQ 9 Ny
def N6:SF:=
 (aP (eE maxD (fu (cR (aA aN (aA aN (aA aN (ao 0) (qC (.int 1))) (aA mH (ao 1) (qC (.int 1)))) (qC (.int 1)))) (aF 2) [2] iT (aA aN (aA aN (aA aN (ao 0) (qC (.int 1))) (aA mH (ao 2) (qC (.int 1)))) (qC (.int 0))))))
def Cz:=mQ 3 N6
def Vu:SF:=
 (aP (xV (yL .int (ao 0)) (TX (yL .bool (ao 0)))))
def Ah:=mQ 1 Vu
def pq:SF:=
 (bF (Ag (iW (fB (aR Ah (aj (aq 1) au)))) (iW (nQ qP qP (qC (.int 0)) (ao 1) (qC (.int 9))))) (aP (qC (.bool false))) aK)
def zP:SF:=
 (aC (bF (Ag (iW (fB (yL .tuple (ao 0)))) (aW (aA vX (eE ou (ao 0)) (qC (.int 6))))) (aP (qC (.bool false))) aK)
 (aC (oJ (cR (aq 0)) (aF 1) pq)
 (aP (qC (.bool true)))))
def tK:=mQ 2 zP
def Zg:SF:=
 (aC (bF (aW (aA Q7 (ao 0) (qC (.int 0)))) (aP (aA mH (qC (.int 0)) (aA jy (aA mH (qC (.int 0)) (ao 0)) (aA Rg (qC (.int 10)) (qC (.int 30)))))) aK)
 (aP (aA jy (ao 0) (aA Rg (qC (.int 10)) (qC (.int 30))))))
def Gx:=mQ 1 Zg
def Zf:SF:=
 (aC (bF (aW (aA bR (aA jy (ao 1) (qC (.int 13))) (ao 2))) (aP (aR Gx (aj (aA zW (ao 1) (qC (.int 13))) au))) aK)
 (aP (aq 0)))
def P0:=mQ 3 Zf
def qZ:SF:=
 (aC (aZ (aF 2) (gOf (aA jy (ao 1) (qC (.int 17)))))
 (aC (bF (aW (aA bR (ao 2) (qC (.int 0)))) (aP (Et (ao 0) uz (lC (qC (.int 5))))) aK)
 (aC (bF (aW (aA bR (ao 2) (qC (.int 1)))) (aP (aA dZ (ao 0) (bD (aj (qC (.int 0)) au)))) aK)
 (aC (bF (aW (aA bR (ao 2) (qC (.int 2)))) (aP (aA dZ (aA dZ (Et (ao 0) uz (lC (qC (.int 3)))) (bD (aj (qC (.int 10)) au))) (Et (ao 0) (lC (qC (.int 4))) uz))) aK)
 (aC (bF (aW (aA bR (ao 2) (qC (.int 3)))) (aP (aA dZ (bD (aj (aA mH (qC (.int 0)) (qC (.int 1))) au)) (Et (ao 0) (lC (qC (.int 1))) uz))) aK)
 (aC (bF (aW (aA bR (ao 2) (qC (.int 4)))) (aP (bD (aj (qC (.int 0)) (aj (qC (.int 0)) (aj (qC (.int 0)) (aj (qC (.int 0)) (aj (qC (.int 0)) (aj (qC (.int 0)) au)))))))) aK)
 (aC (bF (aW (aA bR (ao 2) (qC (.int 5)))) (aP (bD au)) aK)
 (aC (bF (aW (aA bR (ao 2) (qC (.int 6)))) (aP (aA dZ (Et (ao 0) uz (lC (qC (.int 5)))) (bD (aj (aR Gx (aj (aq 1) au)) au)))) aK)
 (aP (aq 0))))))))))
def nH:=mQ 3 qZ
def Bf:SF:=
 (aP (Ut (nQ qP qP (qC (.int 1)) (ao 1) (eE ou (aA aN (ao 0) (qC (.int 1)))))))
def sS:=mQ 2 Bf
def R9(r:Mo->List Dat->Out Dat):SF:=
 (bF (iW (fB (aR r (aj (aq 2) (aj (aq 3) au))))) (aP (qC (.bool false))) aK)
def Iw(r:Mo->List Dat->Out Dat):SF:=
 (aC (bF (aW (vP false .none (ao 1))) (aP (vP false .none (ao 0))) aK)
 (aC (bF (aW (vP false (.bool true) (ao 1))) (aP (vP false (.bool true) (ao 0))) aK)
 (aC (bF (aW (vP false (.bool false) (ao 1))) (aP (vP false (.bool false) (ao 0))) aK)
 (aC (bF (fB (yL .int (ao 1))) (aP (xV (aR Ah (aj (aq 0) au)) (aA bR (ao 0) (ao 1)))) aK)
 (aC (bF (fB (yL .str (ao 1))) (aP (xV (yL .str (ao 0)) (aA bR (ao 0) (ao 1)))) aK)
 (aC (bF (gH (fB (yL .tuple (ao 1))) (iW (fB (yL .tuple (ao 0))))) (aP (qC (.bool false))) aK)
 (aC (bF (gH (fB (yL .list (ao 1))) (iW (fB (yL .list (ao 0))))) (aP (qC (.bool false))) aK)
 (aC (bF (aW (aA vX (eE ou (ao 0)) (eE ou (ao 1)))) (aP (qC (.bool false))) aK)
 (aC (oJ (Gm (aq 0) (aq 1)) (bB [2,3]) (R9 r))
 (aP (qC (.bool true))))))))))))
def jx:Nat->Mo->List Dat->Out Dat
 |0=>λ_ _=>.bad
 |n+1=>mQ 4 (Iw (jx n))
def yN:SF:=
 (bF (aW (aA Xj (ao 2) (ao 3))) (aP (qC (.bool false))) aK)
def Qo:SF:=
 (aC (oJ (Gm (aq 0) (aq 1)) (bB [2,3]) yN)
 (aP (qC (.bool true))))
def El:=mQ 4 Qo
def WK:SF:=
 (aP (eE W4 (fu (Gm (ao 0) (ao 1)) (bB [2,3]) [2,3] iT (aA u9 (qC (.int 0)) (aA mH (ao 3) (ao 2))))))
def Jv:=mQ 4 WK
def uh:SF:=
 (bF (gH (fB (aR El (aj (aq 5) (aj (aq 2) au)))) (gH (aW (aA qP (aR Jv (aj (aq 5) (aj (aq 2) au))) (ao 1))) (aW (aA (inD true) (ao 4) (ao 3))))) (CZ 3 (aq 4)) aK)
def Rz:SF:=
 (aC (Ba 3 (LQ au))
 (aC (oJ (cR (aq 0)) (bB [4,5]) uh)
 (aP (eE mJ (ao 3)))))
def Ai:=mQ 6 Rz
def RK:SF:=
 (aP (eE KH (fu (Gm (ao 0) (ao 1)) (bB [2,3]) [2,3] iT (aA qP (ao 2) (ao 3)))))
def Ax:=mQ 4 RK
def Ig:SF:=
 (aP (eE mJ (Ef (cR (ao 1)) (bB [3,4]) [3,4] (gH (fB (aR Ax (aj (aq 4) (aj (aq 0) au)))) (aW (aA qP (aR qd (aj (aq 4) (aj (aq 0) au))) (ao 2)))) (aq 3))))
def oN:=mQ 5 Ig
def qQ:SF:=
 (aC (cH (gOf (aV aG (bL "grounds" (ao 0)) (aj (aq 1) au))))
 (aC (cH (gOf (aR oF (aj (aq 2) au))))
 (aP (aR oN (aj (aq 2) (aj (aV bH (ao 0) (aj (aq 1) au)) (aj (aV bQ (ao 0) (aj (aq 1) au)) au)))))))
def jg:=mQ 3 qQ
def pC:List (Str×MV):=[("Commons",.q 3 jg)]
def vR:SF:=
 (aC (aZ (aF 3) (gOf (qC (.str ""))))
 (aC (aZ (aF 4) (gOf (qC .none)))
 (aC (Oi (aZ (aF 4) (gOf (aV pC (ao 0) (aj (aq 1) (aj (aq 2) au))))) [⟨"NoGround",λx=>uL.lookup x,none,[(3,(.con (.str "NoGround")))]⟩,⟨"BadEar",λx=>HW.lookup x,none,[(3,(.con (.str "BadEar")))]⟩])
 (aP (bD (aj (aq 3) (aj (aq 4) au)))))))
def mD:=mQ 5 vR
def tH:SF:=
 (aC (aZ (aF 2) (gOf (aV bH (ao 0) (aj (aq 1) au))))
 (aC (aZ (aF 3) (gOf (aV bQ (ao 0) (aj (aq 1) au))))
 (aP (fu (cR (aV fQ (bL "herd" (ao 0)) (aj (aV bT (ao 0) (aj (aq 1) au)) au))) (bB [4,5]) [4,5] iT (bD (aj (aq 4) (aj (gq "ear" (ao 5)) (aj (O2 (aW (vP false .none (bL "due" (ao 5)))) (qC .none) (aR oN (aj (gq "ear" (ao 5)) (aj (aq 2) (aj (aq 3) au))))) au))))))))
def lG:=mQ 6 tH
def rH:List (Str×MV):=[("Commons",.q 2 lG)]
def xZ:SF:=
 (aC (aZ (aF 2) (gOf (qC (.str ""))))
 (aC (aZ (aF 3) (gOf (qC .none)))
 (aC (Oi (aZ (aF 3) (gOf (aV rH (ao 0) (aj (aq 1) au)))) [⟨"NoGround",λx=>uL.lookup x,none,[(2,(.con (.str "NoGround")))]⟩])
 (aP (bD (aj (aq 2) (aj (aq 3) au)))))))
def nu:=mQ 4 xZ
def jf:List (Str×MV):=[("Commons",.q 1 rQ)]
def vC:SF:=
 (aC (bF (gH (fB (aA aN (ao 14) (qC (.int 4)))) (gH (aW (aA (inD false) (aA aN (ao 14) (qC (.int 1))) (ao 9))) (aW (vP false .none (aA aN (ao 14) (qC (.int 2))))))) (CZ 12 (bD (aj (aA dZ (ao 13) (qC (.int 1))) (aj (aA aN (ao 14) (qC (.int 3))) (aj (qC .none) au))))) aK)
 (bF (gH (fB (aA aN (ao 14) (qC (.int 4)))) (gH (aW (aA (inD false) (aA aN (ao 14) (qC (.int 1))) (ao 9))) (aW (vP true .none (aA aN (ao 14) (qC (.int 2))))))) (CZ 12 (bD (aj (aA dZ (ao 13) (qC (.int 1))) (aj (aA aN (ao 14) (qC (.int 3))) (aj (aR Ai (aj (aq 10) (aj (aq 11) (aj (aA aN (ao 14) (qC (.int 3))) au)))) au))))) aK))
def Jh:SF:=
 (aC (aZ (aF 4) (gOf (aR wI (aj (qC (.str "enrol")) (aj (aq 1) (aj (aq 2) (aj (aq 3) au)))))))
 (aC (sPN [5,6] (aj (aR P0 (aj (aA aN (ao 4) (qC (.int 2))) (aj (aq 1) (aj (qC (.int 4)) au)))) (aj (aR nH (aj (aA aN (ao 4) (qC (.int 3))) (aj (aq 1) au))) au)))
 (aC (aZ (aF 7) (gOf (aV jf (ao 0) au)))
 (aC (bF (gH (aW (aA bR (aA jy (ao 1) (qC (.int 5))) (qC (.int 1)))) (aW (aA vX (aA aN (ao 7) (qC (.int 3))) (xg au)))) (aZ (aF 6) (gOf (aA aN (aA aN (aA aN (ao 7) (qC (.int 3))) (aA jy (aA zW (ao 1) (qC (.int 5))) (eE ou (aA aN (ao 7) (qC (.int 3)))))) (qC (.int 3))))) aK)
 (aC (bF (iW (fB (aR sS (aj (aq 7) (aj (aq 5) au))))) (aC (aZ (aF 8) (gOf (bD (aj (qC (.str "NoGround")) (aj (qC .none) au)))))
 (aP (xV (aR (jx 10) (aj (aR mD (aj (aq 0) (aj (aq 5) (aj (aq 6) au)))) (aj (aq 8) au))) (aR (jx 10) (aj (aR nu (aj (aq 0) (aj (aq 5) au))) (aj (aq 8) au)))))) aK)
 (aC (aZ (aF 9) (gOf (aA aN (aA aN (aA aN (ao 7) (qC (.int 1))) (aA mH (ao 5) (qC (.int 1)))) (qC (.int 1)))))
 (aC (aZ (aF 10) (gOf (aR Cu (aj (aq 7) (aj (aq 9) (aj (qC (.int 0)) au))))))
 (aC (aZ (aF 11) (gOf (aR Cz (aj (aq 7) (aj (aq 5) au)))))
 (aC (aZ (aF 8) (gOf (bD (aj (qC (.str "BadEar")) (aj (qC .none) au)))))
 (aC (bF (fB (aR tK (aj (aq 6) au))) (aZ (aF 8) (gOf (bD (aj (qC (.str "")) (aj (aR Ai (aj (aq 10) (aj (aq 11) (aj (aq 6) au)))) au))))) aK)
 (aC (bF (iW (fB (aR (jx 10) (aj (aR mD (aj (aq 0) (aj (aq 5) (aj (aq 6) au)))) (aj (aq 8) au))))) (aP (qC (.bool false))) aK)
 (aC (Ba 12 (LQ au))
 (aC (oJ (yh 0 (aA aN (ao 7) (qC (.int 3)))) (bB [13,14]) vC)
 (aP (xV (aR (jx 10) (aj (aR nu (aj (aq 0) (aj (aq 5) au))) (aj (bD (aj (qC (.str "")) (aj (aq 12) au))) au))) (aR (jx 10) (aj (aV jf (ao 0) au) (aj (aq 7) au))))))))))))))))))
def wH:=mQ 15 Jh
def Ox:SF:=
 (bF (iW (fB (aR wH (aj (aq 0) (aj (aq 4) (aj (aq 2) (aj (aq 3) au))))))) (aP (qC (.bool false))) aK)
def Wq:SF:=
 (aC (oJ (cR (xg (aj (aq 1) (aj (aA dZ (aA zW (ao 1) (qC (.int 7))) (qC (.int 1))) (aj (aq 1) au))))) (aF 4) Ox)
 (aP (qC (.bool true))))
def Eh:=mQ 5 Wq
def qb:List (Str×MV):=[("Grounds",.g 2 iU),("Commons",.g 2 iV)]
def oZ:List (Str×MV):=[("Grounds",.g 3 jY),("Commons",.g 3 eY)]
def jH:SF:=
 (aC (aZ (aF 2) (gOf (aA aN (ao 1) (qC (.int 0)))))
 (aC (bF (aW (aA bR (ao 2) (qC (.str "owner")))) (dw (bW dI (ao 0) au)) aK)
 (aC (bF (aW (aA bR (ao 2) (qC (.str "ground")))) (dw (bW iz (ao 0) (aj (aA aN (ao 1) (qC (.int 1))) au))) aK)
 (aC (bF (aW (aA bR (ao 2) (qC (.str "enrol")))) (dw (bW lH (ao 0) (aj (aA aN (ao 1) (qC (.int 1))) (aj (aA aN (ao 1) (qC (.int 2))) (aj (aA aN (ao 1) (qC (.int 3))) au))))) aK)
 (aC (bF (aW (aA bR (ao 2) (qC (.str "leave")))) (dw (bW lK (ao 0) (aj (aA aN (ao 1) (qC (.int 1))) (aj (aA aN (ao 1) (qC (.int 2))) au)))) aK)
 (aC (bF (aW (aA bR (ao 2) (qC (.str "bring")))) (dw (bW lF (ao 0) (aj (aA aN (ao 1) (qC (.int 1))) (aj (aA aN (ao 1) (qC (.int 2))) (aj (aA aN (ao 1) (qC (.int 3))) au))))) aK)
 (aC (bF (aW (aA bR (ao 2) (qC (.str "bear")))) (dw (bW mY (ao 0) (aj (aA aN (ao 1) (qC (.int 1))) au))) aK)
 (aC (bF (aW (aA bR (ao 2) (qC (.str "cut")))) (dw (bW oR (ao 0) (aj (aA aN (ao 1) (qC (.int 1))) au))) aK)
 (aC (bF (aW (aA bR (ao 2) (qC (.str "tear")))) (dw (bW mO (ao 0) (aj (aA aN (ao 1) (qC (.int 1))) (aj (aA aN (ao 1) (qC (.int 2))) au)))) aK)
 (aC (bF (aW (aA bR (ao 2) (qC (.str "sell")))) (dw (bW mV (ao 0) (aj (aA aN (ao 1) (qC (.int 1))) (aj (aA aN (ao 1) (qC (.int 2))) au)))) aK)
 (aC (bF (aW (aA bR (ao 2) (qC (.str "move")))) (dw (bW mU (ao 0) (aj (aA aN (ao 1) (qC (.int 1))) (aj (aA aN (ao 1) (qC (.int 2))) au)))) aK)
 (aC (bF (aW (aA bR (ao 2) (qC (.str "die")))) (dw (bW oW (ao 0) (aj (aA aN (ao 1) (qC (.int 1))) au))) aK)
 (aC (bF (aW (aA bR (ao 2) (qC (.str "unite")))) (dw (bW oZ (ao 0) (aj (aA aN (ao 1) (qC (.int 1))) (aj (aA aN (ao 1) (qC (.int 2))) au)))) aK)
 (aC (bF (aW (aA bR (ao 2) (qC (.str "part")))) (dw (bW qb (ao 0) (aj (aA aN (ao 1) (qC (.int 1))) au))) aK)
 (aC (bF (aW (aA bR (ao 2) (qC (.str "pass")))) (dw (bW jO (ao 0) (aj (aA aN (ao 1) (qC (.int 1))) (aj (aA aN (ao 1) (qC (.int 2))) au)))) aK)
 (dw (bW jh (ao 0) (aj (aA aN (ao 1) (qC (.int 1))) (aj (aA aN (ao 1) (qC (.int 2))) (aj (aA aN (ao 1) (qC (.int 3))) au))))))))))))))))))))
def iZ:=mG 3 jH
def v8:SF:=
 (aC (bF (aW (aA bR (aA jy (ao 3) (qC (.int 2))) (qC (.int 0)))) (dw (Bx nO (aj (aq 0) (aj (aq 1) (aj (aq 2) au))))) aK)
 (aC (aZ (aF 4) (gOf (qC .none)))
 (aC (Oi (aZ (aF 4) (Bx iZ (aj (aq 0) (aj (aq 1) au)))) [⟨"CommonError",λx=>oX.lookup x,none,[(4,(.con .none))]⟩])
 (aC (bF (aW (vP false .none (ao 4))) (aP (aq 2)) aK)
 (aC (aZ (bB [5,6,7]) (gOf (aq 2)))
 (aC (bF (Ag (aW (aA bR (aA aN (ao 1) (qC (.int 0))) (qC (.str "owner")))) (aW (aA bR (aA aN (ao 1) (qC (.int 0))) (qC (.str "heir"))))) (Im 5 (qC (.int 1))) aK)
 (aC (bF (aW (aA bR (aA aN (ao 1) (qC (.int 0))) (qC (.str "ground")))) (Im 6 (qC (.int 1))) aK)
 (aC (bF (Ag (aW (aA bR (aA aN (ao 1) (qC (.int 0))) (qC (.str "bring")))) (aW (aA bR (aA aN (ao 1) (qC (.int 0))) (qC (.str "bear"))))) (Im 7 (qC (.int 1))) aK)
 (aP (bD (aj (aq 5) (aj (aq 6) (aj (aq 7) au)))))))))))))
def qI:=mG 8 v8
def JB:SF:=
 (aC (aZ (aF 7) (gOf (aR uf (aj (aq 6) (aj (qC (.int 14)) (aj (qC (.int 10)) au))))))
 (aC (aZ (aF 8) (gOf (aR vZ (aj (aA dZ (aA yw (aA aN (ao 7) (qC (.int 0))) (qC (.int 10))) (aA aN (ao 7) (qC (.int 1)))) au))))
 (aC (bF (aW (aA bR (aA jy (aA aN (ao 7) (qC (.int 12))) (qC (.int 3))) (qC (.int 1)))) (aZ (aF 8) (gOf (aA aN (xg (aj (qC (.str "part")) (aj (qC (.str "unite")) (aj (qC (.str "leave")) (aj (qC (.str "pass")) (aj (qC (.str "heir")) au)))))) (aA jy (aA aN (ao 7) (qC (.int 11))) (qC (.int 5)))))) aK)
 (aC (aZ (aF 5) (Bx qI (aj (aq 1) (aj (aR wI (aj (aq 8) (aj (aq 6) (aj (aq 5) (aj (aq 2) au))))) (aj (aq 5) (aj (aA aN (ao 7) (qC (.int 13))) au))))))
 (bF (iW (fB (aR Eh (aj (aq 1) (aj (aq 3) (aj (aq 4) (aj (aq 2) au))))))) (aP (qC (.bool false))) aK)))))
def adV:SF:=
 (aC (aZ (aF 1) (Dj "Commons" rZ au))
 (aC (aZ (aF 2) (gOf (eE WY (aR Cg (aj (aq 0) (aj (qC (.int 0)) au))))))
 (aC (aZ (aF 3) (gOf (aR Cg (aj (aq 0) (aj (qC (.int 1)) au)))))
 (aC (aZ (aF 4) (Bx Jo (aj (aq 1) (aj (Et (ao 0) (lC (qC (.int 6))) (lC (qC (.int 44)))) (aj (aq 2) au)))))
 (aC (bF (iW (fB (aR Eh (aj (aq 1) (aj (aq 3) (aj (aq 4) (aj (aq 2) au))))))) (aP (qC (.bool false))) aK)
 (aC (aZ (aF 5) (gOf (aq 4)))
 (aC (oJ (cR (Et (ao 0) (lC (qC (.int 2))) (lC (qC (.int 6))))) (aF 6) JB)
 (aP (qC (.bool true))))))))))
def TV:=mG 9 adV
theorem YB:FnScope ["self","ones","others","ear"] ["self","ones","others","ear"] (defScope Pb):=⟨rfl,rfl,rfl,by decide +kernel,rfl,by decide +kernel,by decide +kernel⟩
abbrev rX(N:List Str)(s:Stmt)(G:List (Str×GV))(B:List Str)(Ms:List (Str×List (Str×MV)))(ml:List Str):Option SF:=rd ⟨N,defScope s,G,B,⟨Ms,lN,xmH,dfH,X5⟩,ml,true⟩ (defBody s)
abbrev rY(N:List Str)(s:Stmt)(G:List (Str×GV))(B:List Str)(Ms:List (Str×List (Str×MV)))(ml:List Str):Option SF:=rdG ⟨N,defScope s,G,B,⟨Ms,lN,xmH,dfH,X5⟩,ml,true⟩ (defBody s)
theorem ai3:FnScope ["_law_found","_law_due","_law_one","_law_other"] ["_law_found","_law_due"] (defScope Vj):=⟨rfl,rfl,rfl,by decide +kernel,rfl,by decide +kernel,by decide +kernel⟩
theorem alp:FnScope ["_law_script","_law_house","_law_head","_law_cell_here","_law_first","_law_counts","_law_more","_law_parts","_law_word"] ["_law_script"] (defScope Qc):=⟨rfl,rfl,rfl,by decide +kernel,rfl,by decide +kernel,by decide +kernel⟩
theorem Wz:rY ["self"] JF [] [] [] []=some Br:=by kernel_rfl
theorem Y6:rY ["self"] Mq [] [] [] []=some Dg:=by kernel_rfl
theorem abT:rY ["self"] Rb [] [] [] []=some Ip:=by kernel_rfl
theorem Wx:rY ["self"] Je [("Herd",.cls 0 BW),("Rights",.cls 0 yj),("Grounds",.cls 0 wu)] [] [] []=some Am:=by kernel_rfl
theorem alD:rX ["_law_script","_law_k"] agI [] ["len"] [] []=some aaf:=by kernel_rfl
theorem anw:rX ["_law_cell_here","_law_many","_law_base","_law_found","_law_k","_law_turn"] s_row [] ["range","abs"] [] ["_law_found"]=some adE:=by kernel_rfl
theorem ahf:rX ["_law_figures","_law_mode","_law_figure"] aby [] ["tuple","max"] [] []=some Ss:=by kernel_rfl
theorem aoh:rX ["_law_cell_here","_law_figures"] ait [("_law_ear_by",.fq 2 vU),("_law_row",.fq 3 uf)] [] [] []=some adX:=by kernel_rfl
theorem ab7:rX ["_law_head","_law_rows"] QM [] [] [] []=some Iv:=by kernel_rfl
theorem aeY:rX ["_law_figure","_law_some"] XR [] [] [] []=some Oo:=by kernel_rfl
theorem Lj:rX ["self","owner"] zL [("NoOwner",.exc)] [] [] []=some nZ:=by kernel_rfl
theorem V2:rX ["self"] Iz [] ["len"] [] []=some wD:=by kernel_rfl
theorem Yz:rX ["self","ground"] Mx [] [] [("many",fM)] []=some Di:=by kernel_rfl
theorem V8:rX ["self","ground"] JW [("NoGround",.exc)] [] [("has",Bj)] []=some Bl:=by kernel_rfl
theorem Wy:rX ["self","owner","ground","holder","where","mark"] Ji [] [] [] []=some Bq:=by kernel_rfl
theorem O5:rX ["self","owner","ground"] Ck [] ["len"] [("marks",cQ)] []=some vK:=by kernel_rfl
theorem Lk:rX ["self","owner","ground"] zM [("NoRight",.exc)] [] [("has_right",uW)] []=some tX:=by kernel_rfl
theorem M4:rY ["self"] Ad [] [] [] []=some uU:=by kernel_rfl
theorem NZ:rY ["self","owner","ground","mark","row"] Cj [("HasRight",.exc)] [] [] []=some qH:=by kernel_rfl
theorem akZ:rX ["ear","many","heads","depth","head","left","cut"] agC [("GREATEST_DEPTH",.con cZ)] ["range","min"] [] []=some ZF:=by kernel_rfl
theorem akh:rX ["one","other","here","there"] ac9 [] ["sum","zip"] [] []=some Vk:=by kernel_rfl
theorem ab2:rX ["mark","extra","ear"] Q8 [("lacks",.fq 2 qd),("torn",.fq 2 Od)] [] [] []=some Ih:=by kernel_rfl
theorem aiS:rX ["one","other"] acN [("lacks",.fq 2 qd)] ["max"] [] []=some W3:=by kernel_rfl
theorem alN:rX ["one","other","room"] afO [("apart",.fq 2 Jz)] [] [] []=some aaY:=by kernel_rfl
theorem ZK:rX ["mark","extra","rows","room","ear","owner","taken"] N7 [("NoneFree",.exc),("offspring",.fq 2 xK),("meet",.fq 3 uD)] ["any"] [] []=some za:=by kernel_rfl
theorem J9:rX ["self","owner","ground"] zH [] [] [("marks",cQ)] []=some tL:=by kernel_rfl
theorem Pj:rX ["self","ground"] CW [] ["list"] [("need",aG)] []=some qR:=by kernel_rfl
theorem Nz:rX ["self","ground"] CK [] [] [("together",bK)] []=some qU:=by kernel_rfl
theorem ah4:rX ["rows"] aaO [] ["sorted","set"] [] []=some RX:=by kernel_rfl
theorem QD:rX ["self","number","beast"] Dz [] ["enumerate"] [] []=some wW:=by kernel_rfl
theorem WL:rX ["self","grounds","number","beast"] JG [] [] [("all_living",eV)] []=some Az:=by kernel_rfl
theorem MN:rX ["self","grounds","owner","ground","mark"] Ab [] [] [] []=some uP:=by kernel_rfl
theorem Io:rX ["self","left_out","ground","near","due","number","beast"] xO [("tidied",.fq 1 uo)] [] [("in_grounds",sY),("grazing",fQ),("together",bT)] []=some lO:=by kernel_rfl
theorem NQ:rX ["self","ground"] Cm [] [] [("standing_but",dH)] []=some qW:=by kernel_rfl
theorem M6:rX ["self","ground"] Aa [] [] [("need",aG)] []=some pQ:=by kernel_rfl
theorem Wr:rX ["self","ground","near"] JT [] ["max"] [("together",bK),("allowance",eO)] []=some wU:=by kernel_rfl
theorem V3:rX ["self","ground"] JL [] [] [("room",vf)] []=some wA:=by kernel_rfl
theorem Oe:rY ["self","elder","ground","extra","mark","heir"] CP [("first_free",.fq 4 sH),("BadExtra",.exc),("FEWEST_EXTRA",.con jK),("MOST_EXTRA",.con lW)] [] [("add_right",jk),("new_owner",dI),("room",bQ),("standing",bH),("first_mark",cD),("need_right",aU),("need",aG),("need_owner",aD)] []=some eG:=by kernel_rfl
theorem K6:rY ["self","allowance"] zG [("BadAllowance",.exc),("GREATEST_ALLOWANCE",.con iK)] [] [("many",fM)] []=some j6:=by kernel_rfl
theorem Ke:rY ["self","allowance"] zq [] [] [("add_ground",mW)] []=some nY:=by kernel_rfl
theorem aeL:rX ["owner","ear","rows","room","holder","mark"] Xv [("meet",.fq 3 uD),("tidied",.fq 1 uo)] [] [] []=some Oh:=by kernel_rfl
theorem ajt:rX ["one","other","here","there"] acR [] ["tuple","zip","max"] [] []=some Wv:=by kernel_rfl
theorem adP:rX ["owner","ear","rows","room","bars","holder","mark"] T5 [("Clash",.exi ["ones","others","ear"]),("joint",.fq 2 rW),("barring",.fq 4 Cy)] [] [] []=some DK:=by kernel_rfl
theorem KY:rX ["self","owner","ear","ground"] zN [("ask_room",.fq 4 qJ)] [] [("room",bQ),("standing",bH)] []=some oG:=by kernel_rfl
theorem ahF:rX ["parts","depth"] ZS [("GREATEST_DEPTH",.con cZ),("PLACES",.con jB)] ["all","len"] [] []=some Le:=by kernel_rfl
theorem aem:rX ["parts"] S9 [("BadEar",.exc),("is_ear",.fq 1 vL)] [] [] []=some Kg:=by kernel_rfl
theorem Ul:rY ["self","owner","ground","mark"] HX [("HasRight",.exc),("Bare",.exc),("BARE_EAR",.con jQ),("need_ear",.fq 1 oF)] [] [("add_right",jk),("ask_ground",cG),("marks",cQ),("need",aG),("need_owner",aD)] []=some iy:=by kernel_rfl
theorem Yy:rY ["self","owner","ground","gone","mark"] Mz [("NoRight",.exc)] [] [("marks",cQ)] []=some xY:=by kernel_rfl
theorem U9:rY ["self","owner","ground","number","beast"] GX [("StillThere",.exc)] ["any"] [("drop",Ak),("grazing",fQ),("need_right",aU),("need",aG),("need_owner",aD)] []=some j8:=by kernel_rfl
theorem R8:rY ["self","stand","owner","ground","due","ear","alive"] Fg [] [] [] []=some tM:=by kernel_rfl
theorem aju:rX ["first","word","mother","owner","ground","ear"] ade [("BARE_EAR",.con jQ)] [] [] []=some Qs:=by kernel_rfl
theorem Z8:rY ["self","first"] Om [("begun",.fq 1 Ei)] [] [("stand_so",j9)] []=some Fp:=by kernel_rfl
theorem Ri:rY ["self","first"] Fb [("Beast",.cls 1 vA)] ["len"] [] []=some yJ:=by kernel_rfl
theorem Uo:rY ["self","owner","ground","ear"] Hz [("need_ear",.fq 1 oF)] [] [("add_beast",kJ),("need_right",aU),("need",aG),("need_owner",aD)] []=some jX:=by kernel_rfl
theorem ZX:rX ["self","number"] O8 [("NoBeast",.exc)] ["len"] [] []=some v7:=by kernel_rfl
theorem Y9:rX ["self","number","beast"] Mh [("Dead",.exc)] [] [("known",gA)] []=some yg:=by kernel_rfl
theorem YZ:rX ["self","number","beast"] LR [("Unmarked",.exc)] [] [("living",bO)] []=some uF:=by kernel_rfl
theorem Vr:rY ["self","mother","cow"] Jl [] [] [("add_beast",kJ),("marked",bJ)] []=some oO:=by kernel_rfl
theorem aef:rX ["ear","place","at","depth"] Uq [] ["tuple","enumerate"] [] []=some Kz:=by kernel_rfl
theorem agu:rX ["stand","event","owner","ground","due","ear","alive","word"] Xp [("deepened",.fq 2 zV)] [] [] []=some Nr:=by kernel_rfl
theorem YF:rX ["self"] MF [] [] [] []=some Dd:=by kernel_rfl
theorem VN:rY ["self","event"] IV [("gone_on",.fq 2 CJ)] [] [("stand_so",j9),("stand",oU)] []=some Ao:=by kernel_rfl
theorem YX:rY ["self","beast","found","due"] LK [("joint",.fq 2 rW)] [] [("befall",bV),("ask_ground",cG),("first_mark",cD),("living",bO)] []=some ql:=by kernel_rfl
theorem WD:rY ["self","beast","place","found"] JH [("Deepest",.exc),("GREATEST_DEPTH",.con cZ),("NoPlace",.exc),("PLACES",.con jB)] ["len"] [("befall",bV),("living",bO)] []=some jM:=by kernel_rfl
theorem Y5:rX ["self","mother","number","beast"] Mf [] [] [("all_living",eV),("known",gA)] []=some yt:=by kernel_rfl
theorem OD:rY ["self","mother","beast","number","calf"] Cr [] [] [("calves",Bg),("befall",bV),("known",gA)] []=some vO:=by kernel_rfl
theorem Vy:rY ["self","beast","buyer","found","due"] Jd [("ask_room",.fq 4 qJ),("joint",.fq 2 rW),("SameOwner",.exc)] [] [("lead_calves",ji),("befall",bV),("room",bQ),("standing_but",dH),("first_mark",cD),("need_right",aU),("need_owner",aD),("marked",bJ)] []=some gK:=by kernel_rfl
theorem VP:rY ["self","beast","ground","found","left"] JQ [("SameGround",.exc)] [] [("lead_calves",ji),("befall",bV),("ask_ground",cG),("need_right",aU),("need",aG),("marked",bJ)] []=some gJ:=by kernel_rfl
theorem YH:rY ["self","beast"] Mw [] [] [("befall",bV),("living",bO)] []=some uJ:=by kernel_rfl
theorem aep:rX ["rows","room","tidy","at","row","greater"] Uz [("meet",.fq 3 uD),("tidied",.fq 1 uo)] ["enumerate"] [] []=some Kr:=by kernel_rfl
theorem NP:rX ["self","ground","other","room"] CV [("clashing",.fq 2 wC)] ["max"] [("standing",bH),("room",bQ)] []=some vW:=by kernel_rfl
theorem Qz:rY ["self","grounds","circle","ground"] Ds [] ["tuple"] [] []=some xH:=by kernel_rfl
theorem U4:rY ["self","ground","other","ones","others"] Gy [("Together",.exc)] ["sorted"] [("enclose",iG),("together",bK)] []=some u5:=by kernel_rfl
theorem Uy:rY ["self","ground","other","pairs","row","greater"] GZ [("Clash",.exi ["ones","others","ear"]),("joint",.fq 2 rW),("Together",.exc)] [] [("unite",yD),("quarrels",pY),("together",bT),("need",aG)] []=some jW:=by kernel_rfl
theorem Vt:rY ["self","ground","left","near"] IW [("Alone",.exc)] [] [("enclose",iG),("together",bK)] []=some rM:=by kernel_rfl
theorem Wd:rY ["self","ground"] Jp [] [] [("part",qX)] []=some sO:=by kernel_rfl
theorem Pu:rY ["self","elder","heir","owner","ground","mark"] Cp [] [] [] []=some vD:=by kernel_rfl
theorem Zw:rX ["self","owner","number","beast"] Nk [] [] [("all_living",eV)] []=some Fo:=by kernel_rfl
theorem QC:rY ["self","elder","heir","passed","number","beast"] Dt [("SameOwner",.exc)] [] [("befall",bV),("owned",Dh),("hand_over",uY),("need_owner",aD)] []=some kE:=by kernel_rfl
theorem abG:rX ["kind","part","greatest"] Ra [("PLACES",.con jB),("GREATEST_PART",.con qN),("is_ear",.fq 1 vL)] ["isinstance","int","len","tuple"] [] []=some xR:=by kernel_rfl
theorem alO:rX ["deed","shape","parts","kind","part"] aeU [("part_fits",.fq 2 jw),("SHAPES",.dic (Cd Ay))] ["all","zip","len"] [] []=some aaS:=by kernel_rfl
theorem aae:rY ["self","deed","word","parts"] M8 [("BadDeed",.exc),("fits",.fq 1 JK)] [] [("new_heir",jh),("pass_on",jO),("part",zF),("unite",yE),("die",oW),("move",mU),("sell",mV),("tear",mO),("cut",oR),("bear",mY),("bring",lF),("leave",lK),("enrol",lH),("new_ground",iz),("new_owner",dI)] []=some cY:=by kernel_rfl
theorem akF:rY ["_law_house","_law_deed_here","_law_counts","_law_told","_law_owners","_law_grounds","_law_beasts"] aeB [("CommonError",.exc)] [] [("do",qD)] []=some Jr:=by kernel_rfl
theorem ang:rX ["_law_ear_here","_law_figures","_law_found","_law_depth","_law_figure","_law_more"] aeS [] ["tuple","zip","max","min"] [] ["_law_found"]=some abk:=by kernel_rfl
theorem afd:rX ["_law_figures","_law_mode","_law_base"] Yv [("_law_ear_by",.fq 2 vU),("_law_near",.fq 2 Pk)] [] [] []=some Np:=by kernel_rfl
theorem anE:rX ["_law_figure","_law_many","_law_sure"] aiF [] ["max"] [] []=some Zh:=by kernel_rfl
theorem alf:rX ["_law_word","_law_one","_law_two","_law_parts","_law_counts","_law_base","_law_sure","_law_mark"] afX [("_law_ref",.fq 3 kZ),("_law_mark_by",.fq 3 yU)] ["int"] [] []=some lu:=by kernel_rfl
theorem akY:rY ["_law_house","_law_cells","_law_head","_law_counts","_law_base","_law_begun_here","_law_at","_law_cell_here","_law_parts","_law_word","_law_one","_law_two","_law_k"] af2 [("_law_done",.fg 3 nO),("_law_deed",.fq 6 gD),("_law_word_by",.fq 1 vZ),("_law_row",.fq 3 uf),("_law_begun",.fq 1 xP),("_law_ear",.fq 1 Ko)] ["range","enumerate","len"] [] []=some Uw:=by kernel_rfl
theorem aah:rX ["self"] Pn [] ["tuple"] [("stand",oU)] []=some FJ:=by kernel_rfl
theorem RB:rX ["self"] FP [] ["list"] [] []=some yH:=by kernel_rfl
theorem Qx:rX ["self"] Du [] ["list"] [] []=some w6:=by kernel_rfl
theorem Wm:rX ["self","grounds","beasts","ground","beast"] JD [] ["range","tuple"] [("all_rows",v9),("owners",wX),("told",yq),("many",fM),("together",bT),("allowance",eO)] []=some Af:=by kernel_rfl
theorem ai5:rX ["_law_word","_law_cell_here","_law_counts","_law_head","_law_parts"] acU [("_law_deed",.fq 6 gD),("_law_ear",.fq 1 Ko),("_law_row",.fq 3 uf)] [] [] []=some Wc:=by kernel_rfl
theorem aky:rX ["_law_rows","_law_found","_law_row_here"] agc [] ["sorted"] [] ["_law_found"]=some aaz:=by kernel_rfl
theorem afD:rX ["_law_stand","_law_grounds","_law_but","_law_rows","_law_at","_law_beast","_law_owner","_law_ground","_law_mark"] Yo [("_law_once",.fq 1 Nq)] ["enumerate"] [] ["_law_rows"]=some Ny:=by kernel_rfl
theorem agd:rX ["_law_stand","_law_ground","_law_one"] Yw [] ["max"] [] []=some N6:=by kernel_rfl
theorem akc:rX ["_law_found"] acw [] ["isinstance","bool","int"] [] []=some Vu:=by kernel_rfl
theorem adC:rX ["_law_found","_law_depth"] Um [("_law_whole",.fq 1 Ah)] ["len","isinstance","tuple"] [] []=some zP:=by kernel_rfl
theorem ani:rX ["_law_cell_here"] aix [] [] [] []=some Zg:=by kernel_rfl
theorem aob:rX ["_law_value","_law_cell_here","_law_turn"] aio [("_law_cut",.fq 1 Gx)] [] [] []=some Zf:=by kernel_rfl
theorem ahm:rX ["_law_mark","_law_cell_here","_law_way"] Z5 [("_law_cut",.fq 1 Gx)] [] [] []=some qZ:=by kernel_rfl
theorem Vs:rX ["_law_stand","_law_ground"] JM [] ["len"] [] []=some Bf:=by kernel_rfl
theorem amd(r:Mo->List Dat->Out Dat):rd ⟨["_law_found","_law_due","_law_one","_law_other"],defScope Vj,[("_law_like",.fq 2 r),("_law_whole",.fq 1 Ah)],["zip","len","isinstance","list","tuple","str","int"],⟨[],lN,xmH,dfH,X5⟩,[],true⟩ (defBody Vj)=some (Iw r):=by kernel_rfl
theorem ajf:rX ["_law_one","_law_other","_law_a","_law_b"] acq [] ["zip"] [] []=some Qo:=by kernel_rfl
theorem ajI:rX ["_law_one","_law_other","_law_a","_law_b"] acd [] ["sum","zip","max"] [] []=some WK:=by kernel_rfl
theorem agS:rX ["_law_rows","_law_space","_law_ear_here","_law_found","_law_owner","_law_mark"] ZJ [("_law_tears",.fq 2 Jv),("_law_below",.fq 2 El)] ["tuple"] [] ["_law_found"]=some Rz:=by kernel_rfl
theorem ahn:rX ["shallow","deep","low","high"] abo [] ["all","zip"] [] []=some RK:=by kernel_rfl
theorem abL:rX ["ear","rows","room","holder","mark"] QS [("lacks",.fq 2 qd),("deeper",.fq 2 Ax)] ["tuple","sorted"] [] []=some Ig:=by kernel_rfl
theorem S8:rX ["self","ground","ear"] Ht [("owners_of",.fq 3 oN),("need_ear",.fq 1 oF)] [] [("room",bQ),("standing",bH),("need",aG)] []=some qQ:=by kernel_rfl
theorem Z6:rX ["_law_house","_law_ground","_law_ear_here","_law_word","_law_told"] Nf [("NoGround",.exc),("BadEar",.exc)] [] [("whose",pC)] []=some vR:=by kernel_rfl
theorem Sh:rX ["self","ground","rows","room","number","beast"] Gg [("owners_of",.fq 3 oN)] [] [("grazing",fQ),("together",bT),("room",bQ),("standing",bH)] []=some tH:=by kernel_rfl
theorem Zb:rX ["_law_house","_law_ground","_law_word","_law_told"] Mp [("NoGround",.exc)] [] [("gather",rH)] []=some xZ:=by kernel_rfl
theorem ajY:rX ["_law_house","_law_cell_here","_law_counts","_law_head","_law_deed_here","_law_ground","_law_ear_here","_law_stand","_law_due","_law_together","_law_rows","_law_space","_law_told","_law_at","_law_row_here"] acp [("_law_like",.fq 2 (jx 10)),("_law_gather_told",.fq 2 nu),("_law_may_be",.fq 3 Ai),("_law_whose_told",.fq 3 mD),("_law_ear_kind",.fq 1 tK),("_law_room_of",.fq 2 Cz),("_law_rows_of",.fq 3 Cu),("_law_ground_there",.fq 2 sS),("_law_spoilt",.fq 2 nH),("_law_raw",.fq 3 P0),("_law_asked",.fq 4 wI)] ["enumerate","len"] [("look",jf)] ["_law_told"]=some Jh:=by kernel_rfl
theorem aiI:rX ["_law_house","_law_cell_here","_law_first","_law_head","_law_asked_here"] acy [("_law_right",.fq 4 wH)] [] [] []=some Wq:=by kernel_rfl
theorem akp:rY ["_law_house","_law_deed_here","_law_word"] ac8 [] [] [("new_heir",jh),("pass_on",jO),("part",qb),("unite",oZ),("die",oW),("move",mU),("sell",mV),("tear",mO),("cut",oR),("bear",mY),("bring",lF),("leave",lK),("enrol",lH),("new_ground",iz),("new_owner",dI)] []=some jH:=by kernel_rfl
theorem aft:rY ["_law_house","_law_deed_here","_law_counts","_law_way","_law_told","_law_owners","_law_grounds","_law_beasts"] Yt [("_law_named",.fg 2 iZ),("CommonError",.exc),("_law_done",.fg 3 nO)] [] [] []=some v8:=by kernel_rfl
theorem aoe:rY ["_law_script","_law_house","_law_head","_law_cell_here","_law_first","_law_counts","_law_more","_law_parts","_law_word"] Qc [("_law_turns",.fq 4 Eh),("_law_done_so",.fg 4 qI),("_law_asked",.fq 4 wI),("_law_word_by",.fq 1 vZ),("_law_row",.fq 3 uf),("_law_play",.fg 3 Jo),("_law_cell",.fq 2 Cg),("Commons",.cls 0 rZ)] ["abs"] [] []=some adV:=by kernel_rfl
structure Top(w:World)(K:atw)(mg:Str->Option Value):Prop where
 ex:∃h:Heap,K.In h/\h.Ns mainGlobals mg
 c:Ql fa fn tbs exB w K
abbrev ak(w:World)(K:atw):aX:=qM w K xsH lN
section
variable{P:Program}{w:World}{K:atw}{mg:Str->Option Value}{base:Heap}{k:Nat}(T:Top w K mg)
include T
theorem Top.glo(i:Nat){x:Str}(h:fa[i]?=some (.glo x):=by rfl):mg x=some (.ref (He.ga K x)):=by obtain⟨_,X,G⟩:=T.ex;exact He.glo_ok X G (T.c.rB i h)
theorem Top.free(i:Nat){x:Str}(h:fa[i]?=some (.free x):=by rfl):mg x=none:=by obtain⟨_,X,G⟩:=T.ex;exact He.free_ok X G (T.c.rB i h)
theorem Top.int(i:Nat){x:Str}{j:Int}(h:fa[i]?=some (.int x j):=by rfl):∃t,mg x=some (.int j t):=by obtain⟨_,X,G⟩:=T.ex;exact He.int_ok X G (T.c.rB i h)
theorem Top.str(i:Nat){x j:Str}(h:fa[i]?=some (.str x j):=by rfl):∃t,mg x=some (.str j t):=by obtain⟨_,X,G⟩:=T.ex;exact He.str_ok X G (T.c.rB i h)
theorem yM:bh P w K mg base (ak w K) k "GREATEST_DEPTH" (.con cZ):=by obtain⟨t,h⟩:=T.int 166;exact Ot h
theorem W6:bh P w K mg base (ak w K) k "FEWEST_EXTRA" (.con jK):=by obtain⟨t,h⟩:=T.int 167;exact Ot h
theorem Z4:bh P w K mg base (ak w K) k "MOST_EXTRA" (.con lW):=by obtain⟨t,h⟩:=T.int 168;exact Ot h
theorem K8:bh P w K mg base (ak w K) k "GREATEST_ALLOWANCE" (.con iK):=by obtain⟨t,h⟩:=T.int 169;exact Ot h
theorem Rx:bh P w K mg base (ak w K) k "PLACES" (.con jB):=aga (T.glo 170) (λH=>He.tupB_ok (He.ba (He.ba T.c.more).1).2 H) rfl rfl
theorem UJ:bh P w K mg base (ak w K) k "BARE_EAR" (.con jQ):=aga (T.glo 171) (λH=>He.tupB_ok (He.ba T.c.more).2 H) rfl rfl
theorem Tj:bh P w K mg base (ak w K) k "GREATEST_PART" (.con qN):=by obtain⟨t,h⟩:=T.int 172;exact Ot h
theorem ahw:bh P w K mg base (ak w K) k "SHAPES" (.dic (Cd Ay)):=akQ (T.glo 165) (He.ba (He.ba (He.ba T.c.more).1).1).2 (T.c.t.tab 0)
theorem agB:bh P w K mg base (ak w K) k "NoOwner" .exc:=ju (by rfl) (T.glo 121) (T.c.rB 122)
theorem Lw:bh P w K mg base (ak w K) k "NoGround" .exc:=ju (by rfl) (T.glo 123) (T.c.rB 124)
theorem XS:bh P w K mg base (ak w K) k "NoRight" .exc:=ju (by rfl) (T.glo 125) (T.c.rB 126)
theorem U6:bh P w K mg base (ak w K) k "HasRight" .exc:=ju (by rfl) (T.glo 127) (T.c.rB 128)
theorem aec:bh P w K mg base (ak w K) k "NoneFree" .exc:=ju (by rfl) (T.glo 129) (T.c.rB 130)
theorem ael:bh P w K mg base (ak w K) k "BadExtra" .exc:=ju (by rfl) (T.glo 131) (T.c.rB 132)
theorem VD:bh P w K mg base (ak w K) k "BadAllowance" .exc:=ju (by rfl) (T.glo 133) (T.c.rB 134)
theorem ZG:bh P w K mg base (ak w K) k "BadEar" .exc:=ju (by rfl) (T.glo 136) (T.c.rB 137)
theorem amI:bh P w K mg base (ak w K) k "Bare" .exc:=ju (by rfl) (T.glo 138) (T.c.rB 139)
theorem abj:bh P w K mg base (ak w K) k "StillThere" .exc:=ju (by rfl) (T.glo 140) (T.c.rB 141)
theorem afi:bh P w K mg base (ak w K) k "NoBeast" .exc:=ju (by rfl) (T.glo 143) (T.c.rB 144)
theorem amW:bh P w K mg base (ak w K) k "Dead" .exc:=ju (by rfl) (T.glo 145) (T.c.rB 146)
theorem adG:bh P w K mg base (ak w K) k "Unmarked" .exc:=ju (by rfl) (T.glo 147) (T.c.rB 148)
theorem aeW:bh P w K mg base (ak w K) k "Deepest" .exc:=ju (by rfl) (T.glo 149) (T.c.rB 150)
theorem agn:bh P w K mg base (ak w K) k "NoPlace" .exc:=ju (by rfl) (T.glo 151) (T.c.rB 152)
theorem Q5:bh P w K mg base (ak w K) k "SameOwner" .exc:=ju (by rfl) (T.glo 153) (T.c.rB 154)
theorem ZQ:bh P w K mg base (ak w K) k "SameGround" .exc:=ju (by rfl) (T.glo 155) (T.c.rB 156)
theorem Tt:bh P w K mg base (ak w K) k "Together" .exc:=ju (by rfl) (T.glo 157) (T.c.rB 158)
theorem aj4:bh P w K mg base (ak w K) k "Alone" .exc:=ju (by rfl) (T.glo 159) (T.c.rB 160)
theorem agj:bh P w K mg base (ak w K) k "BadDeed" .exc:=ju (by rfl) (T.glo 161) (T.c.rB 162)
theorem Ma:bh P w K mg base (ak w K) k "CommonError" .exc:=ju (by rfl) (T.glo 163) (T.c.rB 164)
theorem Top.aif:Oz K lN=true:=(He.ba (He.ba (He.ba (He.ba (He.ba (He.ba T.c.more).1).1).1).1).1).2
theorem Top.xf:(X5.all λp=>xsH.contains p.1&&Vn K p.1 p.2)=true:=(He.ba (He.ba (He.ba (He.ba T.c.more).1).1).1).2
theorem Top.hs{Ms:List (Str×List (Str×MV))}(h:Iu P w K mg base (ak w K) k Ms):Vz P w K mg base (ak w K) k ⟨Ms,lN,xmH,dfH,X5⟩:=an3 h T.aif (He.ba (He.ba (He.ba (He.ba (He.ba T.c.more).1).1).1).1).2 (by rfl) T.xf
theorem Top.cls{c:Str}{fs:List Str}(h:lN.lookup c=some fs:=by rfl):Cls K (He.ga K c):=(abm T.aif h).1
local macro_rules | `(tactic| nofun)=>`(tactic| first | (exact λ_ _ _ _ _ _ us hl=>match us,hl with | [_],_=>rfl) | (exact λ_ _ _ _ _ _ us hl=>match us,hl with | [_,_],_=>rfl) | (exact λ_ _ _ _ _ _ us hl=>match us,hl with | [_,_,_],_=>rfl) | (exact λ_ _ _ _ _ _ us hl=>match us,hl with | [_,_,_,_],_=>rfl) | (exact λ_ _ _ _ _ _ us hl=>match us,hl with | [_,_,_,_,_],_=>rfl) | (exact λ_ _ _ _ _ _ us hl=>match us,hl with | [_,_,_,_,_,_],_=>rfl) | (exact λ_ _ _ _ _ _ us hl=>match us,hl with | [_,_,_,_,_,_,_],_=>rfl) | (exact λ_ _ _ _ _ _ us hl=>match us,hl with | [_,_,_,_,_,_,_,_],_=>rfl))
theorem vQ(i j:Nat){x:Str}{k0:Nat}(hk:k0+1<=k){st:Stmt}{N ps ml B:List Str}{G:List (Str×GV)}{Ms:List (Str×List (Str×MV))}{body:SF}(h:rX N st G B Ms ml=some body)(g:Ez P w K mg base (ak w K) k0 G)(b:Gi mg B)(ms:Iu P w K mg base (ak w K) k0 Ms)(hi:fn[i]?=some (dF x st):=by rfl)(hj:fa[j]?=some (.glo x):=by rfl)(S:FnScope N ps (defScope st):=by exact⟨rfl,rfl,rfl,by decide +kernel,rfl,by decide +kernel,by decide +kernel⟩)(hb:∀(kV doc pm:Value) (an:Option Addr) (cdv ct:Value) (us:List Value),us.length=ps.length->bindArgs (PySem.W.fnOf x x (defArgs st) (defBody st) (defScope st) .none kV doc pm an cdv ct) ⟨us,[]⟩=pure (ps.zip us):=by nofun):bh P w K mg base (ak w K) k x (.fq ps.length (mQ N.length body)):=by obtain⟨fd,F⟩:=T.c.Xw i hi;exact ahu hk (T.glo j hj) F.kp (FunD.bindsN (ps:=ps) F hb) (aaU (Gq F) S g b (T.hs ms) h)
theorem wQ(i j:Nat){c m q:Str}{k0:Nat}(hk:k0+1<=k){st:Stmt}{N ps ml B:List Str}{G:List (Str×GV)}{Ms:List (Str×List (Str×MV))}{body:SF}(h:rX N st G B Ms ml=some body)(g:Ez P w K mg base (ak w K) k0 G)(b:Gi mg B)(ms:Iu P w K mg base (ak w K) k0 Ms)(hi:fn[i]?=some (dM c m q st):=by rfl)(hj:fa[j]?=some (.meth c m):=by rfl)(hx:xsH.contains c=true:=by rfl){fs:List Str}(hc:lN.lookup c=some fs:=by rfl)(hf:((lN.lookup c).getD []).contains m=false:=by rfl)(S:FnScope N ps (defScope st):=by exact⟨rfl,rfl,rfl,by decide +kernel,rfl,by decide +kernel,by decide +kernel⟩)(hb:∀(kV doc pm:Value) (an:Option Addr) (cdv ct:Value) (us:List Value),us.length=ps.length->bindArgs (PySem.W.fnOf m q (defArgs st) (defBody st) (defScope st) .none kV doc pm an cdv ct) ⟨us,[]⟩=pure (ps.zip us):=by nofun):cC P w K mg base (ak w K) k c m (.q ps.length (mQ N.length body)):=by obtain⟨fd,F⟩:=T.c.Xw i hi;exact ao9 hk hx (T.cls hc) (T.c.rB j hj) hf (FunD.bindsN (ps:=ps) F hb) (aaU (Gq F) S g b (T.hs ms) h)
theorem vG(i j:Nat){x:Str}{k0:Nat}(hk:k0+1<=k){st:Stmt}{N ps ml B:List Str}{G:List (Str×GV)}{Ms:List (Str×List (Str×MV))}{body:SF}(h:rY N st G B Ms ml=some body)(g:Ez P w K mg base (ak w K) k0 G)(b:Gi mg B)(ms:Iu P w K mg base (ak w K) k0 Ms)(hi:fn[i]?=some (dF x st):=by rfl)(hj:fa[j]?=some (.glo x):=by rfl)(S:FnScope N ps (defScope st):=by exact⟨rfl,rfl,rfl,by decide +kernel,rfl,by decide +kernel,by decide +kernel⟩)(hb:∀(kV doc pm:Value) (an:Option Addr) (cdv ct:Value) (us:List Value),us.length=ps.length->bindArgs (PySem.W.fnOf x x (defArgs st) (defBody st) (defScope st) .none kV doc pm an cdv ct) ⟨us,[]⟩=pure (ps.zip us):=by nofun):bh P w K mg base (ak w K) k x (.fg ps.length (mG N.length body)):=by obtain⟨fd,F⟩:=T.c.Xw i hi;exact apb hk (T.glo j hj) F.kp (FunD.bindsN (ps:=ps) F hb) (Vf (Gq F) S g b (T.hs ms) h)
theorem wG(i j:Nat){c m q:Str}{k0:Nat}(hk:k0+1<=k){st:Stmt}{N ps ml B:List Str}{G:List (Str×GV)}{Ms:List (Str×List (Str×MV))}{body:SF}(h:rY N st G B Ms ml=some body)(g:Ez P w K mg base (ak w K) k0 G)(b:Gi mg B)(ms:Iu P w K mg base (ak w K) k0 Ms)(hi:fn[i]?=some (dM c m q st):=by rfl)(hj:fa[j]?=some (.meth c m):=by rfl)(hx:xsH.contains c=true:=by rfl){fs:List Str}(hc:lN.lookup c=some fs:=by rfl)(hf:((lN.lookup c).getD []).contains m=false:=by rfl)(S:FnScope N ps (defScope st):=by exact⟨rfl,rfl,rfl,by decide +kernel,rfl,by decide +kernel,by decide +kernel⟩)(hb:∀(kV doc pm:Value) (an:Option Addr) (cdv ct:Value) (us:List Value),us.length=ps.length->bindArgs (PySem.W.fnOf m q (defArgs st) (defBody st) (defScope st) .none kV doc pm an cdv ct) ⟨us,[]⟩=pure (ps.zip us):=by nofun):cC P w K mg base (ak w K) k c m (.g ps.length (mG N.length body)):=by obtain⟨fd,F⟩:=T.c.Xw i hi;exact apo hk hx (T.cls hc) (T.c.rB j hj) hf (FunD.bindsN (ps:=ps) F hb) (Vf (Gq F) S g b (T.hs ms) h)
theorem vI(i j l:Nat){c q:Str}{n:Nat}{k0:Nat}{st:Stmt}{N ps ml B:List Str}{G:List (Str×GV)}{Ms:List (Str×List (Str×MV))}{body:SF}(h:rY N st G B Ms ml=some body)(g:Ez P w K mg base (ak w K) k0 G)(b:Gi mg B)(ms:Iu P w K mg base (ak w K) k0 Ms)(hk:k0+1+1<=k)(hi:fn[i]?=some (dM c "__init__" q st):=by rfl)(hj:fa[j]?=some (.mkr c):=by rfl)(hg:fa[l]?=some (.glo c):=by rfl)(hx:xsH.contains c=true:=by rfl){fs:List Str}(hc:lN.lookup c=some fs:=by rfl)(hp:ps.length=n+1:=by rfl)(S:FnScope N ps (defScope st):=by exact⟨rfl,rfl,rfl,by decide +kernel,rfl,by decide +kernel,by decide +kernel⟩)(hb:∀(kV doc pm:Value) (an:Option Addr) (cdv ct:Value) (us:List Value),us.length=ps.length->bindArgs (PySem.W.fnOf "__init__" q (defArgs st) (defBody st) (defScope st) .none kV doc pm an cdv ct) ⟨us,[]⟩=pure (ps.zip us):=by nofun):bh P w K mg base (ak w K) k c (.cls n (mG N.length body)):=by obtain⟨fd,F⟩:=T.c.Xw i hi;exact aln hk hx (T.glo l hg) (T.cls hc) (T.c.rB j hj) hp (FunD.bindsN (ps:=ps) F hb) (Vf (Gq F) S g b (T.hs ms) h)
theorem adp(hk:2<=k):bh P w K mg base (ak w K) k "Clash" (.exi ["ones","others","ear"]):=by
 have ho:Vn K "Clash" ["ones","others","ear"]=true:=(He.ba (at7.mp T.xf _ (show(("Clash" : Str),(["ones","others","ear"]:List Str))∈X5 by simp[X5]))).2
 obtain⟨o1,o2,o3,o4,o5⟩:=Vx ho;obtain⟨fd,F⟩:=T.c.Xw 117;have b:=FunD.bindsN (ps:=["self","ones","others","ear"]) F λ_ _ _ _ _ _ us hl=>match us,hl with|[_,_,_,_],_=>rfl
 exact ak4 hk (by rfl) (T.glo 135) ho rfl b (agy (Gq F) YB o1 (by rfl) (by decide) (o5 _ (by decide)) (o5 _ (by decide)) (o5 _ (by decide)))
theorem afg(hk:2<=k:=by omega):bh P w K mg base (ak w K) k "Grounds" (.cls 0 wu):=vI T 0 0 117 (ps:=["self"]) Wz trivial trivial trivial hk
theorem aht(hk:2<=k:=by omega):bh P w K mg base (ak w K) k "Rights" (.cls 0 yj):=vI T 1 1 118 (ps:=["self"]) Y6 trivial trivial trivial hk
theorem akD(hk:2<=k:=by omega):bh P w K mg base (ak w K) k "Herd" (.cls 0 BW):=vI T 2 2 119 (ps:=["self"]) abT trivial trivial trivial hk
theorem afe(hk:4<=k:=by omega):bh P w K mg base (ak w K) k "Commons" (.cls 0 rZ):=vI T 3 3 120 (ps:=["self"]) Wx ⟨akD T,aht T,afg T,auZ⟩ trivial trivial hk
theorem ald(hk:1<=k:=by omega):bh P w K mg base (ak w K) k "_law_cell" (.fq 2 Cg):=vQ T 4 4 hk (ps:=["_law_script","_law_k"]) alD trivial ⟨T.free 173,auZ⟩ trivial
theorem Ze(hk:1<=k:=by omega):bh P w K mg base (ak w K) k "_law_row" (.fq 3 uf):=vQ T 5 5 hk (ps:=["_law_cell_here","_law_many","_law_base"]) anw trivial ⟨T.free 174,T.free 175,auZ⟩ trivial
theorem aaN(hk:1<=k:=by omega):bh P w K mg base (ak w K) k "_law_ear_by" (.fq 2 vU):=vQ T 6 6 hk (ps:=["_law_figures","_law_mode"]) ahf trivial ⟨T.free 176,T.free 177,auZ⟩ trivial
theorem aiw(hk:2<=k:=by omega):bh P w K mg base (ak w K) k "_law_ear" (.fq 1 Ko):=vQ T 7 7 hk (ps:=["_law_cell_here"]) aoh ⟨aaN T,Ze T,auZ⟩ trivial trivial
theorem ab4(hk:1<=k:=by omega):bh P w K mg base (ak w K) k "_law_begun" (.fq 1 xP):=vQ T 8 8 hk (ps:=["_law_head"]) ab7 trivial trivial trivial
theorem Xq(hk:1<=k:=by omega):bh P w K mg base (ak w K) k "_law_word_by" (.fq 1 vZ):=vQ T 9 9 hk (ps:=["_law_figure"]) aeY trivial trivial trivial
theorem iD(hk:1<=k:=by omega):cC P w K mg base (ak w K) k "Commons" "need_owner" (.q 2 jU):=wQ T 10 10 hk (ps:=["self","owner"]) Lj ⟨agB T,auZ⟩ trivial trivial
theorem yZ(hk:1<=k:=by omega):cC P w K mg base (ak w K) k "Grounds" "many" (.q 1 rO):=wQ T 11 11 hk (ps:=["self"]) V2 trivial ⟨T.free 173,auZ⟩ trivial
theorem V7(hk:2<=k:=by omega):cC P w K mg base (ak w K) k "Grounds" "has" (.q 2 yd):=wQ T 12 12 hk (ps:=["self","ground"]) Yz trivial trivial ⟨⟨yZ T,auZ⟩,auZ⟩
theorem ig(hk:3<=k:=by omega):cC P w K mg base (ak w K) k "Grounds" "need" (.q 2 wB):=wQ T 13 13 hk (ps:=["self","ground"]) V8 ⟨Lw T,auZ⟩ trivial ⟨⟨V7 T,auZ⟩,auZ⟩
theorem uZ(hk:1<=k:=by omega):cC P w K mg base (ak w K) k "Rights" "marks" (.q 3 wO):=wQ T 14 14 hk (ps:=["self","owner","ground"]) Wy trivial trivial trivial
theorem MK(hk:2<=k:=by omega):cC P w K mg base (ak w K) k "Rights" "has_right" (.q 3 qG):=wQ T 15 15 hk (ps:=["self","owner","ground"]) O5 trivial ⟨T.free 173,auZ⟩ ⟨⟨uZ T,auZ⟩,auZ⟩
theorem jJ(hk:3<=k:=by omega):cC P w K mg base (ak w K) k "Commons" "need_right" (.q 3 oE):=wQ T 16 16 hk (ps:=["self","owner","ground"]) Lk ⟨XS T,auZ⟩ trivial ⟨⟨MK T,auZ⟩,auZ⟩
theorem ux(hk:1<=k:=by omega):cC P w K mg base (ak w K) k "Commons" "new_owner" (.g 1 gU):=wG T 17 17 hk (ps:=["self"]) M4 trivial trivial trivial
theorem zY(hk:1<=k:=by omega):cC P w K mg base (ak w K) k "Rights" "add_right" (.g 4 jL):=wG T 18 18 hk (ps:=["self","owner","ground","mark"]) NZ ⟨U6 T,auZ⟩ trivial trivial
theorem ak0(hk:1<=k:=by omega):bh P w K mg base (ak w K) k "torn" (.fq 2 Od):=vQ T 19 19 hk (ps:=["ear","many"]) akZ ⟨yM T,auZ⟩ ⟨T.free 174,T.free 178,auZ⟩ trivial
theorem Vm(hk:1<=k:=by omega):bh P w K mg base (ak w K) k "lacks" (.fq 2 qd):=vQ T 20 20 hk (ps:=["one","other"]) akh trivial ⟨T.free 179,T.free 180,auZ⟩ trivial
theorem abP(hk:2<=k:=by omega):bh P w K mg base (ak w K) k "offspring" (.fq 2 xK):=vQ T 21 21 hk (ps:=["mark","extra"]) ab2 ⟨Vm T,ak0 T,auZ⟩ trivial trivial
theorem ajM(hk:2<=k:=by omega):bh P w K mg base (ak w K) k "apart" (.fq 2 Jz):=vQ T 22 22 hk (ps:=["one","other"]) aiS ⟨Vm T,auZ⟩ ⟨T.free 177,auZ⟩ trivial
theorem abz(hk:3<=k:=by omega):bh P w K mg base (ak w K) k "meet" (.fq 3 uD):=vQ T 23 23 hk (ps:=["one","other","room"]) alN ⟨ajM T,auZ⟩ trivial trivial
theorem aam(hk:4<=k:=by omega):bh P w K mg base (ak w K) k "first_free" (.fq 4 sH):=vQ T 24 24 hk (ps:=["mark","extra","rows","room"]) ZK ⟨aec T,abP T,abz T,trivial⟩ ⟨T.free 181,trivial⟩ trivial
theorem rR(hk:2<=k:=by omega):cC P w K mg base (ak w K) k "Commons" "first_mark" (.q 3 oH):=wQ T 25 25 hk (ps:=["self","owner","ground"]) J9 trivial trivial ⟨⟨uZ T,trivial⟩,trivial⟩
theorem pO(hk:4<=k:=by omega):cC P w K mg base (ak w K) k "Grounds" "together" (.q 2 lZ):=wQ T 26 26 hk (ps:=["self","ground"]) Pj trivial ⟨T.free 182,auZ⟩ ⟨⟨ig T,auZ⟩,auZ⟩
theorem pX(hk:5<=k:=by omega):cC P w K mg base (ak w K) k "Commons" "together" (.q 2 mj):=wQ T 27 27 hk (ps:=["self","ground"]) Nz trivial trivial ⟨⟨pO T,auZ⟩,auZ⟩
theorem R3(hk:1<=k:=by omega):bh P w K mg base (ak w K) k "tidied" (.fq 1 uo):=vQ T 28 28 hk (ps:=["rows"]) ah4 trivial ⟨T.free 183,T.free 184,auZ⟩ trivial
theorem vN(hk:1<=k:=by omega):cC P w K mg base (ak w K) k "Herd" "all_living" (.q 1 rE):=wQ T 29 29 hk (ps:=["self"]) QD trivial ⟨T.free 185,auZ⟩ trivial
theorem zm(hk:2<=k:=by omega):cC P w K mg base (ak w K) k "Herd" "grazing" (.q 2 sJ):=wQ T 30 30 hk (ps:=["self","grounds"]) WL trivial trivial ⟨⟨vN T,auZ⟩,auZ⟩
theorem La(hk:1<=k:=by omega):cC P w K mg base (ak w K) k "Rights" "in_grounds" (.q 2 pP):=wQ T 31 31 hk (ps:=["self","grounds"]) MN trivial trivial trivial
theorem wV(hk:6<=k:=by omega):cC P w K mg base (ak w K) k "Commons" "standing_but" (.q 3 jo):=wQ T 32 32 hk (ps:=["self","left_out","ground"]) Io ⟨R3 T,auZ⟩ trivial ⟨⟨La T,auZ⟩,⟨zm T,auZ⟩,⟨pX T,auZ⟩,auZ⟩
theorem lB(hk:7<=k:=by omega):cC P w K mg base (ak w K) k "Commons" "standing" (.q 2 lY):=wQ T 33 33 hk (ps:=["self","ground"]) NQ trivial trivial ⟨⟨wV T,auZ⟩,auZ⟩
theorem zR(hk:4<=k:=by omega):cC P w K mg base (ak w K) k "Grounds" "allowance" (.q 2 lA):=wQ T 34 34 hk (ps:=["self","ground"]) M6 trivial trivial ⟨⟨ig T,auZ⟩,auZ⟩
theorem Ug(hk:5<=k:=by omega):cC P w K mg base (ak w K) k "Grounds" "room" (.q 2 sG):=wQ T 35 35 hk (ps:=["self","ground"]) Wr trivial ⟨T.free 177,auZ⟩ ⟨⟨pO T,auZ⟩,⟨zR T,auZ⟩,auZ⟩
theorem mZ(hk:6<=k:=by omega):cC P w K mg base (ak w K) k "Commons" "room" (.q 2 sE):=wQ T 36 36 hk (ps:=["self","ground"]) V3 trivial trivial ⟨⟨Ug T,auZ⟩,auZ⟩
theorem Ac(hk:8<=k:=by omega):cC P w K mg base (ak w K) k "Commons" "new_heir" (.g 4 cV):=wG T 37 37 hk (ps:=["self","elder","ground","extra"]) Oe ⟨aam T,ael T,W6 T,Z4 T,auZ⟩ trivial ⟨⟨zY T,auZ⟩,⟨ux T,auZ⟩,⟨mZ T,auZ⟩,⟨lB T,auZ⟩,⟨rR T,auZ⟩,⟨jJ T,auZ⟩,⟨ig T,auZ⟩,⟨iD T,auZ⟩,auZ⟩
theorem Jw(hk:2<=k:=by omega):cC P w K mg base (ak w K) k "Grounds" "add_ground" (.g 2 fW):=wG T 38 38 hk (ps:=["self","allowance"]) K6 ⟨VD T,K8 T,auZ⟩ trivial ⟨⟨yZ T,auZ⟩,auZ⟩
theorem yQ(hk:3<=k:=by omega):cC P w K mg base (ak w K) k "Commons" "new_ground" (.g 2 fZ):=wG T 39 39 hk (ps:=["self","allowance"]) Ke trivial trivial ⟨⟨Jw T,auZ⟩,auZ⟩
theorem aeX(hk:4<=k:=by omega):bh P w K mg base (ak w K) k "barring" (.fq 4 Cy):=vQ T 40 40 hk (ps:=["owner","ear","rows","room"]) aeL ⟨abz T,R3 T,auZ⟩ trivial trivial
theorem Qm(hk:1<=k:=by omega):bh P w K mg base (ak w K) k "joint" (.fq 2 rW):=vQ T 41 41 hk (ps:=["one","other"]) ajt trivial ⟨T.free 176,T.free 180,T.free 177,auZ⟩ trivial
theorem UL(hk:5<=k:=by omega):bh P w K mg base (ak w K) k "ask_room" (.fq 4 qJ):=vQ T 42 42 hk (ps:=["owner","ear","rows","room"]) adP ⟨adp T (by decide),Qm T,aeX T,auZ⟩ trivial trivial
theorem rN(hk:8<=k:=by omega):cC P w K mg base (ak w K) k "Commons" "ask_ground" (.q 4 iJ):=wQ T 43 43 hk (ps:=["self","owner","ear","ground"]) KY ⟨UL T,auZ⟩ trivial ⟨⟨mZ T,auZ⟩,⟨lB T,auZ⟩,auZ⟩
theorem ZR(hk:1<=k:=by omega):bh P w K mg base (ak w K) k "is_ear" (.fq 1 vL):=vQ T 44 44 hk (ps:=["parts"]) ahF ⟨yM T,Rx T,auZ⟩ ⟨T.free 186,T.free 173,auZ⟩ trivial
theorem Ls(hk:2<=k:=by omega):bh P w K mg base (ak w K) k "need_ear" (.fq 1 oF):=vQ T 45 45 hk (ps:=["parts"]) aem ⟨ZG T,ZR T,auZ⟩ trivial trivial
theorem Gk(hk:9<=k:=by omega):cC P w K mg base (ak w K) k "Commons" "enrol" (.g 4 dU):=wG T 46 46 hk (ps:=["self","owner","ground","mark"]) Ul ⟨U6 T,amI T,UJ T,Ls T,auZ⟩ trivial ⟨⟨zY T,auZ⟩,⟨rN T,auZ⟩,⟨uZ T,auZ⟩,⟨ig T,auZ⟩,⟨iD T,auZ⟩,auZ⟩
theorem Wt(hk:2<=k:=by omega):cC P w K mg base (ak w K) k "Rights" "drop" (.g 3 qp):=wG T 47 47 hk (ps:=["self","owner","ground"]) Yy ⟨XS T,auZ⟩ trivial ⟨⟨uZ T,auZ⟩,auZ⟩
theorem FW(hk:4<=k:=by omega):cC P w K mg base (ak w K) k "Commons" "leave" (.g 3 fO):=wG T 48 48 hk (ps:=["self","owner","ground"]) U9 ⟨abj T,auZ⟩ ⟨T.free 181,auZ⟩ ⟨⟨Wt T,auZ⟩,⟨zm T,auZ⟩,⟨jJ T,auZ⟩,⟨ig T,auZ⟩,⟨iD T,auZ⟩,auZ⟩
theorem Dy(hk:1<=k:=by omega):cC P w K mg base (ak w K) k "Beast" "stand_so" (.g 2 pG):=wG T 49 49 hk (ps:=["self","stand"]) R8 trivial trivial trivial
theorem ajG(hk:1<=k:=by omega):bh P w K mg base (ak w K) k "begun" (.fq 1 Ei):=vQ T 50 50 hk (ps:=["first"]) aju ⟨UJ T,trivial⟩ trivial trivial
theorem ajO(hk:3<=k:=by omega):bh P w K mg base (ak w K) k "Beast" (.cls 1 vA):=vI T 51 51 142 (ps:=["self","first"]) Z8 ⟨ajG T,trivial⟩ trivial ⟨⟨Dy T,trivial⟩,trivial⟩ hk
theorem DG(hk:4<=k:=by omega):cC P w K mg base (ak w K) k "Herd" "add_beast" (.g 2 tZ):=wG T 52 52 hk (ps:=["self","first"]) Ri ⟨ajO T,trivial⟩ ⟨T.free 173,trivial⟩ trivial
theorem Fl(hk:5<=k:=by omega):cC P w K mg base (ak w K) k "Commons" "bring" (.g 4 fP):=wG T 53 53 hk (ps:=["self","owner","ground","ear"]) Uo ⟨Ls T,auZ⟩ trivial ⟨⟨DG T,auZ⟩,⟨jJ T,auZ⟩,⟨ig T,auZ⟩,⟨iD T,auZ⟩,auZ⟩
theorem Dq(hk:1<=k:=by omega):cC P w K mg base (ak w K) k "Herd" "known" (.q 2 mK):=wQ T 54 54 hk (ps:=["self","number"]) ZX ⟨afi T,auZ⟩ ⟨T.free 173,auZ⟩ trivial
theorem wJ(hk:2<=k:=by omega):cC P w K mg base (ak w K) k "Herd" "living" (.q 2 uI):=wQ T 55 55 hk (ps:=["self","number"]) Y9 ⟨amW T,auZ⟩ trivial ⟨⟨Dq T,auZ⟩,auZ⟩
theorem Bc(hk:3<=k:=by omega):cC P w K mg base (ak w K) k "Herd" "marked" (.q 2 qj):=wQ T 56 56 hk (ps:=["self","number"]) YZ ⟨adG T,auZ⟩ trivial ⟨⟨wJ T,auZ⟩,auZ⟩
theorem HD(hk:5<=k:=by omega):cC P w K mg base (ak w K) k "Commons" "bear" (.g 2 iY):=wG T 57 57 hk (ps:=["self","mother"]) Vr trivial trivial ⟨⟨DG T,auZ⟩,⟨Bc T,auZ⟩,auZ⟩
theorem aeb(hk:1<=k:=by omega):bh P w K mg base (ak w K) k "deepened" (.fq 2 zV):=vQ T 58 58 hk (ps:=["ear","place"]) aef trivial ⟨T.free 176,T.free 185,auZ⟩ trivial
theorem ae4(hk:2<=k:=by omega):bh P w K mg base (ak w K) k "gone_on" (.fq 2 CJ):=vQ T 59 59 hk (ps:=["stand","event"]) agu ⟨aeb T,auZ⟩ trivial trivial
theorem JN(hk:1<=k:=by omega):cC P w K mg base (ak w K) k "Beast" "stand" (.q 1 xU):=wQ T 60 60 hk (ps:=["self"]) YF trivial trivial trivial
theorem jT(hk:3<=k:=by omega):cC P w K mg base (ak w K) k "Beast" "befall" (.g 2 oV):=wG T 61 61 hk (ps:=["self","event"]) VN ⟨ae4 T,auZ⟩ trivial ⟨⟨Dy T,auZ⟩,⟨JN T,auZ⟩,auZ⟩
theorem Jc(hk:9<=k:=by omega):cC P w K mg base (ak w K) k "Commons" "cut" (.g 2 jA):=wG T 62 62 hk (ps:=["self","beast"]) YX ⟨Qm T,auZ⟩ trivial ⟨⟨jT T,auZ⟩,⟨rN T,auZ⟩,⟨rR T,auZ⟩,⟨wJ T,auZ⟩,auZ⟩
theorem HY(hk:4<=k:=by omega):cC P w K mg base (ak w K) k "Commons" "tear" (.g 3 fL):=wG T 63 63 hk (ps:=["self","beast","place"]) WD ⟨aeW T,yM T,agn T,Rx T,auZ⟩ ⟨T.free 173,auZ⟩ ⟨⟨jT T,auZ⟩,⟨wJ T,auZ⟩,auZ⟩
theorem V5(hk:2<=k:=by omega):cC P w K mg base (ak w K) k "Herd" "calves" (.q 2 uE):=wQ T 64 64 hk (ps:=["self","mother"]) Y5 trivial trivial ⟨⟨vN T,auZ⟩,⟨Dq T,auZ⟩,auZ⟩
theorem Ae(hk:4<=k:=by omega):cC P w K mg base (ak w K) k "Herd" "lead_calves" (.g 2 qO):=wG T 65 65 hk (ps:=["self","mother"]) OD trivial trivial ⟨⟨V5 T,auZ⟩,⟨jT T,auZ⟩,⟨Dq T,auZ⟩,auZ⟩
theorem Gp(hk:7<=k:=by omega):cC P w K mg base (ak w K) k "Commons" "sell" (.g 3 dO):=wG T 66 66 hk (ps:=["self","beast","buyer"]) Vy ⟨UL T,Qm T,Q5 T,auZ⟩ trivial ⟨⟨Ae T,auZ⟩,⟨jT T,auZ⟩,⟨mZ T,auZ⟩,⟨wV T,auZ⟩,⟨rR T,auZ⟩,⟨jJ T,auZ⟩,⟨iD T,auZ⟩,⟨Bc T,auZ⟩,auZ⟩
theorem Hu(hk:9<=k:=by omega):cC P w K mg base (ak w K) k "Commons" "move" (.g 3 dR):=wG T 67 67 hk (ps:=["self","beast","ground"]) VP ⟨ZQ T,auZ⟩ trivial ⟨⟨Ae T,auZ⟩,⟨jT T,auZ⟩,⟨rN T,auZ⟩,⟨jJ T,auZ⟩,⟨ig T,auZ⟩,⟨Bc T,auZ⟩,auZ⟩
theorem Jf(hk:4<=k:=by omega):cC P w K mg base (ak w K) k "Commons" "die" (.g 2 kW):=wG T 68 68 hk (ps:=["self","beast"]) YH trivial trivial ⟨⟨jT T,auZ⟩,⟨wJ T,auZ⟩,auZ⟩
theorem adM(hk:4<=k:=by omega):bh P w K mg base (ak w K) k "clashing" (.fq 2 wC):=vQ T 69 69 hk (ps:=["rows","room"]) aep ⟨abz T,R3 T,auZ⟩ ⟨T.free 185,auZ⟩ trivial
theorem MP(hk:8<=k:=by omega):cC P w K mg base (ak w K) k "Commons" "quarrels" (.q 3 lU):=wQ T 70 70 hk (ps:=["self","ground","other"]) NP ⟨adM T,auZ⟩ ⟨T.free 177,auZ⟩ ⟨⟨lB T,auZ⟩,⟨mZ T,auZ⟩,auZ⟩
theorem Cv(hk:1<=k:=by omega):cC P w K mg base (ak w K) k "Grounds" "enclose" (.g 2 nM):=wG T 71 71 hk (ps:=["self","grounds"]) Qz trivial ⟨T.free 176,auZ⟩ trivial
theorem Eu(hk:5<=k:=by omega):cC P w K mg base (ak w K) k "Grounds" "unite" (.g 3 jY):=wG T 72 72 hk (ps:=["self","ground","other"]) U4 ⟨Tt T,auZ⟩ ⟨T.free 183,auZ⟩ ⟨⟨Cv T,auZ⟩,⟨pO T,auZ⟩,auZ⟩
theorem Fd(hk:9<=k:=by omega):cC P w K mg base (ak w K) k "Commons" "unite" (.g 3 eY):=wG T 73 73 hk (ps:=["self","ground","other"]) Uy ⟨adp T (by decide),Qm T,Tt T,auZ⟩ trivial ⟨⟨Eu T,auZ⟩,⟨MP T,auZ⟩,⟨pX T,auZ⟩,⟨ig T,auZ⟩,auZ⟩
theorem Gz(hk:5<=k:=by omega):cC P w K mg base (ak w K) k "Grounds" "part" (.g 2 iU):=wG T 74 74 hk (ps:=["self","ground"]) Vt ⟨aj4 T,auZ⟩ trivial ⟨⟨Cv T,auZ⟩,⟨pO T,auZ⟩,auZ⟩
theorem HJ(hk:6<=k:=by omega):cC P w K mg base (ak w K) k "Commons" "part" (.g 2 iV):=wG T 75 75 hk (ps:=["self","ground"]) Wd trivial trivial ⟨⟨Gz T,auZ⟩,auZ⟩
theorem M5(hk:1<=k:=by omega):cC P w K mg base (ak w K) k "Rights" "hand_over" (.g 3 qL):=wG T 76 76 hk (ps:=["self","elder","heir"]) Pu trivial trivial trivial
theorem YT(hk:2<=k:=by omega):cC P w K mg base (ak w K) k "Herd" "owned" (.q 2 zQ):=wQ T 77 77 hk (ps:=["self","owner"]) Zw trivial trivial ⟨⟨vN T,auZ⟩,auZ⟩
theorem CT(hk:4<=k:=by omega):cC P w K mg base (ak w K) k "Commons" "pass_on" (.g 3 fH):=wG T 78 78 hk (ps:=["self","elder","heir"]) QC ⟨Q5 T,auZ⟩ trivial ⟨⟨jT T,auZ⟩,⟨YT T,auZ⟩,⟨M5 T,auZ⟩,⟨iD T,auZ⟩,auZ⟩
theorem ab1(hk:2<=k:=by omega):bh P w K mg base (ak w K) k "part_fits" (.fq 2 jw):=vQ T 79 79 hk (ps:=["kind","part"]) abG ⟨Rx T,Tj T,ZR T,auZ⟩ ⟨T.free 187,T.free 188,T.free 173,T.free 176,auZ⟩ trivial
theorem amt(hk:3<=k:=by omega):bh P w K mg base (ak w K) k "fits" (.fq 1 JK):=vQ T 80 80 hk (ps:=["deed"]) alO ⟨ab1 T,ahw T,auZ⟩ ⟨T.free 186,T.free 180,T.free 173,auZ⟩ trivial
theorem YQ(hk:10<=k:=by omega):cC P w K mg base (ak w K) k "Commons" "do" (.g 2 cJ):=wG T 81 81 hk (ps:=["self","deed"]) aae ⟨agj T,amt T,auZ⟩ trivial ⟨⟨Ac T,auZ⟩,⟨CT T,auZ⟩,⟨HJ T,auZ⟩,⟨Fd T,auZ⟩,⟨Jf T,auZ⟩,⟨Hu T,auZ⟩,⟨Gp T,auZ⟩,⟨HY T,auZ⟩,⟨Jc T,auZ⟩,⟨HD T,auZ⟩,⟨Fl T,auZ⟩,⟨FW T,auZ⟩,⟨Gk T,auZ⟩,⟨yQ T,auZ⟩,⟨ux T,auZ⟩,auZ⟩
theorem ae6(hk:11<=k:=by omega):bh P w K mg base (ak w K) k "_law_done" (.fg 3 nO):=vG T 82 82 hk (ps:=["_law_house","_law_deed_here","_law_counts"]) akF ⟨Ma T,auZ⟩ trivial ⟨⟨YQ T,auZ⟩,auZ⟩
theorem ak3(hk:1<=k:=by omega):bh P w K mg base (ak w K) k "_law_near" (.fq 2 Pk):=vQ T 83 83 hk (ps:=["_law_ear_here","_law_figures"]) ang trivial ⟨T.free 176,T.free 180,T.free 177,T.free 178,auZ⟩ trivial
theorem ae1(hk:2<=k:=by omega):bh P w K mg base (ak w K) k "_law_mark_by" (.fq 3 yU):=vQ T 84 84 hk (ps:=["_law_figures","_law_mode","_law_base"]) afd ⟨aaN T,ak3 T,auZ⟩ trivial trivial
theorem anl(hk:1<=k:=by omega):bh P w K mg base (ak w K) k "_law_ref" (.fq 3 kZ):=vQ T 85 85 hk (ps:=["_law_figure","_law_many","_law_sure"]) anE trivial ⟨T.free 177,auZ⟩ trivial
theorem agA(hk:3<=k:=by omega):bh P w K mg base (ak w K) k "_law_deed" (.fq 6 gD):=vQ T 86 86 hk (ps:=["_law_word","_law_one","_law_two","_law_parts","_law_counts","_law_base"]) alf ⟨anl T,ae1 T,auZ⟩ ⟨T.free 188,auZ⟩ trivial
theorem alk(hk:12<=k:=by omega):bh P w K mg base (ak w K) k "_law_play" (.fg 3 Jo):=vG T 87 87 hk (ps:=["_law_house","_law_cells","_law_head"]) akY ⟨ae6 T,agA T,Xq T,Ze T,ab4 T,aiw T,auZ⟩ ⟨T.free 174,T.free 185,T.free 173,auZ⟩ trivial
theorem YG(hk:2<=k:=by omega):cC P w K mg base (ak w K) k "Beast" "told" (.q 1 zE):=wQ T 88 88 hk (ps:=["self"]) aah trivial ⟨T.free 176,auZ⟩ ⟨⟨JN T,auZ⟩,auZ⟩
theorem Qy(hk:1<=k:=by omega):cC P w K mg base (ak w K) k "Commons" "owners" (.q 1 ug):=wQ T 89 89 hk (ps:=["self"]) RB trivial ⟨T.free 182,auZ⟩ trivial
theorem NK(hk:1<=k:=by omega):cC P w K mg base (ak w K) k "Rights" "all_rows" (.q 1 rJ):=wQ T 90 90 hk (ps:=["self"]) Qx trivial ⟨T.free 182,auZ⟩ trivial
theorem Tf(hk:6<=k:=by omega):cC P w K mg base (ak w K) k "Commons" "look" (.q 1 rQ):=wQ T 91 91 hk (ps:=["self"]) Wm trivial ⟨T.free 174,T.free 176,auZ⟩ ⟨⟨NK T,auZ⟩,⟨Qy T,auZ⟩,⟨YG T,auZ⟩,⟨yZ T,auZ⟩,⟨pX T,auZ⟩,⟨zR T,auZ⟩,auZ⟩
theorem acQ(hk:4<=k:=by omega):bh P w K mg base (ak w K) k "_law_asked" (.fq 4 wI):=vQ T 92 92 hk (ps:=["_law_word","_law_cell_here","_law_counts","_law_head"]) ai5 ⟨agA T,aiw T,Ze T,auZ⟩ trivial trivial
theorem als(hk:1<=k:=by omega):bh P w K mg base (ak w K) k "_law_once" (.fq 1 Nq):=vQ T 93 93 hk (ps:=["_law_rows"]) aky trivial ⟨T.free 183,auZ⟩ trivial
theorem afK(hk:2<=k:=by omega):bh P w K mg base (ak w K) k "_law_rows_of" (.fq 3 Cu):=vQ T 94 94 hk (ps:=["_law_stand","_law_grounds","_law_but"]) afD ⟨als T,auZ⟩ ⟨T.free 185,auZ⟩ trivial
theorem agm(hk:1<=k:=by omega):bh P w K mg base (ak w K) k "_law_room_of" (.fq 2 Cz):=vQ T 95 95 hk (ps:=["_law_stand","_law_ground"]) agd trivial ⟨T.free 177,auZ⟩ trivial
theorem acC(hk:1<=k:=by omega):bh P w K mg base (ak w K) k "_law_whole" (.fq 1 Ah):=vQ T 96 96 hk (ps:=["_law_found"]) akc trivial ⟨T.free 187,T.free 189,T.free 188,auZ⟩ trivial
theorem aex(hk:2<=k:=by omega):bh P w K mg base (ak w K) k "_law_ear_kind" (.fq 1 tK):=vQ T 97 97 hk (ps:=["_law_found"]) adC ⟨acC T,auZ⟩ ⟨T.free 173,T.free 187,T.free 176,auZ⟩ trivial
theorem v_cut(hk:1<=k:=by omega):bh P w K mg base (ak w K) k "_law_cut" (.fq 1 Gx):=vQ T 98 98 hk (ps:=["_law_cell_here"]) ani trivial trivial trivial
theorem anA(hk:2<=k:=by omega):bh P w K mg base (ak w K) k "_law_raw" (.fq 3 P0):=vQ T 99 99 hk (ps:=["_law_value","_law_cell_here","_law_turn"]) aob ⟨v_cut T,auZ⟩ trivial trivial
theorem agY(hk:2<=k:=by omega):bh P w K mg base (ak w K) k "_law_spoilt" (.fq 2 nH):=vQ T 100 100 hk (ps:=["_law_mark","_law_cell_here"]) ahm ⟨v_cut T,auZ⟩ trivial trivial
theorem W7(hk:1<=k:=by omega):bh P w K mg base (ak w K) k "_law_ground_there" (.fq 2 sS):=vQ T 101 101 hk (ps:=["_law_stand","_law_ground"]) Vs trivial ⟨T.free 173,auZ⟩ trivial
theorem amq(hk:12<=k:=by omega):bh P w K mg base (ak w K) k "_law_like" (.fq 2 (jx 10)):=by
 obtain⟨fd,F⟩:=T.c.Xw 102;have b:=FunD.bindsN (ps:=["_law_found","_law_due"]) F λ_ _ _ _ _ _ us hl=>match us,hl with|[_,_],_=>rfl
 have key:∀j:Nat,FnOk P w K mg base (L2.CX P w) (2+j) (He.ga K "_law_like") fd ["_law_found","_law_due"] (Yk K (ak w K) 2 (jx j)):=by
  intro j
  induction j with
  |zero=>exact alI
  |succ j ih'=>
   have ih:∀{k:Nat},2+j<=k->bh P w K mg base (ak w K) k "_law_like" (.fq 2 (jx j)):=λhk=>ahu hk (T.glo 102) F.kp (b) ih'
   refine aaU (k:=2+j) (Gq F) ai3 ?_ ?_ ?_ (amd (jx j))
   .exact⟨ih (at6 _),acC T,auZ⟩
   .exact⟨T.free 180,T.free 173,T.free 187,T.free 182,T.free 176,T.free 190,T.free 188,auZ⟩
   .exact T.hs trivial
 exact ahu hk (T.glo 102) F.kp (b) (key 10)
theorem aiV(hk:1<=k:=by omega):bh P w K mg base (ak w K) k "_law_below" (.fq 2 El):=vQ T 103 103 hk (ps:=["_law_one","_law_other"]) ajf trivial ⟨T.free 180,auZ⟩ trivial
theorem aje(hk:1<=k:=by omega):bh P w K mg base (ak w K) k "_law_tears" (.fq 2 Jv):=vQ T 104 104 hk (ps:=["_law_one","_law_other"]) ajI trivial ⟨T.free 179,T.free 180,T.free 177,auZ⟩ trivial
theorem ahY(hk:2<=k:=by omega):bh P w K mg base (ak w K) k "_law_may_be" (.fq 3 Ai):=vQ T 105 105 hk (ps:=["_law_rows","_law_space","_law_ear_here"]) agS ⟨aje T,aiV T,auZ⟩ ⟨T.free 176,auZ⟩ trivial
theorem ahE(hk:1<=k:=by omega):bh P w K mg base (ak w K) k "deeper" (.fq 2 Ax):=vQ T 106 106 hk (ps:=["shallow","deep"]) ahn trivial ⟨T.free 186,T.free 180,auZ⟩ trivial
theorem Q9(hk:2<=k:=by omega):bh P w K mg base (ak w K) k "owners_of" (.fq 3 oN):=vQ T 107 107 hk (ps:=["ear","rows","room"]) abL ⟨Vm T,ahE T,auZ⟩ ⟨T.free 176,T.free 183,auZ⟩ trivial
theorem Rk(hk:8<=k:=by omega):cC P w K mg base (ak w K) k "Commons" "whose" (.q 3 jg):=wQ T 108 108 hk (ps:=["self","ground","ear"]) S8 ⟨Q9 T,Ls T,auZ⟩ trivial ⟨⟨mZ T,auZ⟩,⟨lB T,auZ⟩,⟨ig T,auZ⟩,auZ⟩
theorem abu(hk:9<=k:=by omega):bh P w K mg base (ak w K) k "_law_whose_told" (.fq 3 mD):=vQ T 109 109 hk (ps:=["_law_house","_law_ground","_law_ear_here"]) Z6 ⟨Lw T,ZG T,auZ⟩ trivial ⟨⟨Rk T,auZ⟩,auZ⟩
theorem QJ(hk:8<=k:=by omega):cC P w K mg base (ak w K) k "Commons" "gather" (.q 2 lG):=wQ T 110 110 hk (ps:=["self","ground"]) Sh ⟨Q9 T,auZ⟩ trivial ⟨⟨zm T,auZ⟩,⟨pX T,auZ⟩,⟨mZ T,auZ⟩,⟨lB T,auZ⟩,auZ⟩
theorem Za(hk:9<=k:=by omega):bh P w K mg base (ak w K) k "_law_gather_told" (.fq 2 nu):=vQ T 111 111 hk (ps:=["_law_house","_law_ground"]) Zb ⟨Lw T,auZ⟩ trivial ⟨⟨QJ T,auZ⟩,auZ⟩
theorem v_right(hk:13<=k:=by omega):bh P w K mg base (ak w K) k "_law_right" (.fq 4 wH):=vQ T 112 112 hk (ps:=["_law_house","_law_cell_here","_law_counts","_law_head"]) ajY ⟨amq T,Za T,ahY T,abu T,aex T,agm T,afK T,W7 T,agY T,anA T,acQ T,auZ⟩ ⟨T.free 185,T.free 173,auZ⟩ ⟨⟨Tf T,auZ⟩,auZ⟩
theorem ajP(hk:14<=k:=by omega):bh P w K mg base (ak w K) k "_law_turns" (.fq 4 Eh):=vQ T 113 113 hk (ps:=["_law_house","_law_cell_here","_law_first","_law_head"]) aiI ⟨v_right T,trivial⟩ trivial trivial
theorem aki(hk:10<=k:=by omega):bh P w K mg base (ak w K) k "_law_named" (.fg 2 iZ):=vG T 114 114 hk (ps:=["_law_house","_law_deed_here"]) akp trivial trivial ⟨⟨Ac T,auZ⟩,⟨CT T,auZ⟩,⟨Gz T,HJ T,auZ⟩,⟨Eu T,Fd T,auZ⟩,⟨Jf T,auZ⟩,⟨Hu T,auZ⟩,⟨Gp T,auZ⟩,⟨HY T,auZ⟩,⟨Jc T,auZ⟩,⟨HD T,auZ⟩,⟨Fl T,auZ⟩,⟨FW T,auZ⟩,⟨Gk T,auZ⟩,⟨yQ T,auZ⟩,⟨ux T,auZ⟩,auZ⟩
theorem afz(hk:12<=k:=by omega):bh P w K mg base (ak w K) k "_law_done_so" (.fg 4 qI):=vG T 115 115 hk (ps:=["_law_house","_law_deed_here","_law_counts","_law_way"]) aft ⟨aki T,Ma T,ae6 T,auZ⟩ trivial trivial
theorem anM{fd:FuncData}(F:FunD K "law" "law" (defArgs Qc) (defBody Qc) (defScope Qc) [] [] (He.ga K "law") fd):FnOk P w K mg base (L2.CX P w) 15 (He.ga K "law") fd ["_law_script"] (Mv K (ak w K) 1 TV):=by
 refine Vf (k:=14) (Gq F) alp ?_ ?_ ?_ aoe
 .exact⟨ajP T,afz T,acQ T,Xq T,Ze T,alk T,ald T,afe T,auZ⟩
 .exact⟨T.free 175,auZ⟩
 .exact T.hs trivial
end
def digs(b:Int):Nat->Int->List Int
 |0,_=>[]
 |n+1,c=>c%b::digs b n (c/b)
def QZ(b:Int):Nat->Int->Int->List Int
 |0,_,_=>[]
 |n+1,k,t=>((t*48271+9973*k+11)%2147483647/1021%b)::QZ b n (k+1) ((t*48271+9973*k+11)%2147483647)
def Df(c:Int):Int:=if c<0 then -c else c
def rowOf(c:Int)(n:Nat)(b:Int):List Int:=if 10^18<=Df c then digs b n (Df c) else QZ b n 0 ((Df c%1000003+17)*69621%2147483647)
theorem aan(b:Int):∀n c,(digs b n c).length=n
 |0,_=>rfl
 |n+1,c=>by simp[digs,aan b n]
theorem aci(b:Int):∀n k t,(QZ b n k t).length=n
 |0,_,_=>rfl
 |n+1,k,t=>by simp[QZ,aci b n]
theorem acv{b:Int}(hb:0<b):∀n c,∀x∈digs b n c,0<=x/\x<b
 |0,_,x,h=>by simp[digs]at h
 |n+1,c,x,h=>by
  rcases atO.mp h with rfl|h
  .exact⟨Int.emod_nonneg _ (by omega),Int.emod_lt_of_pos _ hb⟩
  .exact acv hb n _ x h
theorem ae3{b:Int}(hb:0<b):∀n k t,∀x∈QZ b n k t,0<=x/\x<b
 |0,_,_,x,h=>by simp[QZ]at h
 |n+1,k,t,x,h=>by
  rcases atO.mp h with rfl|h
  .exact⟨Int.emod_nonneg _ (by omega),Int.emod_lt_of_pos _ hb⟩
  .exact ae3 hb n _ _ x h
@[simp]theorem adw (c:Int) (n:Nat) (b:Int):(rowOf c n b).length=n:=by
 unfold rowOf;split
 .exact aan ..
 .exact aci ..
theorem ae7{b:Int}(hb:0<b)(c:Int)(n:Nat):∀x∈rowOf c n b,0<=x/\x<b:=by
 unfold rowOf;split
 .exact acv hb _ _
 .exact ae3 hb _ _ _
@[simp]theorem acG (M:Mo) (ns:List Int) (k:Nat):Cg M [lI ns,.int k]=.ok (.int (ns.getD k 0)):=by
 unfold Cg aaf;by_cases h:k<ns.length
 .simp[h,atI,ixN]
 .simp[h]
theorem abD(M:Mo)(b:Int)(hb:0<b)(hb2:b<1073741824):∀(n k:Nat) (c:Int) (x1:Option Cell) (acc:List Dat) (x4 x5:Option Cell),acc.length+n<100000->∃c' x4',dX (aF 4) WQ ((List.range' k n).map λ(i:Nat)=>PyData.int (i:Int)) M [some (.dat (.int c)),x1,some (.dat (.int b)),some (.mut acc),x4,x5]=.next [c',x1,some (.dat (.int b)),some (.mut (acc++(digs b n c).map .int)),x4',x5] M
 |0,k,c,x1,acc,x4,x5,_=>⟨some (.dat (.int c)),x4,by simp[dX,digs]⟩
 |n+1,k,c,x1,acc,x4,x5,hl=>by
  obtain⟨c',x4',ih⟩:=abD M b hb hb2 n (k+1) (c/b) x1 (acc++[.int (c%b)]) (some (.dat (.int k))) x5 (by simp;omega);refine⟨c',x4',?_⟩;have h1:decide (CDiv c b)=true:=decide_eq_true ⟨hb,hb2⟩;have hl:acc.length<100000:=by omega
  rw[List.range'_succ,atE,fD (Z1:=[some (.dat (.int c)),x1,some (.dat (.int b)),some (.mut acc),some (.dat (.int k)),x5]) (by simp) (Z2:=[some (.dat (.int (c/b))),x1,some (.dat (.int b)),some (.mut (acc++[.int (c%b)])),some (.dat (.int k)),x5]) (M2:=M) (by simp[WQ,h1,hb,hl])];rw[ih];simp[digs]
theorem acO(M:Mo)(b:Int)(hb:0<b):∀(n k:Nat) (t:Int) (x0 x1:Option Cell) (acc:List Dat) (x4:Option Cell),acc.length+n<100000->∃x4' x5',dX (aF 4) VB ((List.range' k n).map λ(i:Nat)=>PyData.int (i:Int)) M [x0,x1,some (.dat (.int b)),some (.mut acc),x4,some (.dat (.int t))]=.next [x0,x1,some (.dat (.int b)),some (.mut (acc++(QZ b n k t).map .int)),x4',x5'] M
 |0,k,t,x0,x1,acc,x4,_=>⟨x4,some (.dat (.int t)),by simp[dX,QZ]⟩
 |n+1,k,t,x0,x1,acc,x4,hl=>by
  obtain⟨x4',x5',ih⟩:=acO M b hb n (k+1) ((t*48271+9973*k+11)%2147483647) x0 x1 (acc++[.int ((t*48271+9973*k+11)%2147483647/1021%b)]) (some (.dat (.int k))) (by simp;omega);refine⟨x4',x5',?_⟩;have h1:decide (CMul t 48271)=true:=mul_r (by decide);have h2:decide (CMul 9973 (k:Int))=true:=aiz (by decide);have h3:∀x,decide (CDiv x 1021)=true:=λx=>decide_eq_true ⟨by decide,by decide⟩;have hl:acc.length<100000:=by omega
  rw[List.range'_succ,atE,fD (Z1:=[x0,x1,some (.dat (.int b)),some (.mut acc),some (.dat (.int k)),some (.dat (.int t))]) (by simp) (Z2:=[x0,x1,some (.dat (.int b)),some (.mut (acc++[.int ((t*48271+9973*k+11)%2147483647/1021%b)])),some (.dat (.int k)),some (.dat (.int ((t*48271+9973*k+11)%2147483647)))]) (M2:=M) (by simp[VB,h1,h2,h3,hb,hl])];rw[ih];simp[QZ]
theorem TF(n:Nat):jR 0 n=(List.range' 0 n).map λ(i:Nat)=>PyData.int (i:Int):=by unfold jR;rw[List.range_eq_range'];simp
theorem Ub(M:Mo)(c:Int)(n:Nat)(b:Int)(hb:0<b)(hb2:b<1073741824)(hn:n<=1000):uf M [.int c,.int n,.int b]=.ok (lI (rowOf c n b)):=by
 unfold uf adE;have hp:decide (CPow 10 18)=true:=decide_eq_true ⟨by decide,by decide,by decide⟩;have hn1:(n:Int)<=100000:=by omega
 have hn2 : -100000<=(n:Int):=by omega
 have hm:∀x,decide (CMul x 69621)=true:=λx=>mul_r (by decide);have ea:(if c<0 then -c else c)=Df c:=rfl;by_cases h:10^18<=Df c
 .obtain⟨c',x4',e⟩:=abD M b hb hb2 n 0 (Df c) (some (.dat (.int n))) [] none none (by simp;omega);have e2:rowOf c n b=digs b n (Df c):=au5 h;have h':(1000000000000000000:Int)<=Df c:=by simpa using h
  simp[hp,ea,h',hn1,hn2,TF,e,e2]
 .obtain⟨x4',x5',e⟩:=acO M b hb n 0 ((Df c%1000003+17)*69621%2147483647) (some (.dat (.int (Df c)))) (some (.dat (.int n))) [] none (by simp;omega);have e2:rowOf c n b=QZ b n 0 ((Df c%1000003+17)*69621%2147483647):=au6 h;have h':¬(1000000000000000000:Int)<=Df c:=by simpa using h
  have e':=e;simp[hp,ea,h',hn1,hn2,hm,TF]at e |-
  rw[e];simp[e2]
def RJ(i j:Int):Int:=if j>i then j else i
def BJ(l:List Int)(m:Int):List Int:=if m%4=1 then l.map λf=>RJ 0 (f-7) else if m%4=2 then l.map λf=>f%3 else l
theorem XJ(M:Mo)(l:List Int)(m:Int)(hl:l.length<=1000):vU M [lI l,.int m]=.ok (aH (BJ l m)):=by
 unfold vU Ss;have hl':l.length<=50000:=by omega
 have c1:=fG (tg:=aF 2) (te:=aA u9 (qC (.int 0)) (aA mH (ao 2) (qC (.int 7)))) (M:=M) (Z:=[some (.dat (lI l)),some (.dat (.int m)),none]) PyData.int (λf=>.int (RJ 0 (f-7))) l λx _=>⟨_,rfl,by simp[RJ]⟩;have c2:=fG (tg:=aF 2) (te:=aA jy (ao 2) (qC (.int 3))) (M:=M) (Z:=[some (.dat (lI l)),some (.dat (.int m)),none]) PyData.int (λf=>.int (f%3)) l λx _=>⟨_,rfl,by simp⟩;by_cases h1:m%4=1
 .simp[h1,hl',c1,BJ,at5]
 .by_cases h2:m%4=2
  .simp[h2,hl',c2,BJ,at5]
  .simp[h1,h2,BJ]
def Kl(c:Int):List Int:=BJ ((rowOf c 7 10).take 6) ((rowOf c 7 10).getD 6 0)
theorem Rj{α:Type}(l:List α)(n:Nat):Rf.cutD l none (some (n:Int))=l.take n:=by unfold Rf.cutD;rw[HT.sIx_nat];simp[HT.sIx]
theorem Kh{α:Type}(l:List α)(n:Nat):Rf.cutD l (some (n:Int)) none=l.drop n:=by
 unfold Rf.cutD;rw[HT.sIx_nat];simp[HT.sIx];by_cases h:n<=l.length
 .rw[Nat.min_eq_left h];exact List.take_of_length_le (by simp)
 .rw[Nat.min_eq_right (by omega),List.drop_eq_nil_of_le (by omega),List.drop_eq_nil_of_le (by omega)];simp
theorem Z9(l:List Int)(n:Nat)(h:n<l.length):atI (l.map PyData.int) (n:Int)=some (.int (l.getD n 0)):=atI_nat (by simp[h])
theorem agg(M:Mo)(c:Int):Ko M [.int c]=.ok (aH (Kl c)):=by
 unfold Ko adX;have h1:uf M [.int c,.int 7,.int 10]=.ok (.list ((rowOf c 7 10).map .int)):=Ub M c 7 10 (by decide) (by decide) (by decide);have h2:Rf.cutD ((rowOf c 7 10).map PyData.int) none (some 6)=((rowOf c 7 10).take 6).map PyData.int:=by rw[show(6:Int)=((6:Nat):Int) from rfl,Rj,List.map_take]
 have h3:atI ((rowOf c 7 10).map PyData.int) 6=some (.int ((rowOf c 7 10).getD 6 0)):=Z9 _ 6 (by simp);have h4:vU M [.list (((rowOf c 7 10).take 6).map .int),.int ((rowOf c 7 10).getD 6 0)]=.ok (.tuple ((Kl c).map .int)):=XJ M _ _ (by simp);generalize (rowOf c 7 10).getD 6 0=z at h3 h4;generalize ((rowOf c 7 10).take 6).map PyData.int=y at h2 h4;simp[h1,h2,h3,h4]
theorem N8(c:Int):(Kl c).length=6:=by
 unfold Kl BJ;split
 .simp
 .split<;>simp
theorem ag3{l:List Int}{m:Int}(h:∀x∈l,0<=x/\x<10):∀x∈BJ l m,0<=x/\x<10:=by
 unfold BJ RJ;split
 .intro x hx;obtain⟨y,hy,rfl⟩:=atM.mp hx;have:=h y hy
  split<;>omega
 .split
  .intro x hx;obtain⟨y,hy,rfl⟩:=atM.mp hx;have:=h y hy;omega
  .exact h
mutual
def lk:Nat->Dat->Bool
 |_,.none=>true
 |_,.bool _=>true
 |_,.int _=>true
 |_,.str _=>true
 |n+1,.list ds=>xJ n ds
 |n+1,.tuple ds=>xJ n ds
 |0,.list _=>false
 |0,.tuple _=>false
 |_,.dict _=>false
def xJ:Nat->List Dat->Bool
 |_,[]=>true
 |n,d::ds=>lk n d&&xJ n ds
end
theorem uM{n:Nat}:∀{ds:List Dat},xJ n ds=true↔∀d∈ds,lk n d=true
 |[]=>by simp[xJ]
 |d::ds=>by simp[xJ,uM (ds:=ds)]
@[simp]theorem ahO (n:Nat) (l:List Int):xJ n (l.map PyData.int)=true:=uM.mpr λd h=>by
 obtain⟨i,_,rfl⟩:=atM.mp h;simp[lk]
theorem Pq(M:Mo)(i:Int):Ah M [.int i]=.ok (.bool true):=by unfold Ah Vu;simp[wY,yK]
theorem zip_self(ds:List Dat):yX ds ds=ds.map λd=>.tuple [d,d]:=by unfold yX;rw[List.zipWith_self]
theorem O7(M:Mo)(r:Mo->List Dat->Out Dat)(x0 x1:Option Cell):∀(ds:List Dat) (x2 x3:Option Cell),(∀d∈ds,r M [d,d]=.ok (.bool true))->∃x2' x3',dX (bB [2,3]) (R9 r) (ds.map λd=>PyData.tuple [d,d]) M [x0,x1,x2,x3]=.next [x0,x1,x2',x3'] M
 |[],x2,x3,_=>⟨x2,x3,rfl⟩
 |d::ds,x2,x3,h=>by
  obtain⟨x2',x3',ih⟩:=O7 M r x0 x1 ds (some (.dat d)) (some (.dat d)) λd hd=>h d (atA _ hd);refine⟨x2',x3',?_⟩;have hd:=h d atD;rw[atE,fD (Z1:=[x0,x1,some (.dat d),some (.dat d)]) (by simp) (Z2:=[x0,x1,some (.dat d),some (.dat d)]) (M2:=M) (by simp[R9,hd])];exact ih
theorem JV(M:Mo):∀(n:Nat) (d:Dat),lk n d=true->jx (n+1) M [d,d]=.ok (.bool true):=by
 intro n
 induction n with
 |zero=>
  intro d h;show mQ 4 (Iw (jx 0)) M [d,d]=_;unfold Iw;cases d with
  |none=>simp[jE]
  |bool b=>cases b<;>simp[jE]
  |int i=>simp[jE,wY,yK,Pq]
  |str x=>simp[jE,wY,yK]
  |list ds=>simp[lk]at h
  |tuple ds=>simp[lk]at h
  |dict kv=>simp[lk]at h
 |succ n ih=>
  intro d h;show mQ 4 (Iw (jx (n+1))) M [d,d]=_;unfold Iw;cases d with
  |none=>simp[jE]
  |bool b=>cases b<;>simp[jE]
  |int i=>simp[jE,wY,yK,Pq]
  |str x=>simp[jE,wY,yK]
  |list ds=>
   rw[lk,uM]at h;obtain⟨x2',x3',e⟩:=O7 M (jx (n+1)) (some (.dat (.list ds))) (some (.dat (.list ds))) ds none none λd hd=>ih d (h d hd);simp[jE,wY,yK,zip_self,e]
  |tuple ds=>
   rw[lk,uM]at h;obtain⟨x2',x3',e⟩:=O7 M (jx (n+1)) (some (.dat (.tuple ds))) (some (.dat (.tuple ds))) ds none none λd hd=>ih d (h d hd);simp[jE,wY,yK,zip_self,e]
  |dict kv=>simp[lk]at h
inductive En where
 |torn (p:Nat)|cut (e:List Int)|sold (o:Int) (e:List Int)|moved (g:Int)|followed (o g:Int)|passed (o:Int)|died
def En.dat:En->Dat
 |.torn p=>.tuple [.str "torn",.int p]
 |.cut e=>.tuple [.str "cut",aH e]
 |.sold o e=>.tuple [.str "sold",.int o,aH e]
 |.moved g=>.tuple [.str "moved",.int g]
 |.followed o g=>.tuple [.str "followed",.int o,.int g]
 |.passed o=>.tuple [.str "passed",.int o]
 |.died=>.tuple [.str "died"]
inductive Fi where
 |brought (o g:Int) (e:List Int)|born (m o g:Int)
def Fi.dat:Fi->Dat
 |.brought o g e=>.tuple [.str "brought",.int o,.int g,aH e]
 |.born m o g=>.tuple [.str "born",.int m,.int o,.int g]
structure Sd where
 o:Int
 g:Int
 due:Option (List Int)
 ear:List Int
 al:Bool
def mF:Option (List Int)->Dat
 |none=>.none
 |some e=>aH e
def Sd.dat(s:Sd):Dat:=.tuple [.int s.o,.int s.g,mF s.due,aH s.ear,.bool s.al]
def zu(l:List Int)(p:Nat):List Int:=l.mapIdx λi x=>if i=p then x+1 else x
def go(s:Sd):En->Sd
 |.torn p=>{ s with ear:=zu s.ear p }
 |.cut e=>{ s with due:=some e,ear:=e }
 |.sold o e=>{ s with o:=o,due:=some e,ear:=e }
 |.moved g=>{ s with g:=g }
 |.followed o g=>{ s with o:=o,g:=g }
 |.passed o=>{ s with o:=o }
 |.died=>{ s with al:=false }
def beg:Fi->Sd
 |.brought o g e=>⟨o,g,none,e,true⟩
 |.born _ o g=>⟨o,g,none,[0,0,0,0,0,0],true⟩
theorem ahq(M:Mo)(f:Fi):Ei M [f.dat]=.ok (beg f).dat:=by cases f<;>simp[Ei,Qs,Fi.dat,beg,Sd.dat,mF,jQ]
theorem abK(M:Mo)(l:List Int)(p:Nat)(hl:l.length<=1000):zV M [aH l,.int p]=.ok (aH (zu l p)):=by
 unfold zV Kz;have c:pJ 0 (l.map PyData.int)=(l.mapIdx λi x=>(i,x)).map λ(q:Nat×Int)=>PyData.tuple [.int q.1,.int q.2]:=by unfold pJ;rw[List.mapIdx_eq_mapIdx_iff.mpr (λi h=>rfl)];apply at9;intro i;simp;cases l[i]?<;>simp
 have c2:=fG (tg:=bB [2,3]) (te:=O2 (aW (aA bR (ao 2) (ao 1))) (aA dZ (ao 3) (qC (.int 1))) (aq 3)) (M:=M) (Z:=[some (.dat (aH l)),some (.dat (.int p)),none,none]) (λ(q:Nat×Int)=>PyData.tuple [.int q.1,.int q.2]) (λq=>.int (if q.1=p then q.2+1 else q.2)) (l.mapIdx λi x=>(i,x)) λx _=>⟨[some (.dat (aH l)),some (.dat (.int p)),some (.dat (.int x.1)),some (.dat (.int x.2))],by simp,by
  by_cases h:x.1=p
  .simp[h]
  .have h':¬((x.1:Int)=p):=by omega
   simp[h,h']⟩
 have hl':l.length<=50000:=by omega
 simp[c,c2,hl',zu];apply at9;intro i;simp;cases l[i]?<;>simp
theorem adx(l:List Int)(p:Nat):(zu l p).length=l.length:=by simp[zu]
theorem gone_ok(M:Mo)(s:Sd)(e:En)(hl:s.ear.length<=1000):CJ M [s.dat,e.dat]=.ok (go s e).dat:=by have h:=λp=>abK M s.ear p hl;cases e<;>simp[CJ,Nr,En.dat,go,Sd.dat,mF,h]
abbrev Row3:=Int×Int×List Int
def iI(r:Row3):Dat:=.tuple [.int r.1,.int r.2.1,aH r.2.2]
structure dB where
 fi:Fi
 en:List En
 mo:Int
 sd:Sd
structure aM where
 count:Int
 own:List Int
 al:List Int
 ci:List (List Int)
 held:List Row3
 bs:List dB
structure Lay where
 c:Nat
 g:Nat
 r:Nat
 h:Nat
 bs:List Nat
 fr:List (Nat×Inst)
def aO(L:Lay)(c:aM):Inst:=⟨"Commons",[("owner_count",.dat (.int c.count)),("holders",.dic false (c.own.map λo=>(.int o,.bool true))),("grounds",.dat (ob L.g)),("rights",.dat (ob L.r)),("herd",.dat (ob L.h))]⟩
def dD(n m:Nat)(c:aM):Inst:=⟨"Grounds",[("allowances",.lst n (c.al.map PyData.int)),("circles",.lst m (c.ci.map aH))]⟩
def pZ(c:aM):Inst:=⟨"Rights",[("held",.dic true (c.held.map λr=>(iI r,.bool true)))]⟩
def dY(n:Nat)(L:Lay):Inst:=⟨"Herd",[("beasts",.lst n (L.bs.map ob))]⟩
def iB(n:Nat)(b:dB):Inst:=⟨"Beast",[("story",.lst n (b.fi.dat::b.en.map En.dat)),("mother",.dat (.int b.mo)),("owner",.dat (.int b.sd.o)),("ground",.dat (.int b.sd.g)),("due",.dat (mF b.sd.due)),("ear",.dat (aH b.sd.ear)),("alive",.dat (.bool b.sd.al))]⟩
structure At(M:Mo)(L:Lay)(c:aM):Prop where
 hc:M[L.c]?=some (aO L c)
 hg:∃n m,M[L.g]?=some (dD n m c)
 hr:M[L.r]?=some (pZ c)
 hh:∃n,M[L.h]?=some (dY n L)
 len:L.bs.length=c.bs.length
 hb:∀(i h:Nat) (b:dB),L.bs[i]?=some h->c.bs[i]?=some b->∃n,M[h]?=some (iB n b)
 nd:(L.c::L.g::L.r::L.h::L.bs).Nodup
 fr:∀p∈L.fr,M[p.1]?=some p.2/\p.1∉L.c::L.g::L.r::L.h::L.bs
section
variable{M:Mo}{L:Lay}{c:aM}(a:At M L c)
include a
theorem adf:rO M [ob L.g]=.ok (.int c.al.length):=by obtain⟨n,m,hg⟩:=a.hg;simp[rO,wD,hg,dD]
theorem alx(g:Int):yd M [ob L.g,.int g]=.ok (.bool (decide (1<=g/\g<=c.al.length))):=by obtain⟨n,m,hg⟩:=a.hg;have:=adf a;by_cases h:1<=g<;>simp[yd,Di,hg,dD,this,fM,h]
end
@[simp]theorem ahM {α:Type} (l:List α) (n:Nat):atI l (n:Int)=l[n]?:=by
 cases h:l[n]? with
 |some a=>exact atI_nat h
 |none=>
  have hl:=List.getElem?_eq_none_iff.mp h;unfold atI ixN;rw[au5 (by omega),au6 (by omega)];rfl
abbrev Vg(c:aM)(x:Int):Prop:=1<=x/\x<=c.al.length
theorem uH{c:aM}{x:Int}(h:Vg c x):∃k:Nat,k<c.al.length/\x=(k:Int)+1:=⟨(x-1).toNat,by omega,by omega⟩
structure dG(c:aM):Prop where
 len:c.ci.length=c.al.length
 few:c.al.length<=200
 al:∀x∈c.al,0<=x/\x<=9
 mem:∀(k:Nat) (l:List Int),c.ci[k]?=some l->∀y∈l,Vg c y
 own:∀(k:Nat) (l:List Int),c.ci[k]?=some l->(k:Int)+1∈l
 up:∀(k:Nat) (l:List Int),c.ci[k]?=some l->l.Pairwise (· < ·)
 one:∀(k j:Nat) (l:List Int),c.ci[k]?=some l->(j:Int)+1∈l->c.ci[j]?=some l
def aJ(c:aM)(x:Int):List Int:=(c.ci[(x-1).toNat]?).getD []
def m9(c:aM)(x:Int):Int:=(c.al[(x-1).toNat]?).getD 0
def aes:List Int->Int
 |[]=>0
 |n::ns=>Ij n ns
def roomOf(c:aM)(x:Int):Int:=aes ((aJ c x).map (m9 c))
theorem aeC:∀{l:List Int} {lo hi:Int},l.Pairwise (· < ·)->(∀y∈l,lo<=y/\y<=hi)->(l.length:Int)<=max 0 (hi-lo+1)
 |[],_,_,_,_=>by simp;omega
 |x::l,lo,hi,h,hb=>by
  rw[List.pairwise_cons]at h;have:=aeC (lo:=x+1) (hi:=hi) h.2 λy hy=>⟨by have:=h.1 y hy;omega,(hb y (atA _ hy)).2⟩;have:=hb x atD;simp;omega
theorem maxD_ints{l:List Int}(h:l≠[]):maxD (.list (l.map PyData.int))=.ok (.int (aes l)):=by
 cases l with
 |nil=>exact absurd rfl h
 |cons n ns=>
  show(match intsOf ((n::ns).map PyData.int) with
   |some (n::ns)=>Out.ok (PyData.int (Ij n ns))
   |_=>Out.bad)=_
  rw[nR];rfl
theorem dG.clen{c:aM}(i:dG c){k:Nat}{l:List Int}(h:c.ci[k]?=some l):l.length<=200:=by have:=aeC (lo:=1) (hi:=c.al.length) (i.up k l h) λy hy=>i.mem k l h y hy;have:=i.few;omega
section
variable{M:Mo}{L:Lay}{c:aM}(a:At M L c)
include a
theorem rK(x:Int):wB M [ob L.g,.int x]=if Vg c x then .ok .none else .exc ⟨"NoGround",[]⟩:=by obtain⟨n,m,hg⟩:=a.hg;have:=alx a x;by_cases h:Vg c x<;>simp[wB,Bl,hg,dD,this,Bj,h]
theorem Pg(x:Int):lA M [ob L.g,.int x]=if Vg c x then .ok (.int (m9 c x)) else .exc ⟨"NoGround",[]⟩:=by
 obtain⟨n,m,hg⟩:=a.hg;have hn:=rK a x;by_cases h:Vg c x
 .obtain⟨k,hk,rfl⟩:=uH h;rw[au5 h]at hn |-
  simp[lA,pQ,hg,dD,hn,aG,m9,hk]
 .rw[au6 h]at hn |-
  simp[lA,pQ,hg,dD,hn,aG]
theorem xM(i:dG c)(x:Int):lZ M [ob L.g,.int x]=if Vg c x then .ok (lI (aJ c x)) else .exc ⟨"NoGround",[]⟩:=by
 obtain⟨n,m,hg⟩:=a.hg;have hn:=rK a x;by_cases h:Vg c x
 .obtain⟨k,hk,rfl⟩:=uH h;have hk':k<c.ci.length:=by rw[i.len];exact hk
  rw[au5 h]at hn |-
  simp[lZ,qR,hg,dD,hn,aG,aJ,hk']
 .rw[au6 h]at hn |-
  simp[lZ,qR,hg,dD,hn,aG]
theorem ake(i:dG c)(x:Int):sG M [ob L.g,.int x]=if Vg c x then .ok (.int (roomOf c x)) else .exc ⟨"NoGround",[]⟩:=by
 obtain⟨n,m,hg⟩:=a.hg;have hn:=xM a i x;by_cases h:Vg c x
 .rw[au5 h]at hn |-
  obtain⟨k,hk,rfl⟩:=uH h;have hk':k<c.ci.length:=by rw[i.len];exact hk
  have hc:c.ci[k]?=some (aJ c ((k:Int)+1)):=by simp[aJ,hk']
  unfold roomOf;generalize aJ c ((k:Int)+1)=l at hc hn |-
  have hl:l.length<=50000:=by have:=i.clen hc;omega
  have hne:l.map (m9 c)≠[]:=λz=>by
   have:=i.own k l hc;rw[List.map_eq_nil_iff.mp z]at this;cases this
  have key:=fG (tg:=aF 2) (te:=aV eO (ao 0) (aj (aq 2) au)) (M:=M) (Z:=[some (.dat (ob L.g)),some (.dat (.int ((k:Int)+1))),none]) PyData.int (λy=>.int (m9 c y)) l λy hy=>⟨[some (.dat (ob L.g)),some (.dat (.int ((k:Int)+1))),some (.dat (.int y))],by simp,by
   have:=Pg a y;rw[au5 (i.mem k l hc y hy)]at this;simp[hg,dD,eO,this]⟩
  simp[sG,wU,hg,dD,hn,bK,key,hl];have:=maxD_ints hne;rw[aua]at this;simp[at5]at this |-
  simp[this]
 .rw[au6 h]at hn |-
  simp[sG,wU,hg,dD,hn,bK]
end
theorem bM{M:Mo}{h k:Nat}{i j:Inst}(hm:M[h]?=some j):(M.set h i)[k]?=if h=k then some i else M[k]?:=by
 have hl:h<M.length:=(aty.mp hm).1;rw[auE];by_cases e:h=k
 .subst e;rw[au5 rfl,au5 hl,au5 rfl]
 .rw[au6 e,au6 e]
theorem At.neq{M:Mo}{L:Lay}{c:aM}(a:At M L c):L.c≠L.g/\L.c≠L.r/\L.c≠L.h/\L.g≠L.r/\L.g≠L.h/\L.r≠L.h/\(∀x∈L.bs,L.c≠x/\L.g≠x/\L.r≠x/\L.h≠x)/\L.bs.Nodup:=by have nd:=a.nd;simp only[auC,atO,not_or]at nd;obtain⟨⟨n1,n2,n3,n4⟩,⟨n5,n6,n7⟩,⟨n8,n9⟩,n10,n11⟩:=nd;exact⟨n1,n2,n3,n5,n6,n8,λx hx=>⟨λz=>n4 (z ▸ hx),λz=>n7 (z ▸ hx),λz=>n9 (z ▸ hx),λz=>n10 (z ▸ hx)⟩,n11⟩
theorem At.frS{M:Mo}{L:Lay}{c:aM}(a:At M L c){h:Nat}{i j:Inst}(hm:M[h]?=some j)(hh:h∈L.c::L.g::L.r::L.h::L.bs):∀p∈L.fr,(M.set h i)[p.1]?=some p.2/\p.1∉L.c::L.g::L.r::L.h::L.bs:=λp hp=>by
 obtain⟨h1,h2⟩:=a.fr p hp;refine⟨?_,h2⟩;rw[bM hm,au6 (λ(z:h=p.1)=>h2 (z ▸ hh))];exact h1
theorem At.setG{M:Mo}{L:Lay}{c:aM}(a:At M L c){al:List Int}{ci:List (List Int)}{n m:Nat}:At (M.set L.g (dD n m { c with al:=al,ci:=ci })) L { c with al:=al,ci:=ci }:=by
 obtain⟨n',m',hg⟩:=a.hg;obtain⟨e1,e2,e3,e4,e5,e6,e7,e8⟩:=a.neq;have e1':=Ne.symm e1;refine⟨?_,⟨n,m,?_⟩,?_,?_,a.len,λi h b h1 h2=>?_,a.nd,a.frS hg (by simp)⟩
 .rw[bM hg,au6 e1'];exact a.hc
 .rw[bM hg,au5 rfl]
 .rw[bM hg,au6 e4];exact a.hr
 .rw[bM hg,au6 e5];exact a.hh
 .rw[bM hg,au6 (e7 h (atG h1)).2.1];exact a.hb i h b h1 h2
theorem At.agK{M:Mo}{L:Lay}{c:aM}(a:At M L c){held:List Row3}:At (M.set L.r (pZ { c with held:=held })) L { c with held:=held }:=by
 obtain⟨e1,e2,e3,e4,e5,e6,e7,e8⟩:=a.neq;have e2':=Ne.symm e2;have e4':=Ne.symm e4;have hr:=a.hr;refine⟨?_,?_,?_,?_,a.len,λi h b h1 h2=>?_,a.nd,a.frS hr (by simp)⟩
 .rw[bM hr,au6 e2'];exact a.hc
 .rw[bM hr,au6 e4'];exact a.hg
 .rw[bM hr,au5 rfl]
 .rw[bM hr,au6 e6];exact a.hh
 .rw[bM hr,au6 (e7 h (atG h1)).2.2.1];exact a.hb i h b h1 h2
theorem At.setC{M:Mo}{L:Lay}{c:aM}(a:At M L c){n:Int}{own:List Int}:At (M.set L.c (aO L { c with count:=n,own:=own })) L { c with count:=n,own:=own }:=by
 obtain⟨e1,e2,e3,e4,e5,e6,e7,e8⟩:=a.neq;have hc:=a.hc;refine⟨?_,?_,?_,?_,a.len,λi h b h1 h2=>?_,a.nd,a.frS hc (by simp)⟩
 .rw[bM hc,au5 rfl]
 .rw[bM hc,au6 e1];exact a.hg
 .rw[bM hc,au6 e2];exact a.hr
 .rw[bM hc,au6 e3];exact a.hh
 .rw[bM hc,au6 (e7 h (atG h1)).1];exact a.hb i h b h1 h2
theorem At.setB{M:Mo}{L:Lay}{c:aM}(a:At M L c){k h n:Nat}{b':dB}(hk:L.bs[k]?=some h):At (M.set h (iB n b')) L { c with bs:=c.bs.set k b' }:=by
 obtain⟨e1,e2,e3,e4,e5,e6,e7,e8⟩:=a.neq;have hl:k<c.bs.length:=by rw[<-a.len];exact(aty.mp hk).1
 obtain⟨n0,hb⟩:=a.hb k h _ hk (atz hl);obtain⟨q1,q2,q3,q4⟩:=e7 h (atG hk);refine⟨?_,?_,?_,?_,by simp[a.len],λi h2 b h3 h4=>?_,a.nd,a.frS hb (by simp[atG hk])⟩
 .rw[bM hb,au6 (Ne.symm q1)];exact a.hc
 .rw[bM hb,au6 (Ne.symm q2)];exact a.hg
 .rw[bM hb,au6 (Ne.symm q3)];exact a.hr
 .rw[bM hb,au6 (Ne.symm q4)];exact a.hh
 .by_cases e:i=k
  .subst e;rw[hk]at h3;cases h3;have h4:(c.bs.set i b')[i]?=some b:=h4;rw[atX hl]at h4;cases h4;exact⟨n,by rw[bM hb,au5 rfl]⟩
  .have h4:(c.bs.set k b')[i]?=some b:=h4;rw[atH (Ne.symm e)]at h4;have ne:h≠h2:=λz=>by
    subst z;exact e ((List.getElem?_inj (aty.mp h3).1 e8).mp (h3.trans hk.symm))
   rw[bM hb,au6 ne];exact a.hb i h2 b h3 h4
theorem At.apG{M:Mo}{L:Lay}{c:aM}(a:At M L c){M2:Mo}{h n n2:Nat}{b:dB}(hh:M.length<=h)(hM:∀k,k<M.length->M2[k]?=M[k]?)(hb:M2[h]?=some (iB n b)):At (M2.set L.h (dY n2 { L with bs:=L.bs++[h] })) { L with bs:=L.bs++[h] } { c with bs:=c.bs++[b] }:=by
 obtain⟨e1,e2,e3,e4,e5,e6,e7,e8⟩:=a.neq;have lt:∀{k:Nat} {i:Inst},M[k]?=some i->k<M.length:=λz=>(aty.mp z).1;obtain⟨n0,m0,hg⟩:=a.hg;obtain⟨n1,hh1⟩:=a.hh;have l1:=lt a.hc;have l2:=lt hg;have l3:=lt a.hr;have l4:=lt hh1;have lb:∀x∈L.bs,x<M.length:=λx hx=>by
  obtain⟨i,hi,e⟩:=List.mem_iff_getElem.mp hx;obtain⟨n',z⟩:=a.hb i x _ (by rw[atz hi,e]) (atz (by rw[<-a.len];exact hi));exact lt z
 have g4:M2[L.h]?=some (dY n1 L):=by rw[hM _ l4];exact hh1
 refine⟨?_,⟨n0,m0,?_⟩,?_,⟨n2,?_⟩,by simp[a.len],λi h2 b2 h3 h4=>?_,?_,λp hp=>?_⟩
 .show(M2.set L.h _)[L.c]?=_
  rw[bM g4,au6 (Ne.symm e3),hM _ l1];exact a.hc
 .show(M2.set L.h _)[L.g]?=_
  rw[bM g4,au6 (Ne.symm e5),hM _ l2];exact hg
 .show(M2.set L.h _)[L.r]?=_
  rw[bM g4,au6 (Ne.symm e6),hM _ l3];exact a.hr
 .show(M2.set L.h _)[L.h]?=_
  rw[bM g4,au5 rfl]
 .have h3:(L.bs++[h])[i]?=some h2:=h3;have h4:(c.bs++[b])[i]?=some b2:=h4;by_cases hi:i<L.bs.length
  .rw[atN hi]at h3;rw[atN (by rw[<-a.len];exact hi)]at h4;have m:=atG h3;rw[bM g4,au6 (e7 h2 m).2.2.2,hM _ (lb h2 m)];exact a.hb i h2 b2 h3 h4
  .rw[atZ (by omega)]at h3;rw[atZ (by rw[<-a.len];omega),<-a.len]at h4;have e0:i-L.bs.length=0:=by
    have:=(aty.mp h3).1;simp at this;omega
   rw[e0]at h3 h4;cases h3;cases h4;exact⟨n,by rw[bM g4,au6 (by omega)];exact hb⟩
 .have nd:=a.nd
  show(L.c::L.g::L.r::L.h::(L.bs++[h])).Nodup
  have:(L.c::L.g::L.r::L.h::(L.bs++[h]))=(L.c::L.g::L.r::L.h::L.bs)++[h]:=by simp
  rw[this,auv];refine⟨nd,by simp,λx hx y hy=>?_⟩;rw[atF.mp hy];rcases atO.mp hx with rfl|hx
  .omega
  rcases atO.mp hx with rfl|hx
  .omega
  rcases atO.mp hx with rfl|hx
  .omega
  rcases atO.mp hx with rfl|hx
  .omega
  have:=lb x hx;omega
 .obtain⟨h1,h2⟩:=a.fr p hp;have hl:=lt h1;refine⟨?_,?_⟩
  .show(M2.set L.h _)[p.1]?=_
   rw[bM g4,au6 (λ(z:L.h=p.1)=>h2 (by simp[<-z])),hM _ hl];exact h1
  .show p.1∉L.c::L.g::L.r::L.h::(L.bs++[h]);intro z;have:p.1∈(L.c::L.g::L.r::L.h::L.bs)++[h]:=by simpa using z
   rcases atL.mp this with z|z
   .exact h2 z
   .rw[atF]at z;omega
section
variable{M:Mo}{L:Lay}{c:aM}(a:At M L c)
include a
theorem YS(i:dG c)(hf:c.al.length<200)(x:Int):if 0<=x/\x<=9 then ∃M',fW M [ob L.g,.int x]=.ok (.int (c.al.length+1)) M'/\At M' L { c with al:=c.al++[x],ci:=c.ci++[[(c.al.length:Int)+1]] } else fW M [ob L.g,.int x]=.exc ⟨"BadAllowance",[]⟩ M:=by
 obtain⟨n,m,hg⟩:=a.hg;have hl:∀i,(M.set L.g i)[L.g]?=some i:=λi=>by rw[bM hg,au5 rfl]
 by_cases h:0<=x/\x<=9
 .rw[au5 h];refine⟨_,?_,a.setG (n:=n) (m:=m)⟩;have h2:c.ci.length<100000:=by rw[i.len];omega
  have h3:c.al.length<100000:=by omega
  simp[fW,j6,rO,wD,fM,hg,dD,hl,h,iK,h2,h3];rfl
 .rw[au6 h];have:decide (0<=x)=true->decide (x<=9)=false:=by simp;omega
  by_cases h0:0<=x
  .have h9:¬x<=9:=by omega
   simp[fW,j6,iK,h0,h9]
  .simp[fW,j6,iK,h0]
end
def encl(ci:List (List Int))(l:List Int):List (List Int):=l.foldl (λs y=>s.set (y-1).toNat l) ci
theorem yC(l:List Int):∀(k:List Int) (ci:List (List Int)),(k.foldl (λs y=>s.set (y-1).toNat l) ci).length=ci.length
 |[],_=>rfl
 |y::k,ci=>by rw[auJ,yC l k];simp
@[simp]theorem apr (n k:Nat):ixN n (k:Int)=if k<n then some k else none:=by
 unfold ixN;rw[au5 (by omega)];by_cases h:k<n
 .rw[au5 (by omega),au5 h];simp
 .rw[au6 (by omega),au6 h]
section
variable{M:Mo}{L:Lay}{c:aM}{n m:Nat}(hg:M[L.g]?=some (dD n m c))
include hg
theorem Xo(l:List Int):∀(k:List Int) (s:List (List Int)) (o:Option Cell),(∀y∈k,1<=y/\y<=s.length)->
  ∃o',dX (aF 3) uR (k.map PyData.int) (M.set L.g (dD n m { c with ci:=s })) [some (.dat (ob L.g)),some (.dat (lI l)),some (.dat (aH l)),o]=.next [some (.dat (ob L.g)),some (.dat (lI l)),some (.dat (aH l)),o'] (M.set L.g (dD n m { c with ci:=k.foldl (λs y=>s.set (y-1).toNat l) s }))
 |[],s,o,_=>⟨o,rfl⟩
 |y::k,s,o,h=>by
  have hl:∀i,(M.set L.g i)[L.g]?=some i:=λi=>by rw[bM hg,au5 rfl]
  obtain⟨j,hj,rfl⟩:∃j:Nat,j<s.length/\y=(j:Int)+1:=⟨(y-1).toNat,by have:=h y atD;omega,by have:=h y atD;omega⟩;obtain⟨o',ih⟩:=Xo l k (s.set j l) (some (.dat (.int ((j:Int)+1)))) λz hz=>by
   have:=h z (atA _ hz);simpa using this
  refine⟨o',?_⟩;rw[atE,fD (Z1:=[some (.dat (ob L.g)),some (.dat (lI l)),some (.dat (aH l)),some (.dat (.int ((j:Int)+1)))]) (M2:=M.set L.g (dD n m { c with ci:=s.set j l })) (Z2:=[some (.dat (ob L.g)),some (.dat (lI l)),some (.dat (aH l)),some (.dat (.int ((j:Int)+1)))]) (by simp) (by simp[uR,hl,dD,hj,List.map_set]),ih];simp
end
theorem aaM{M:Mo}{h:Nat}{i:Inst}(e:M[h]?=some i):M.set h i=M:=by
 apply at9;intro k;rw[bM e];split
 .next z=>rw[<-z,e]
 .rfl
section
variable{M:Mo}{L:Lay}{c:aM}(a:At M L c)
include a
theorem Ly(l:List Int)(h:∀y∈l,1<=y/\y<=c.ci.length):∃M',nM M [ob L.g,lI l]=.ok (lI l) M'/\At M' L { c with ci:=encl c.ci l }:=by obtain⟨n,m,hg⟩:=a.hg;obtain⟨o',key⟩:=Xo hg l l c.ci none h;have e:(dD n m { c with ci:=c.ci })=dD n m c:=rfl;rw[e,aaM hg]at key;refine⟨_,?_,a.setG (n:=n) (m:=m) (al:=c.al)⟩;simp[nM,xH,key,encl]
end
theorem any_ints(y:Int)(l:List Int):((l.map PyData.int).any λd=>PyData.eqv d (.int y))=decide (y∈l):=by
 induction l with
 |nil=>simp
 |cons x l ih=>
  rw[atE,auF,ih,Zv];by_cases h:x=y
  .simp[h]
  .have:¬y=x:=λz=>h z.symm;simp[h,this]
theorem Eb(neg:Bool)(y:Int)(l:List Int):inD neg (.int y) (lI l)=.ok (.bool (neg ^^ decide (y∈l))):=by
 show(Out.when (okd 12 (.int y)&&lJ 12 (l.map PyData.int)) (.ok ((l.map PyData.int).any λz=>PyData.eqv z (.int y)))).bind _=_
 rw[any_ints,aj0,Xx];rfl
section
variable{M:Mo}{L:Lay}{c:aM}(a:At M L c)
include a
theorem adI(i:dG c)(x y:Int)(hx:Vg c x)(hy:Vg c y):if y∈aJ c x then jY M [ob L.g,.int x,.int y]=.exc ⟨"Together",[]⟩ M else
  ∃M',jY M [ob L.g,.int x,.int y]=.ok (lI (sortI (aJ c x++aJ c y))) M'/\At M' L { c with ci:=encl c.ci (sortI (aJ c x++aJ c y)) }:=by
 have t1:=xM a i x;have t2:=xM a i y;rw[au5 hx]at t1;rw[au5 hy]at t2;obtain⟨n,m,hg⟩:=a.hg;have hcx:c.ci[(x-1).toNat]?=some (aJ c x):=by
  obtain⟨k,hk,rfl⟩:=uH hx;have hk':k<c.ci.length:=by rw[i.len];exact hk
  simp[aJ,hk']
 have hcy:c.ci[(y-1).toNat]?=some (aJ c y):=by
  obtain⟨k,hk,rfl⟩:=uH hy;have hk':k<c.ci.length:=by rw[i.len];exact hk
  simp[aJ,hk']
 by_cases h:y∈aJ c x
 .rw[au5 h];simp[jY,u5,hg,dD,bK,t1,t2,Eb,h]
 .rw[au6 h];have hm:∀z∈sortI (aJ c x++aJ c y),1<=z/\z<=c.ci.length:=λz hz=>by
   unfold sortI at hz;rw[List.mem_mergeSort,atL]at hz;rw[i.len];rcases hz with hz|hz
   .exact i.mem _ _ hcx z hz
   .exact i.mem _ _ hcy z hz
  obtain⟨M',h1,h2⟩:=Ly a _ hm;refine⟨M',?_,h2⟩;have l1:=i.clen hcx;have l2:=i.clen hcy;have hs:Bw (lI (aJ c x++aJ c y))=.ok (lI (sortI (aJ c x++aJ c y))):=by
   show(match intsOf ((aJ c x++aJ c y).map PyData.int) with
    |some l=>Out.ok (PyData.list ((sortI l).map PyData.int))
    |none=>_)=_
   rw[nR]
  have hz:(aJ c x).length+(aJ c y).length<=100000:=by omega
  have hs:Bw (.list ((aJ c x).map PyData.int++(aJ c y).map PyData.int))=.ok (lI (sortI (aJ c x++aJ c y))):=by rw[<-List.map_append];exact hs
  simp[jY,u5,hg,dD,bK,iG,t1,t2,Eb,h,hz,hs,h1]
theorem af6(i:dG c)(x:Int):if Vg c x then(if (aJ c x).filter (λy=>!(y==x))=[] then iU M [ob L.g,.int x]=.exc ⟨"Alone",[]⟩ M else
  ∃M',iU M [ob L.g,.int x]=.ok (lI ((aJ c x).filter (λy=>!(y==x)))) M'/\At M' L { c with ci:=encl (encl c.ci [x]) ((aJ c x).filter (λy=>!(y==x))) }) else iU M [ob L.g,.int x]=.exc ⟨"NoGround",[]⟩ M:=by
 have t1:=xM a i x;obtain⟨n,m,hg⟩:=a.hg;by_cases hx:Vg c x
 .rw[au5 hx]at t1 |-
  have hcx:c.ci[(x-1).toNat]?=some (aJ c x):=by
   obtain⟨k,hk,rfl⟩:=uH hx;have hk':k<c.ci.length:=by rw[i.len];exact hk
   simp[aJ,hk']
  have hl:(aJ c x).length<=50000:=by have:=i.clen hcx;omega
  have key:=gQ (tg:=aF 3) (tt:=aW (aA vX (ao 3) (ao 1))) (te:=aq 3) (M:=M) (Z:=[some (.dat (ob L.g)),some (.dat (.int x)),none,none]) PyData.int (λy=>!(y==x)) PyData.int (aJ c x) λy _=>⟨[some (.dat (ob L.g)),some (.dat (.int x)),none,some (.dat (.int y))],by simp,by simp,λ_=>by simp⟩;by_cases he:(aJ c x).filter (λy=>!(y==x))=[]
  .rw[au5 he];rw[he]at key;simp only[auG]at key;simp[iU,rM,hg,dD,bK,t1,key,hl]
  .rw[au6 he];generalize hL:(aJ c x).filter (λy=>!(y==x))=left at he key;have hm:∀z∈left,1<=z/\z<=(encl c.ci [x]).length:=λz hz=>by
    rw[<-hL,at4]at hz;unfold encl;rw[yC,i.len];exact i.mem _ _ hcx z hz.1
   obtain⟨M1,h1,a1⟩:=Ly a [x] (λz hz=>by rw[atF.mp hz,i.len];exact hx);obtain⟨M2,h2,a2⟩:=Ly a1 left hm;refine⟨M2,?_,a2⟩;obtain⟨n1,m1,hg1⟩:=a1.hg;have h1:nM M [ob L.g,.list [.int x]]=.ok (.list [.int x]) M1:=h1;have he':left.isEmpty=false:=by cases left with
    |nil=>exact absurd rfl he
    |cons _ _=>rfl
   simp[iU,rM,hg,hg1,dD,bK,iG,t1,key,hl,h1,h2,he']
 .rw[au6 hx]at t1 |-
  simp[iU,rM,hg,dD,bK,t1]
end
theorem akf(o g:Int)(m:List Int)(o' g':Int)(m':List Int):PyData.eqv (iI (o,g,m)) (iI (o',g',m'))=decide ((o,g,m)=(o',g',m')):=by simp only[iI,abA,ace,Zv,BL,ajm,Bool.and_true];by_cases h1:o=o'<;>by_cases h2:g=g'<;>by_cases h3:m=m'<;>simp[h1,h2,h3]
theorem ae8(r s:Row3):PyData.eqv (iI r) (iI s)=decide (r=s):=akf _ _ _ _ _ _
theorem Xr:∀l:List Int,zB (l.map PyData.int)=some (l.map NestedKey.num)
 |[]=>rfl
 |i::l=>by rw[atE,zB,Xr l];rfl
theorem amG(r:Row3):vJ (iI r)=some (.tup [.num r.1,.num r.2.1,.tup (r.2.2.map .num)]):=by simp[iI,vJ,zB,Xr]
theorem depth_ints:∀l:List Int,NestedKey.depthAll (l.map NestedKey.num)<=1
 |[]=>by simp[NestedKey.depthAll]
 |i::l=>by
  have:=depth_ints l;simp[NestedKey.depthAll,NestedKey.depth];omega
theorem Wh(kvs:List (Dat×Dat))(r:Row3):dhas true kvs (iI r)=.ok (kvs.any λp=>PyData.eqv p.1 (iI r)):=by
 have hk:=amG r;have hd:NestedKey.depth (.tup [.num r.1,.num r.2.1,.tup (r.2.2.map .num)])<=8:=by have:=depth_ints r.2.2;simp[NestedKey.depth,NestedKey.depthAll];omega
 show(match vJ (iI r) with
  |some k=>match decide (k.depth<=8) with
   |true=>Out.ok (kvs.any λp=>PyData.eqv p.1 (iI r))
   |false=>.bad
  |none=>.bad)=_
 rw[hk]
 show(match decide (NestedKey.depth (.tup [.num r.1,.num r.2.1,.tup (r.2.2.map .num)])<=8) with
   |true=>Out.ok (kvs.any λp=>PyData.eqv p.1 (iI r))
   |false=>.bad)=_
 rw[decide_eq_true hd]
theorem aa1(held:List Row3)(r:Row3):((held.map λr=>(iI r,PyData.bool true)).any λp=>PyData.eqv p.1 (iI r))=decide (r∈held):=by
 induction held with
 |nil=>simp
 |cons s held ih=>
  rw[atE,auF,ih,ae8];by_cases h:s=r
  .simp[h]
  .have:¬r=s:=λz=>h z.symm;simp[h,this]
def bZ(c:aM)(o g:Int):List (List Int):=(c.held.filter λr=>(r.1==o)&&(r.2.1==g)).map λr=>r.2.2
section
variable{M:Mo}{L:Lay}{c:aM}(a:At M L c)(few:c.held.length<=50000)
include a few
theorem Km(o g:Int):wO M [ob L.r,.int o,.int g]=.ok (.list ((bZ c o g).map aH)):=by
 have hr:=a.hr;have key:=gQ (tg:=bB [3,4,5]) (tt:=gH (aW (aA bR (ao 3) (ao 1))) (aW (aA bR (ao 4) (ao 2)))) (te:=aq 5) (M:=M) (Z:=[some (.dat (ob L.r)),some (.dat (.int o)),some (.dat (.int g)),none,none,none]) iI (λr=>(r.1==o)&&(r.2.1==g)) (λr=>aH r.2.2) c.held λr _=>⟨[some (.dat (ob L.r)),some (.dat (.int o)),some (.dat (.int g)),some (.dat (.int r.1)),some (.dat (.int r.2.1)),some (.dat (aH r.2.2))],by simp[iI],by
  by_cases h:r.1=o<;>simp[h],λ_=>by simp⟩
 have e:(c.held.map λr=>(iI r,PyData.bool true)).map (·.1)=c.held.map iI:=by simp
 simp[wO,Bq,hr,pZ,bZ];simp[at5,key,few]
theorem aaH(o g:Int):qG M [ob L.r,.int o,.int g]=.ok (.bool (decide (bZ c o g≠[]))):=by have hr:=a.hr;have h:=Km a few o g;simp[qG,vK,hr,pZ,cQ,h,List.length_pos_iff]
theorem YW(near:List Int):pP M [ob L.r,lI near]=.ok (.list ((c.held.filter λr=>decide (r.2.1∈near)).map λr=>Ear.rD (r.1,r.2.2))):=by have hr:=a.hr;have key:=gQ (tg:=bB [2,3,4]) (tt:=aW (aA (inD false) (ao 3) (ao 1))) (te:=bD (aj (aq 2) (aj (aq 4) au))) (M:=M) (Z:=[some (.dat (ob L.r)),some (.dat (lI near)),none,none,none]) iI (λr=>decide (r.2.1∈near)) (λr=>Ear.rD (r.1,r.2.2)) c.held λr _=>⟨[some (.dat (ob L.r)),some (.dat (lI near)),some (.dat (.int r.1)),some (.dat (.int r.2.1)),some (.dat (aH r.2.2))],by simp[iI],by simp[Eb],λ_=>by simp[Ear.rD,Ear.dT]⟩;simp[pP,uP,hr,pZ];simp[at5,key,few]
theorem abJ:rJ M [ob L.r]=.ok (.list (c.held.map iI)):=by have hr:=a.hr;simp[rJ,w6,hr,pZ,at5]
theorem Ou(o g:Int)(m:List Int):if (o,g,m)∈c.held then jL M [ob L.r,.int o,.int g,aH m]=.exc ⟨"HasRight",[]⟩ M else
  ∃M',jL M [ob L.r,.int o,.int g,aH m]=.ok .none M'/\At M' L { c with held:=c.held++[(o,g,m)] }:=by
 have hr:=a.hr;have h1:=Wh (c.held.map λr=>(iI r,PyData.bool true)) (o,g,m);rw[aa1]at h1;simp only[iI]at h1;have f2:c.held.length<100000:=by omega
 by_cases h:(o,g,m)∈c.held
 .rw[au5 h];simp[h]at h1;simp[jL,qH,hr,pZ,iI,h1]
 .rw[au6 h];refine⟨_,?_,a.agK⟩;simp[h]at h1;simp[jL,qH,hr,pZ,iI,h1,f2]
end
theorem afs(held:List Row3)(r:Row3):((held.map λr=>(iI r,PyData.bool true)).filter λp=>!PyData.eqv p.1 (iI r))=(held.filter λs=>decide (s≠r)).map λr=>(iI r,PyData.bool true):=by
 induction held with
 |nil=>rfl
 |cons s held ih=>
  simp only[atE,auq,ae8,ih];by_cases h:s=r<;>simp[h]
def Zu(o g:Int)(k:List (List Int))(s:List Row3):List Row3:=k.foldl (λs mk=>s.filter λr=>decide (r≠(o,g,mk))) s
section
variable{M:Mo}{L:Lay}{c:aM}(hr:M[L.r]?=some (pZ c))
include hr
theorem XQ(o g:Int)(all:List (List Int)):∀(k:List (List Int)) (s:List Row3) (x:Option Cell),k.Nodup->(∀mk∈k,(o,g,mk)∈s)->s.length<=50000->
  ∃x',dX (aF 4) zX (k.map aH) (M.set L.r (pZ { c with held:=s })) [some (.dat (ob L.r)),some (.dat (.int o)),some (.dat (.int g)),some (.dat (.list (all.map aH))),x]=.next [some (.dat (ob L.r)),some (.dat (.int o)),some (.dat (.int g)),some (.dat (.list (all.map aH))),x'] (M.set L.r (pZ { c with held:=Zu o g k s }))
 |[],s,x,_,_,_=>⟨x,rfl⟩
 |mk::k,s,x,nd,h,hf=>by
  have hl:∀i,(M.set L.r i)[L.r]?=some i:=λi=>by rw[bM hr,au5 rfl]
  rw[auC]at nd;have h1:=Wh (s.map λr=>(iI r,PyData.bool true)) (o,g,mk);rw[aa1,decide_eq_true (h mk atD)]at h1;have h2:=afs s (o,g,mk);have f2:s.length<=100000:=by omega
  obtain⟨x',ih⟩:=XQ o g all k (s.filter λr=>decide (r≠(o,g,mk))) (some (.dat (aH mk))) nd.2 (λz hz=>by
   rw[at4];refine⟨h z (atA _ hz),decide_eq_true λe=>?_⟩;have:z=mk:=by simpa using e
   exact nd.1 (this ▸ hz)) (at3 (atU _ _) hf)
  refine⟨x',?_⟩;rw[atE,fD (Z1:=[some (.dat (ob L.r)),some (.dat (.int o)),some (.dat (.int g)),some (.dat (.list (all.map aH))),some (.dat (aH mk))]) (M2:=M.set L.r (pZ { c with held:=s.filter λr=>decide (r≠(o,g,mk)) })) (Z2:=[some (.dat (ob L.r)),some (.dat (.int o)),some (.dat (.int g)),some (.dat (.list (all.map aH))),some (.dat (aH mk))]) (by simp) ?_,ih]
  .rfl
  .have h1':dhas true (s.map λr=>(iI r,PyData.bool true)) (.tuple [.int o,.int g,aH mk])=.ok true:=h1;have h2':((s.map λr=>(iI r,PyData.bool true)).filter λp=>!PyData.eqv p.1 (.tuple [.int o,.int g,aH mk]))=(s.filter λs=>decide (s≠(o,g,mk))).map λr=>(iI r,PyData.bool true):=h2;simp[zX,hl,pZ,h1',f2];rw[h2'];simp
end
theorem abe(o g:Int):∀(k:List (List Int)) (s:List Row3),Zu o g k s=s.filter λr=>decide (∀mk∈k,r≠(o,g,mk))
 |[],s=>(auO.mpr (by simp)).symm
 |mk::k,s=>by
  show Zu o g k (s.filter _)=_;rw[abe o g k,auP];congr 1;funext r;by_cases h1:r=(o,g,mk)<;>simp[h1]
def dropped(c:aM)(o g:Int):List Row3:=c.held.filter λr=>!((r.1==o)&&(r.2.1==g))
theorem adL(c:aM)(o g:Int):Zu o g (bZ c o g) c.held=dropped c o g:=by
 rw[abe];unfold dropped;refine List.filter_congr λr hr=>?_;obtain⟨x,y,z⟩:=r;by_cases h:x=o/\y=g
 .obtain⟨rfl,rfl⟩:=h;have:z∈bZ c x y:=by
   unfold bZ;rw[atM];exact⟨(x,y,z),by rw[at4];exact⟨hr,by simp⟩,rfl⟩
  simp;exact this
 .have e:(!((x==o)&&(y==g)))=true:=by
   by_cases h1:x=o<;>by_cases h2:y=g<;>simp_all
  have e2:∀mk∈bZ c o g,(x,y,z)≠(o,g,mk):=λmk _ z=>by
   simp at z;exact h ⟨z.1,z.2.1⟩
  rw[e,decide_eq_true e2]
theorem abM{c:aM}(h:c.held.Nodup)(o g:Int):(bZ c o g).Nodup:=by
 unfold bZ;have h1:(c.held.filter λr=>(r.1==o)&&(r.2.1==g)).Nodup:=h.filter _;unfold List.Nodup at h1 |-
 rw[List.pairwise_map];refine List.Pairwise.imp_of_mem (λ{r s} hr hs ne e=>ne ?_) h1;rw[at4]at hr hs;obtain⟨r1,r2,r3⟩:=r;obtain⟨s1,s2,s3⟩:=s;have:=hr.2;have:=hs.2;simp at *;obtain⟨rfl,rfl⟩:=hr.2;obtain⟨rfl,rfl⟩:=hs.2;exact⟨rfl,rfl,e⟩
section
variable{M:Mo}{L:Lay}{c:aM}(a:At M L c)(few:c.held.length<=50000)(nd:c.held.Nodup)
include a few nd
theorem ajK(o g:Int):if bZ c o g=[] then qp M [ob L.r,.int o,.int g]=.exc ⟨"NoRight",[]⟩ M else
  ∃M',qp M [ob L.r,.int o,.int g]=.ok (.list ((bZ c o g).map aH)) M'/\At M' L { c with held:=dropped c o g }:=by
 have hr:=a.hr;have h1:=Km a few o g;by_cases h:bZ c o g=[]
 .rw[au5 h];rw[h]at h1;simp[qp,xY,hr,pZ,cQ,h1]
 .rw[au6 h];obtain⟨x',key⟩:=XQ hr o g (bZ c o g) (bZ c o g) c.held none (abM nd o g) (λmk hm=>by
   unfold bZ at hm;rw[atM]at hm;obtain⟨⟨r1,r2,r3⟩,h3,rfl⟩:=hm;rw[at4]at h3;have:=h3.2;simp at this;obtain⟨rfl,rfl⟩:=this;exact h3.1) few
  have e:(pZ { c with held:=c.held })=pZ c:=rfl;rw[e,aaM hr,adL]at key;refine⟨_,?_,a.agK⟩;have he:(bZ c o g).isEmpty=false:=by
   cases hm:bZ c o g with
   |nil=>exact absurd hm h
   |cons _ _=>rfl
  simp[qp,xY,hr,pZ,cQ,h1,he];simp[key];rfl
end
def Ik(acc:List Row3)(r:Row3):List Row3:=if r∈acc then acc else acc++[r]
def BK(e h:Int)(r:Row3):Row3:=(if r.1=e then h else r.1,r.2.1,r.2.2)
def handed(c:aM)(e h:Int):List Row3:=(c.held.map (BK e h)).foldl Ik []
theorem ab8{tg:gj}{tk:QF}{M:Mo}{Z:Rf.Env}(f:Row3->Row3):∀(xs acc:List Row3),(∀x∈xs,∃Z1,tg (iI x) Z=some Z1/\tk M Z1=.ok (iI (f x)))->HS tg tk M Z (xs.map iI) (acc.map λr=>(iI r,PyData.bool true))=.ok (((xs.map f).foldl Ik acc).map λr=>(iI r,PyData.bool true))
 |[],acc,_=>rfl
 |x::xs,acc,h=>by
  obtain⟨Z1,h1,h2⟩:=h x atD;rw[atE,HS,h1]
  show((zJ (tk M Z1)).bind λkd=>(dhas true _ kd).bind λr=>_)=_
  rw[h2,abl,Out.Av,Wh,aa1,Out.Av,atE,auJ];have ih:=ab8 f xs (Ik acc (f x)) λy hy=>h y (atA _ hy);unfold Ik at ih |-
  by_cases hm:f x∈acc
  .rw[au5 hm]at ih |-
   rw[decide_eq_true hm];exact ih
  .rw[au6 hm]at ih |-
   rw[decide_eq_false hm];rw[List.map_append]at ih;exact ih
section
variable{M:Mo}{L:Lay}{c:aM}(a:At M L c)(few:c.held.length<=50000)
include a few
theorem aaq(e h:Int):∃M',qL M [ob L.r,.int e,.int h]=.ok .none M'/\At M' L { c with held:=handed c e h }:=by
 have hr:=a.hr;have hl:L.r<M.length:=(aty.mp hr).1;have hr2:(M++[(⟨"",[]⟩:Inst)])[L.r]?=some (pZ c):=by rw[atN hl];exact hr
 have key:=ab8 (tg:=bB [3,4,5]) (tk:=bD (aj (O2 (aW (aA bR (ao 3) (ao 1))) (aq 2) (aq 3)) (aj (aq 4) (aj (aq 5) au)))) (M:=M) (Z:=[some (.dat (ob L.r)),some (.dat (.int e)),some (.dat (.int h)),none,none,none]) (BK e h) c.held [] λr _=>⟨[some (.dat (ob L.r)),some (.dat (.int e)),some (.dat (.int h)),some (.dat (.int r.1)),some (.dat (.int r.2.1)),some (.dat (aH r.2.2))],by simp[iI],by
  by_cases z:r.1=e<;>simp[z,BK,iI]⟩
 have ex:At (M++[⟨"",[]⟩]) L c:=by
  have lt:∀{k:Nat} {i:Inst},M[k]?=some i->(M++[(⟨"",[]⟩:Inst)])[k]?=some i:=λz=>by rw[atN (aty.mp z).1];exact z
  obtain⟨n,m,hg⟩:=a.hg;obtain⟨n1,hh⟩:=a.hh;exact⟨lt a.hc,⟨n,m,lt hg⟩,lt a.hr,⟨n1,lt hh⟩,a.len,λi h b h1 h2=>by
   obtain⟨n2,z⟩:=a.hb i h b h1 h2;exact⟨n2,lt z⟩,a.nd,λp hp=>⟨lt (a.fr p hp).1,(a.fr p hp).2⟩⟩
 refine⟨_,?_,ex.agK⟩;simp only[auG]at key;simp[qL,vD,hr,hr2,pZ,lN];simp[at5,key,few,handed]
end
@[simp]theorem asS (n:Nat) (b:dB):(iB n b).cls="Beast":=rfl
theorem ab5{M:Mo}{h n:Nat}{b:dB}(hb:M[h]?=some (iB n b))(s:Sd):pG M [ob h,s.dat]=.ok .none (M.set h (iB n { b with sd:=s })):=by
 have hl:∀i,(M.set h i)[h]?=some i:=λi=>by rw[bM hb,au5 rfl]
 simp[pG,tM,Sd.dat,hb,iB,hl,lN]
theorem aau{M:Mo}{h n:Nat}{b:dB}(hb:M[h]?=some (iB n b)):xU M [ob h]=.ok b.sd.dat:=by simp[xU,Dd,Sd.dat,hb,iB]
theorem vM{M:Mo}{h n:Nat}{b:dB}(hb:M[h]?=some (iB n b))(e:En)(he:b.sd.ear.length<=1000)(hf:b.en.length<=50000):oV M [ob h,e.dat]=.ok .none (M.set h (iB n { b with en:=b.en++[e],sd:=go b.sd e })):=by
 have hl:∀i,(M.set h i)[h]?=some i:=λi=>by rw[bM hb,au5 rfl]
 have h1:(M.set h (iB n { b with en:=b.en++[e] }))[h]?=some (iB n { b with en:=b.en++[e] }):=hl _;have h2:=aau h1;have h3:=gone_ok (M.set h (iB n { b with en:=b.en++[e] })) b.sd e he;have h4:=ab5 h1 (go b.sd e);have h5:b.en.length+1<100000:=by omega
 have e1:M.set h ⟨"Beast",[("story",.lst n (b.fi.dat::(b.en.map En.dat++[e.dat]))),("mother",.dat (.int b.mo)),("owner",.dat (.int b.sd.o)),("ground",.dat (.int b.sd.g)),("due",.dat (mF b.sd.due)),("ear",.dat (aH b.sd.ear)),("alive",.dat (.bool b.sd.al))]⟩=M.set h (iB n { b with en:=b.en++[e] }):=by simp[iB]
 simp[oV,Ao,hb,iB,h5];rw[e1];simp[h1,oU,j9,h2,h3,h4];simp[iB]
def akW:Fi->Int
 |.born m _ _=>m
 |_=>0
def Bm(f:Fi):dB:=⟨f,[],akW f,beg f⟩
theorem ajb(M:Mo)(f:Fi):vA (M++[⟨"Beast",[]⟩]) [ob M.length,f.dat]=.ok .none (M++[iB (M.length+1) (Bm f),⟨"",[]⟩]):=by
 have hbeg:=λM=>ahq M f;have hg:∀i (r:List Inst),(M++i::r)[M.length]?=some i:=λi r=>by simp
 have hs:∀i j (r:List Inst),(M++i::r).set M.length j=M++j::r:=λi j r=>by simp
 cases f<;>simp[vA,Fp,Fi.dat,hg,hs,lN,pG,tM,j9,Ei,Qs,jQ,iB,Bm,akW,beg,mF,Fi.dat]
def cA(L:Lay)(c:aM):List (Nat×Nat×dB):=(L.bs.zip c.bs).mapIdx λi p=>(i,p.1,p.2)
def nb(x:Nat×Nat×dB):Dat:=.tuple [.int ((x.1:Int)+1),ob x.2.1]
theorem CG{L:Lay}{c:aM}{x:Nat×Nat×dB}(h:x∈cA L c):L.bs[x.1]?=some x.2.1/\c.bs[x.1]?=some x.2.2:=by unfold cA at h;obtain⟨i,hi,e⟩:=List.mem_mapIdx.mp h;have hz:=atz hi;rw[auA]at hz;subst e;exact hz
theorem At.hb'{M:Mo}{L:Lay}{c:aM}(a:At M L c){x:Nat×Nat×dB}(h:x∈cA L c):∃n,M[x.2.1]?=some (iB n x.2.2):=by obtain⟨h1,h2⟩:=CG h;exact a.hb _ _ _ h1 h2
theorem At.len'{M:Mo}{L:Lay}{c:aM}(a:At M L c):(cA L c).length=c.bs.length:=by unfold cA;simp[a.len]
theorem At.enum{M:Mo}{L:Lay}{c:aM}(a:At M L c):pJ 1 (L.bs.map ob)=(cA L c).map nb:=by
 unfold pJ cA;apply at9;intro i;simp only[aup,atR];by_cases hi:i<L.bs.length
 .have hi2:i<c.bs.length:=by rw[<-a.len];exact hi
  have hz:(L.bs.zip c.bs)[i]?=some (L.bs[i],c.bs[i]):=by rw[auA];exact⟨atz hi,atz hi2⟩
  rw[hz];simp[hi,nb,Int.add_comm]
 .have hi2:¬i<c.bs.length:=by rw[<-a.len];exact hi
  have:(L.bs.zip c.bs)[i]?=none:=by rw[List.getElem?_eq_none_iff,List.length_zip];omega
  simp[aue (by omega:L.bs.length<=i),this]
section
variable{M:Mo}{L:Lay}{c:aM}(a:At M L c)(few:c.bs.length<=50000)
include a few
theorem Dk:rE M [ob L.h]=.ok (.list (((cA L c).filter λx=>x.2.2.sd.al).map nb)):=by
 obtain⟨n,hh⟩:=a.hh;have hl:=a.len';have he:=a.enum;have key:=gQ (tg:=bB [1,2]) (tt:=fB (bL "alive" (ao 2))) (te:=bD (aj (aq 1) (aj (aq 2) au))) (M:=M) (Z:=[some (.dat (ob L.h)),none,none]) nb (λx=>x.2.2.sd.al) nb (cA L c) λx hx=>⟨[some (.dat (ob L.h)),some (.dat (.int ((x.1:Int)+1))),some (.dat (ob x.2.1))],by simp[nb],by
  obtain⟨n,hb⟩:=a.hb' hx;simp[hb,iB],λ_=>by simp[nb]⟩
 simp[rE,wW,hh,dY];rw[he];simp[key,hl,few]
theorem Lq(near:List Int):sJ M [ob L.h,lI near]=.ok (.list (((cA L c).filter λx=>decide (x.2.2.sd.g∈near)&&x.2.2.sd.al).map nb)):=by
 obtain⟨n,hh⟩:=a.hh;have h1:=Dk a few;have hl:((cA L c).filter λx=>x.2.2.sd.al).length<=50000:=at3 (atU _ _) (by rw[a.len'];exact few);have key:=gQ (tg:=bB [2,3]) (tt:=aW (aA (inD false) (bL "ground" (ao 3)) (ao 1))) (te:=bD (aj (aq 2) (aj (aq 3) au))) (M:=M) (Z:=[some (.dat (ob L.h)),some (.dat (lI near)),none,none]) nb (λx=>decide (x.2.2.sd.g∈near)) nb ((cA L c).filter λx=>x.2.2.sd.al) λx hx=>⟨[some (.dat (ob L.h)),some (.dat (lI near)),some (.dat (.int ((x.1:Int)+1))),some (.dat (ob x.2.1))],by simp[nb],by
  obtain⟨n,hb⟩:=a.hb' (at4.mp hx).1;simp[hb,iB,Eb],λ_=>by simp[nb]⟩
 rw[auP]at key;simp[sJ,Az,hh,dY,eV,h1,key,hl]
theorem ahX(o:Int):zQ M [ob L.h,.int o]=.ok (.list (((cA L c).filter λx=>(x.2.2.sd.o==o)&&x.2.2.sd.al).map nb)):=by
 obtain⟨n,hh⟩:=a.hh;have h1:=Dk a few;have hl:((cA L c).filter λx=>x.2.2.sd.al).length<=50000:=at3 (atU _ _) (by rw[a.len'];exact few);have key:=gQ (tg:=bB [2,3]) (tt:=aW (aA bR (bL "owner" (ao 3)) (ao 1))) (te:=bD (aj (aq 2) (aj (aq 3) au))) (M:=M) (Z:=[some (.dat (ob L.h)),some (.dat (.int o)),none,none]) nb (λx=>x.2.2.sd.o==o) nb ((cA L c).filter λx=>x.2.2.sd.al) λx hx=>⟨[some (.dat (ob L.h)),some (.dat (.int o)),some (.dat (.int ((x.1:Int)+1))),some (.dat (ob x.2.1))],by simp[nb],by
  obtain⟨n,hb⟩:=a.hb' (at4.mp hx).1;simp[hb,iB],λ_=>by simp[nb]⟩
 rw[auP]at key;simp[zQ,Fo,hh,dY,eV,h1,key,hl]
theorem ZL(k:Int):mK M [ob L.h,.int k]=if 1<=k/\k<=c.bs.length then .ok (ob ((L.bs[(k-1).toNat]?).getD 0)) else .exc ⟨"NoBeast",[]⟩:=by
 obtain⟨n,hh⟩:=a.hh;have hlen:(L.bs.length:Int)=c.bs.length:=by rw[a.len]
 by_cases h:1<=k/\k<=c.bs.length
 .rw[au5 h];obtain⟨j,rfl⟩:∃j:Nat,k=(j:Int)+1:=⟨(k-1).toNat,by omega⟩;have hj:j<L.bs.length:=by have:=a.len;omega
  have h1:(1:Int)<=j+1:=by omega
  have h2:(j:Int)+1<=L.bs.length:=by omega
  simp[mK,v7,hh,dY,h1,h2,hj]
 .rw[au6 h];by_cases h1:1<=k
  .have h2:¬k<=L.bs.length:=by omega
   simp[mK,v7,hh,dY,h1,h2]
  .simp[mK,v7,hh,dY,h1]
end
def bk(c:aM)(k:Int):Option dB:=if 1<=k/\k<=c.bs.length then c.bs[(k-1).toNat]? else none
def hk(L:Lay)(k:Int):Nat:=(L.bs[(k-1).toNat]?).getD 0
def o7(b:dB)(e:En):dB:={ b with en:=b.en++[e],sd:=go b.sd e }
def fX(c:aM)(i:Nat)(e:En):aM:={ c with bs:=c.bs.modify i λb=>o7 b e }
theorem uK{M:Mo}{L:Lay}{c:aM}(a:At M L c){k:Int}{b:dB}(h:bk c k=some b):1<=k/\k<=c.bs.length/\L.bs[(k-1).toNat]?=some (hk L k)/\c.bs[(k-1).toNat]?=some b/\∃n,M[hk L k]?=some (iB n b):=by
 unfold bk at h;split at h
 .next hh=>
  have hl:(k-1).toNat<L.bs.length:=by have:=a.len;omega
  have e:L.bs[(k-1).toNat]?=some (hk L k):=by unfold hk;rw[atz hl];rfl
  exact⟨hh.1,hh.2,e,h,a.hb _ _ _ e h⟩
 .cases h
theorem ajz{c:aM}{k:Int}(h:bk c k=none):¬(1<=k/\k<=c.bs.length):=λz=>by
 unfold bk at h;rw[au5 z,List.getElem?_eq_none_iff]at h;omega
section
variable{M:Mo}{L:Lay}{c:aM}(a:At M L c)(few:c.bs.length<=50000)
include a few
theorem Kc{k:Int}{b:dB}(h:bk c k=some b):mK M [ob L.h,.int k]=.ok (ob (hk L k)):=by obtain⟨h1,h2,_⟩:=uK a h;rw[ZL a few,au5 ⟨h1,h2⟩];rfl
theorem Uc{k:Int}(h:bk c k=none):mK M [ob L.h,.int k]=.exc ⟨"NoBeast",[]⟩:=by rw[ZL a few,au6 (ajz h)]
theorem Hg(k:Int):uI M [ob L.h,.int k]=match bk c k with
  |none=>.exc ⟨"NoBeast",[]⟩
  |some b=>if b.sd.al then .ok (ob (hk L k)) else .exc ⟨"Dead",[]⟩:=by
 obtain⟨n,hh⟩:=a.hh;cases h:bk c k with
 |none=>
  have h1:=Uc a few h;simp[uI,yg,hh,dY,gA,h1]
 |some b=>
  have h1:=Kc a few h;obtain⟨_,_,_,_,n',hb⟩:=uK a h;cases h2:b.sd.al<;>simp[uI,yg,hh,dY,gA,h1,hb,iB,h2]
theorem Nm(k:Int):qj M [ob L.h,.int k]=match bk c k with
  |none=>.exc ⟨"NoBeast",[]⟩
  |some b=>if b.sd.al then(if b.sd.due=none then .exc ⟨"Unmarked",[]⟩ else .ok (ob (hk L k))) else .exc ⟨"Dead",[]⟩:=by
 obtain⟨n,hh⟩:=a.hh;have h0:=Hg a few k;cases h:bk c k with
 |none=>
  rw[h]at h0;simp[qj,uF,hh,dY,bO,h0]
 |some b=>
  rw[h]at h0;obtain⟨_,_,_,_,n',hb⟩:=uK a h;cases h2:b.sd.al with
  |false=>
   simp[h2]at h0;simp[qj,uF,hh,dY,bO,h0,h2]
  |true=>
   simp[h2]at h0;cases h3:b.sd.due<;>simp[qj,uF,hh,dY,bO,h0,hb,iB,h2,h3,mF,jE]
def wg(k:Int)(b:dB):Bool:=(b.mo==k)&&b.sd.due.isNone
theorem agx(k:Int):uE M [ob L.h,.int k]=match bk c k with
  |none=>.exc ⟨"NoBeast",[]⟩
  |some _=>.ok (.list (((cA L c).filter λx=>wg k x.2.2&&x.2.2.sd.al).map nb)):=by
 obtain⟨n,hh⟩:=a.hh;have h1:=Dk a few;have hl:((cA L c).filter λx=>x.2.2.sd.al).length<=50000:=at3 (atU _ _) (by rw[a.len'];exact few);have key:=gQ (tg:=bB [2,3]) (tt:=gH (aW (aA bR (bL "mother" (ao 3)) (ao 1))) (aW (vP false .none (bL "due" (ao 3))))) (te:=bD (aj (aq 2) (aj (aq 3) au))) (M:=M) (Z:=[some (.dat (ob L.h)),some (.dat (.int k)),none,none]) nb (λx=>wg k x.2.2) nb ((cA L c).filter λx=>x.2.2.sd.al) λx hx=>⟨[some (.dat (ob L.h)),some (.dat (.int k)),some (.dat (.int ((x.1:Int)+1))),some (.dat (ob x.2.1))],by simp[nb],by
  obtain⟨n,hb⟩:=a.hb' (at4.mp hx).1;by_cases h2:x.2.2.mo=k<;>cases h3:x.2.2.sd.due<;>simp[hb,iB,wg,h2,h3,mF,jE],λ_=>by simp[nb]⟩
 rw[auP]at key;cases h:bk c k with
 |none=>
  have h2:=Uc a few h;simp[uE,yt,hh,dY,gA,h2]
 |some b=>
  have h2:=Kc a few h;simp[uE,yt,hh,dY,gA,eV,h1,h2,key,hl]
theorem Ow(f:Fi)(hf:c.bs.length<50000):∃M' h,tZ M [ob L.h,f.dat]=.ok (.int (c.bs.length+1)) M'/\At M' { L with bs:=L.bs++[h] } { c with bs:=c.bs++[Bm f] }:=by
 obtain⟨n,hh⟩:=a.hh;have hl:L.h<M.length:=(aty.mp hh).1;have hi:=ajb M f;have hh2:(M++[iB (M.length+1) (Bm f),⟨"",[]⟩])[L.h]?=some (dY n L):=by rw[atN hl];exact hh
 have hs:∀i,((M++[iB (M.length+1) (Bm f),(⟨"",[]⟩:Inst)]).set L.h i)[L.h]?=some i:=λi=>by rw[bM hh2,au5 rfl]
 have hz:c.bs.length<100000:=by omega
 refine⟨_,M.length,?_,a.apG (M2:=M++[iB (M.length+1) (Bm f),⟨"",[]⟩]) (n:=M.length+1) (n2:=n) (at6 _) (λk hk=>by rw[atN hk]) (by simp)⟩
 simp[tZ,yJ,hh,dY,hi,hh2,hs,hz,a.len]
end
theorem Bb{M:Mo}{L:Lay}{c:aM}(a:At M L c){i h n:Nat}{b:dB}{e:En}(h1:L.bs[i]?=some h)(h2:c.bs[i]?=some b):At (M.set h (iB n (o7 b e))) L (fX c i e):=by
 have:=a.setB (n:=n) (b':=o7 b e) h1;have hm:c.bs.modify i (λb=>o7 b e)=c.bs.set i (o7 b e):=by
  apply at9;intro j;rw[List.getElem?_modify,auE];by_cases hj:i=j
  .subst hj;have hl:=(aty.mp h2).1;simp[hl,h2];have:=(aty.mp h2).2;rw[this]
  .simp[hj]
 unfold fX;rw[hm];exact this
theorem yx(c:aM)(i j:Nat)(e:En):(fX c i e).bs[j]?=if i=j then(c.bs[j]?).map λb=>o7 b e else c.bs[j]?:=by unfold fX;simp only[List.getElem?_modify];by_cases h:i=j<;>simp[h]
def xQ(xs:List (Nat×Nat×dB))(e:En)(c:aM):aM:=xs.foldl (λc x=>fX c x.1 e) c
theorem Rq{tg:gj}{body:SF}(Q:Rf.Env->Prop)(P:Nat->aM->Prop)(e:En)(L:Lay)(T:Nat):∀(xs:List (Nat×Nat×dB)) (M:Mo) (c:aM) (Z:Rf.Env) (i:Nat),i+xs.length<=T->At M L c->P i c->Q Z->
  (∀M c Z x i,i<T->At M L c->P i c->Q Z->x∈xs->∃Z1 Z2 M2,tg (nb x) Z=some Z1/\body M Z1=.next Z2 M2/\Q Z2/\At M2 L (fX c x.1 e)/\P (i+1) (fX c x.1 e))->
  ∃Z' M',dX tg body (xs.map nb) M Z=.next Z' M'/\Q Z'/\At M' L (xQ xs e c)
 |[],M,c,Z,i,_,a,p,q,_=>⟨Z,M,rfl,q,a⟩
 |x::xs,M,c,Z,i,hT,a,p,q,h=>by
  rw[atQ]at hT;obtain⟨Z1,Z2,M2,h1,h2,h3,h4,h5⟩:=h M c Z x i (by omega) a p q atD;obtain⟨Z',M',g1,g2,g3⟩:=Rq Q P e L T xs M2 _ Z2 (i+1) (by omega) h4 h5 h3 λM c Z y i hi a p q hy=>h M c Z y i hi a p q (atA _ hy);exact⟨Z',M',by rw[atE,fD h1 h2];exact g1,g2,g3⟩
structure Og(n:Nat)(c:aM):Prop where
 ear:∀b∈c.bs,b.sd.ear.length=6
 en:∀b∈c.bs,b.en.length<=n
theorem alu(s:Sd)(e:En)(he:s.ear.length=6)(h2:match e with|.cut l=>l.length=6|.sold _ l=>l.length=6|_=>True):(go s e).ear.length=6:=by cases e<;>simp_all [go,zu]
theorem Tg(e:En):∀(xs:List (Nat×Nat×dB)) (c:aM) (j:Nat),(xs.map (·.1)).Nodup->(xQ xs e c).bs[j]?=if j∈xs.map (·.1) then(c.bs[j]?).map λb=>o7 b e else c.bs[j]?
 |[],c,j,_=>by simp[xQ]
 |x::xs,c,j,nd=>by
  rw[atE,auC]at nd
  show(xQ xs e (fX c x.1 e)).bs[j]?=_
  rw[Tg e xs _ j nd.2,yx];by_cases h1:x.1=j
  .subst h1;rw[au6 nd.1,au5 rfl,au5 (by simp)]
  .rw[au6 h1];by_cases h2:j∈xs.map (·.1)
   .rw[au5 h2,au5 (by rw[atE];exact atA _ h2)]
   .rw[au6 h2,au6 (by
     rw[atE,atO]
     rintro(z|z)
     .exact h1 z.symm
     .exact h2 z)]
theorem QL(e:En):∀(xs:List (Nat×Nat×dB)) (c:aM),(xQ xs e c)={ c with bs:=(xQ xs e c).bs }
 |[],_=>rfl
 |x::xs,c=>by
  show xQ xs e (fX c x.1 e)={ c with bs:=(xQ xs e (fX c x.1 e)).bs };rw[QL e xs];rfl
theorem aeV{L:Lay}{c:aM}(p:Nat×Nat×dB->Bool):(((cA L c).filter p).map (·.1)).Nodup:=by
 have h:((cA L c).map (·.1)).Nodup:=by
  have e:(cA L c).map (·.1)=List.range (L.bs.zip c.bs).length:=by
   unfold cA;apply at9;intro i;simp only[atR,aup];by_cases hi:i<(L.bs.zip c.bs).length
   .rw[atz hi,List.getElem?_range hi];rfl
   .rw[aue (by omega:(L.bs.zip c.bs).length<=i),aue (by rw[List.length_range];omega:(List.range (L.bs.zip c.bs).length).length<=i)];rfl
  rw[e];exact List.nodup_range
 exact h.sublist (List.Sublist.map _ List.filter_sublist)
def pK(p:dB->Bool)(e:En)(c:aM):aM:={ c with bs:=c.bs.map λb=>if p b then o7 b e else b }
theorem X8{M:Mo}{L:Lay}{c:aM}(a:At M L c)(p:dB->Bool)(e:En):xQ ((cA L c).filter λx=>p x.2.2) e c=pK p e c:=by
 rw[QL];unfold pK;congr 1;apply at9;intro j;rw[Tg _ _ _ _ (aeV _),atR];by_cases hj:j<c.bs.length
 .have hb:=atz hj;rw[hb];have hl:j<L.bs.length:=by rw[a.len];exact hj
  have mem:(j,L.bs[j],c.bs[j])∈cA L c:=by unfold cA;rw[List.mem_mapIdx];refine⟨j,by simp;omega,by simp⟩
  by_cases hp:p c.bs[j]=true
  .have:j∈((cA L c).filter λx=>p x.2.2).map (·.1):=atM.mpr ⟨_,at4.mpr ⟨mem,hp⟩,rfl⟩;rw[au5 this];simp[hp]
  .have:j∉((cA L c).filter λx=>p x.2.2).map (·.1):=λz=>by
    obtain⟨x,h1,h2⟩:=atM.mp z;obtain⟨h3,h4⟩:=at4.mp h1;obtain⟨_,h5⟩:=CG h3;rw[h2,hb]at h5;rw[<-atY h5]at h4;exact hp h4
   rw[au6 this];simp[hp]
 .rw[aue (by omega:c.bs.length<=j)];simp
theorem Og.step{n:Nat}{c:aM}(bi:Og n c)(i:Nat)(e:En)(h2:match e with|.cut l=>l.length=6|.sold _ l=>l.length=6|_=>True):Og (n+1) (fX c i e):=by
 have key:∀b∈(fX c i e).bs,b∈c.bs\/∃b0∈c.bs,b=o7 b0 e:=λb hb=>by
  obtain⟨j,hj⟩:=List.mem_iff_getElem?.mp hb;rw[yx]at hj;split at hj
  .obtain⟨b0,h3,h4⟩:=aun.mp hj;exact .inr ⟨b0,atG h3,h4.symm⟩
  .exact .inl (atG hj)
 refine⟨λb hb=>?_,λb hb=>?_⟩
 .rcases key b hb with h|⟨b0,h,rfl⟩
  .exact bi.ear b h
  .exact alu _ _ (bi.ear b0 h) h2
 .rcases key b hb with h|⟨b0,h,rfl⟩
  .have:=bi.en b h;omega
  .have:=bi.en b0 h;simp[o7];omega
section
variable{M:Mo}{L:Lay}{c:aM}(a:At M L c)(few:c.bs.length<=1000){n:Nat}(bi:Og n c)(hn:n<=40000)
include a few bi hn
theorem Jj(k:Int){b:dB}(hk':bk c k=some b):∃M',qO M [ob L.h,.int k]=.ok .none M'/\At M' L (pK (λx=>wg k x&&x.sd.al) (.followed b.sd.o b.sd.g) c):=by
 obtain⟨m,hh⟩:=a.hh;have few2:c.bs.length<=50000:=by omega
 have h1:=Kc a few2 hk';have h2:=agx a few2 k;rw[hk']at h2;obtain⟨k1,k2,k3,k4,k5⟩:=uK a hk';have hlen:((cA L c).filter λx=>wg k x.2.2&&x.2.2.sd.al).length<=1000:=at3 (atU _ _) (by rw[a.len'];exact few);obtain⟨Z',M',g1,g2,g3⟩:=Rq (tg:=bB [3,4]) (body:=tV) (λZ=>∃x y,Z=[some (.dat (ob L.h)),some (.dat (.int k)),some (.dat (ob (hk L k))),x,y])
  (λi c1=>(∃b1,c1.bs[(k-1).toNat]?=some b1/\b1.sd.o=b.sd.o/\b1.sd.g=b.sd.g)/\Og (n+i) c1/\c1.bs.length=c.bs.length) (.followed b.sd.o b.sd.g) L 1000 ((cA L c).filter λx=>wg k x.2.2&&x.2.2.sd.al) M c [some (.dat (ob L.h)),some (.dat (.int k)),some (.dat (ob (hk L k))),none,none] 0 (by omega) a ⟨⟨b,k4,rfl,rfl⟩,bi,rfl⟩ ⟨none,none,rfl⟩ (λM1 c1 Z x i hi a1 p1 q1 hx=>by
   obtain⟨⟨bm,m1,m2,m3⟩,bi1,l1⟩:=p1;obtain⟨x0,y0,rfl⟩:=q1;obtain⟨nm,hm⟩:=a1.hb _ _ _ k3 m1;obtain⟨e1,e2⟩:=CG (at4.mp hx).1;have hl:x.1<c1.bs.length:=by rw[l1];exact(aty.mp e2).1
   have e3:=atz hl;obtain⟨nx,hx1⟩:=a1.hb _ _ _ e1 e3;have mem:=aum hl;have hb:=vM hx1 (.followed b.sd.o b.sd.g) (by rw[bi1.ear _ mem];decide) (by have:=bi1.en _ mem;omega);refine⟨[some (.dat (ob L.h)),some (.dat (.int k)),some (.dat (ob (hk L k))),some (.dat (.int ((x.1:Int)+1))),some (.dat (ob x.2.1))],[some (.dat (ob L.h)),some (.dat (.int k)),some (.dat (ob (hk L k))),some (.dat (.int ((x.1:Int)+1))),some (.dat (ob x.2.1))],_,by simp[nb],?_,⟨_,_,rfl⟩,Bb (n:=nx) a1 e1 e3,?_,bi1.step _ _ trivial,by simp[fX,l1]⟩
   .have hb:oV M1 [ob x.2.1,.tuple [.str "followed",.int b.sd.o,.int b.sd.g]]=_:=hb
    simp[tV,hx1,hm,bV];simp[iB]at hb |-
    simp[m2,m3,hb,o7]
   .rw[yx,m1];by_cases z:x.1=(k-1).toNat
    .exact⟨o7 bm (.followed b.sd.o b.sd.g),by rw[au5 z];rfl,rfl,rfl⟩
    .exact⟨bm,by rw[au6 z],m2,m3⟩)
 rw[X8 a (λx=>wg k x&&x.sd.al)]at g3;refine⟨M',?_,g3⟩;simp[qO,vO,hh,dY,gA,Bg,h1,h2,g1]
end
def pD(p:Int×Int):Dat:=.tuple [.int p.1,.int p.2]
theorem vH:∀(x y:List Int),yX (x.map PyData.int) (y.map PyData.int)=(x.zip y).map pD
 |[],_=>by simp[yX]
 |_::_,[]=>by simp[yX]
 |a::x,b::y=>by
  have:=vH x y;unfold yX at this |-
  rw[atE,atE,List.zipWith_cons_cons,this,auH,atE];rfl
def jm(x y:List Int):Int:=(((x.zip y).filter λp=>decide (p.1<p.2)).map λp=>p.2-p.1).sum
def jc(x y:List Int):Int:=if jm y x>jm x y then jm y x else jm x y
def lg(x y:List Int):List Int:=(x.zip y).map λp=>if p.2>p.1 then p.2 else p.1
theorem ajE(x y:List Int)(h:x.length<=1000):(x.zip y).length<=50000:=by rw[List.length_zip];omega
theorem W8(l:List Int):W4 (.list (l.map PyData.int))=.ok (.int l.sum):=by
 show(match intsOf (l.map PyData.int) with
  |some ns=>Out.ok (PyData.int ns.sum)
  |none=>.bad)=_
 rw[nR]
theorem JZ(M:Mo)(x y:List Int)(h:x.length<=1000):qd M [aH x,aH y]=.ok (.int (jm x y)):=by
 have key:=gQ (tg:=bB [2,3]) (tt:=aW (aA Xj (ao 3) (ao 2))) (te:=aA mH (ao 3) (ao 2)) (M:=M) (Z:=[some (.dat (aH x)),some (.dat (aH y)),none,none]) pD (λp=>decide (p.1<p.2)) (λp=>.int (p.2-p.1)) (x.zip y) λp _=>⟨[some (.dat (aH x)),some (.dat (aH y)),some (.dat (.int p.1)),some (.dat (.int p.2))],by simp[pD],by simp,λ_=>by simp⟩;have hz:=ajE x y h;have hs:=W8 (((x.zip y).filter λp=>decide (p.1<p.2)).map λp=>p.2-p.1);rw[aua]at hs;have hz2:min x.length y.length<=50000:=by omega
 simp[qd,Vk,vH,key,hz2];simp[at5]at hs;simp[hs,jm]
theorem ahL(M:Mo)(x y:List Int)(h:x.length<=1000)(h2:y.length<=1000):Jz M [aH x,aH y]=.ok (.int (jc x y)):=by simp[Jz,W3,JZ M x y h,JZ M y x h2,jc]
theorem T8(x y:List Int):jc x y=jc y x:=by
 unfold jc
 split<;>split<;>omega
theorem Wu(M:Mo)(x y:List Int)(r:Int)(h:x.length<=1000)(h2:y.length<=1000):uD M [aH x,aH y,.int r]=.ok (.bool (decide (jc x y<=r))):=by simp[uD,aaY,ahL M x y h h2]
theorem Kv(M:Mo)(x y:List Int)(h:x.length<=1000):rW M [aH x,aH y]=.ok (aH (lg x y)):=by
 have key:=fG (tg:=bB [2,3]) (te:=aA u9 (ao 2) (ao 3)) (M:=M) (Z:=[some (.dat (aH x)),some (.dat (aH y)),none,none]) pD (λp=>.int (if p.2>p.1 then p.2 else p.1)) (x.zip y) λp _=>⟨[some (.dat (aH x)),some (.dat (aH y)),some (.dat (.int p.1)),some (.dat (.int p.2))],by simp[pD],by simp⟩;have hz2:min x.length y.length<=50000:=by omega
 simp[rW,Wv,vH,key,hz2,lg]
abbrev Rw:=Ear.Rw
theorem Nb:∀R:List Rw,DR (R.map Ear.rD)=some R
 |[]=>rfl
 |r::R=>by
  rw[atE,DR,Nb R];have:adT (Ear.rD r)=some r:=by
   unfold Ear.rD Ear.dT
   show(intsOf (r.2.map PyData.int)).map _=_
   rw[nR];rfl
  rw[this];rfl
theorem Nt(M:Mo)(R:List Rw)(h:R.eraseDups.length<=76):uo M [.list (R.map Ear.rD)]=.ok (.list ((bf R).map Ear.rD)):=by
 have:UW (.list (R.map Ear.rD))=.ok (.list ((bf R).map Ear.rD)):=by
  show(match DR (R.map Ear.rD) with
   |some R=>match decide (R.eraseDups.length<=76) with
    |true=>Out.ok (PyData.list ((bf R).map Ear.rD))
    |false=>.bad
   |none=>.bad)=_
  rw[Nb]
  show(match decide (R.eraseDups.length<=76) with
    |true=>Out.ok (PyData.list ((bf R).map Ear.rD))
    |false=>.bad)=_
  rw[decide_eq_true h]
 simp[uo,RX,this]
theorem lX(R:List Rw):(bf R).length=R.eraseDups.length:=by unfold bf rG;rw[List.length_mergeSort]
def yF(o:Int)(e:List Int)(R:List Rw)(room:Int):List Rw:=(bf R).filter λr=>!(r.1==o)&&decide (jc e r.2<=room)
def rF(R:List Rw):Prop:=∀r∈R,r.2.length=6
theorem adS(M:Mo)(o:Int)(e:List Int)(R:List Rw)(room:Int)(he:e.length=6)(hR:rF R)(h:R.eraseDups.length<=76):Cy M [.int o,aH e,.list (R.map Ear.rD),.int room]=.ok (.list ((yF o e R room).map Ear.rD)):=by
 have ht:=Nt M R h;have hl:(bf R).length<=50000:=by rw[lX];omega
 have key:=gQ (tg:=bB [4,5]) (tt:=gH (aW (aA vX (ao 4) (ao 0))) (fB (aR uD (aj (aq 1) (aj (aq 5) (aj (aq 3) au)))))) (te:=bD (aj (aq 4) (aj (aq 5) au))) (M:=M) (Z:=[some (.dat (.int o)),some (.dat (aH e)),some (.dat (.list (R.map Ear.rD))),some (.dat (.int room)),none,none]) Ear.rD (λr=>!(r.1==o)&&decide (jc e r.2<=room)) Ear.rD (bf R) λr hr=>⟨[some (.dat (.int o)),some (.dat (aH e)),some (.dat (.list (R.map Ear.rD))),some (.dat (.int room)),some (.dat (.int r.1)),some (.dat (aH r.2))],by simp[Ear.rD,Ear.dT],by
  have:=Wu M e r.2 room (by omega) (by rw[hR r (fV.mp hr)];decide);by_cases hz:r.1=o<;>simp[this,hz],λ_=>by simp[Ear.rD,Ear.dT]⟩
 simp[Cy,Oh,ht,key,hl,yF]
theorem QV(M:Mo)(o:Int)(e:List Int)(R:List Rw)(room:Int)(he:e.length=6)(hR:rF R)(h:R.eraseDups.length<=76):qJ M [.int o,aH e,.list (R.map Ear.rD),.int room]=match yF o e R room with
  |[]=>.ok .none
  |r::_=>.exc ⟨"Clash",[("ear",aH (lg e r.2)),("others",Ear.rD r),("ones",Ear.rD (o,e))]⟩:=by
 have hb:=adS M o e R room he hR h;cases hx:yF o e R room with
 |nil=>
  rw[hx]at hb;simp[qJ,DK,hb]
 |cons r rs=>
  rw[hx]at hb;have hj:=Kv M e r.2 (by omega);simp[qJ,DK,hb];simp[Ear.rD,Ear.dT,hj]
theorem Ku{α β:Type}{tg tg1:gj}{tt tt1:QT}{it1:IF}{vs1:List Nat}{te:QF}{M:Mo}{Z:Rf.Env}(ds:α->Dat)(ys:α->List β)(ds1:β->Dat)(p:α->β->Bool)(f:α->β->Dat):∀(xs:List α),(∀x∈xs,∃Z1,tg (ds x) Z=some Z1/\tt M Z1=.ok true/\BZ Z1=true/\it1 M Z1=.ok ((ys x).map ds1)/\∀y∈ys x,∃Z2,tg1 (ds1 y) (bY Z1 vs1)=some Z2/\tt1 M Z2=.ok (p x y)/\(p x y=true->te M Z2=.ok (f x y)))->
  jd tg tt it1 tg1 vs1 tt1 te M Z (xs.map ds)=.ok (xs.flatMap λx=>((ys x).filter (p x)).map (f x))
 |[],_=>rfl
 |x::xs,h=>by
  obtain⟨Z1,h1,h2,h3,h4,h5⟩:=h x atD;have ih:=Ku ds ys ds1 p f xs λy hy=>h y (atA _ hy);have hc:=gQ (tg:=tg1) (tt:=tt1) (te:=te) (M:=M) (Z:=bY Z1 vs1) ds1 (p x) (f x) (ys x) h5;rw[atE,jd,h1]
  show((zJ (tt M Z1)).bind λb=>if b=true then Out.when (BZ Z1) ((zJ (it1 M Z1)).bind λes=>(cX tg1 tt1 te M (bY Z1 vs1) es).bind λr1=>(jd tg tt it1 tg1 vs1 tt1 te M Z (xs.map ds)).bind λr=>Out.ok (r1++r)) else jd tg tt it1 tg1 vs1 tt1 te M Z (xs.map ds))=_
  rw[h2,abl,Out.Av,au5 rfl,h3,Out.X4,h4,abl,Out.Av,hc,Out.Av,ih,Out.Av,List.flatMap_cons]
def cW(x:List Int):Bool:=decide (x.length=6)&&x.all λd=>decide (0<=d)&&decide (d<=9)
theorem CQ(l:List Bool):tY (l.map PyData.bool)=some l:=by
 induction l with
 |nil=>rfl
 |cons b l ih=>rw[atE,tY,ih];rfl
theorem Ym(M:Mo)(x:List Int)(h:x.length<=1000):vL M [aH x]=.ok (.bool (cW x)):=by
 have key:=fG (tg:=aF 1) (te:=Ut (nQ qP qP (qC (.int 0)) (ao 1) (qC cZ))) (M:=M) (Z:=[some (.dat (aH x)),none]) PyData.int (λd=>.bool (decide (0<=d)&&decide (d<=9))) x λd _=>⟨[some (.dat (aH x)),some (.dat (.int d))],by simp,by
  by_cases h0:0<=d<;>simp[h0,cZ]⟩
 have ha:KH (.list (x.map λd=>PyData.bool (decide (0<=d)&&decide (d<=9))))=.ok (.bool (x.all λd=>decide (0<=d)&&decide (d<=9))):=by
  have e:(x.map λd=>PyData.bool (decide (0<=d)&&decide (d<=9)))=(x.map λd=>decide (0<=d)&&decide (d<=9)).map PyData.bool:=by rw[aua];rfl
  rw[e]
  show(match tY _ with
   |some bs=>Out.ok (PyData.bool (bs.all id))
   |none=>.bad)=_
  rw[CQ];simp[List.all_map,at5]
 have hl:x.length<=50000:=by omega
 by_cases h6:x.length=6
 .have h6':((x.length:Int)==6)=true:=by simp[h6]
  simp[vL,Le,jB,key,hl,ha,cW,h6]
 .have h6':¬(x.length:Int)=6:=by omega
  simp[vL,Le,jB,cW,h6,h6']
theorem Bv(M:Mo)(x:List Int)(h:x.length<=1000):oF M [aH x]=if cW x then .ok .none else .exc ⟨"BadEar",[]⟩:=by have:=Ym M x h;cases hb:cW x<;>simp[oF,Kg,this,hb]
def pairD(p:Rw×Rw):Dat:=.tuple [Ear.rD p.1,Ear.rD p.2]
def kh(T:List Rw)(room:Int):List (Rw×Rw):=(T.mapIdx λi r=>(i,r)).flatMap λx=>((T.drop (x.1+1)).filter λs=>!(x.2.1==s.1)&&decide (jc x.2.2 s.2<=room)).map λs=>(x.2,s)
theorem abW(T:List Rw)(room:Int):(kh T room).length<=T.length*T.length:=by
 unfold kh;rw[List.length_flatMap];have key:∀(l:List (Nat×Rw)),(l.map λx=>(((T.drop (x.1+1)).filter λs=>!(x.2.1==s.1)&&decide (jc x.2.2 s.2<=room)).map λs=>(x.2,s)).length).sum<=l.length*T.length:=by
  intro l
  induction l with
  |nil=>simp
  |cons x l ih=>
   rw[atE,List.sum_cons,atQ,Nat.add_mul,Nat.one_mul];have:(((T.drop (x.1+1)).filter λs=>!(x.2.1==s.1)&&decide (jc x.2.2 s.2<=room)).map λs=>(x.2,s)).length<=T.length:=by rw[atJ];refine at3 (atU _ _) ?_;rw[auV];omega
   omega
 have:=key (T.mapIdx λi r=>(i,r));rw[List.length_mapIdx]at this;exact this
theorem ab6(M:Mo)(R:List Rw)(room:Int)(hR:rF R)(h:R.eraseDups.length<=76):wC M [.list (R.map Ear.rD),.int room]=.ok (.list ((kh (bf R) room).map pairD)):=by
 have ht:=Nt M R h;have hl:(bf R).length<=76:=by rw[lX];exact h
 have hE:∀r∈bf R,r.2.length=6:=λr hr=>hR r (fV.mp hr);generalize bf R=T at ht hl hE;have he:pJ 0 (T.map Ear.rD)=(T.mapIdx λi r=>(i,r)).map λ(x:Nat×Rw)=>PyData.tuple [.int x.1,Ear.rD x.2]:=by unfold pJ;apply at9;intro i;simp;cases T[i]?<;>simp
 have key:=Ku (tg:=bB [3,4]) (tg1:=aF 5) (tt:=iT) (it1:=cR (Et (ao 2) (lC (aA dZ (ao 3) (qC (.int 1)))) uz)) (vs1:=[5]) (tt1:=gH (aW (aA vX (aA aN (ao 4) (qC (.int 0))) (aA aN (ao 5) (qC (.int 0))))) (fB (aR uD (aj (aA aN (ao 4) (qC (.int 1))) (aj (aA aN (ao 5) (qC (.int 1))) (aj (aq 1) au)))))) (te:=bD (aj (aq 4) (aj (aq 5) au))) (M:=M) (Z:=[some (.dat (.list (R.map Ear.rD))),some (.dat (.int room)),some (.dat (.list (T.map Ear.rD))),none,none,none])
  (λ(x:Nat×Rw)=>PyData.tuple [.int x.1,Ear.rD x.2]) (λx=>T.drop (x.1+1)) Ear.rD (λx s=>!(x.2.1==s.1)&&decide (jc x.2.2 s.2<=room)) (λx s=>pairD (x.2,s)) (T.mapIdx λi r=>(i,r)) λx hx=>⟨[some (.dat (.list (R.map Ear.rD))),some (.dat (.int room)),some (.dat (.list (T.map Ear.rD))),some (.dat (.int x.1)),some (.dat (Ear.rD x.2)),none],by simp,rfl,rfl,by
   have:=Kh (T.map Ear.rD) (x.1+1);simp at this |-
   rw[this],λs hs=>⟨[some (.dat (.list (R.map Ear.rD))),some (.dat (.int room)),some (.dat (.list (T.map Ear.rD))),some (.dat (.int x.1)),some (.dat (Ear.rD x.2)),some (.dat (Ear.rD s))],by simp,by
   obtain⟨i,hi,rfl⟩:=List.mem_mapIdx.mp hx;have h1:=hE _ (aum hi);have h2:=hE s (List.mem_of_mem_drop hs);have:=Wu M (T[i]).2 s.2 room (by omega) (by omega);by_cases hz:(T[i]).1=s.1<;>simp[Ear.rD,Ear.dT,this,hz],λ_=>by simp[pairD]⟩⟩
 have e2:((T.mapIdx λi r=>(i,r)).flatMap λx=>((T.drop (x.1+1)).filter λs=>!(x.2.1==s.1)&&decide (jc x.2.2 s.2<=room)).map λs=>pairD (x.2,s))=(kh T room).map pairD:=by unfold kh;rw[List.map_flatMap];congr 1;funext x;rw[aua];rfl
 rw[e2]at key;have hc:(kh T room).length<=50000:=by have:=abW T room;have:T.length*T.length<=76*76:=Nat.mul_le_mul hl hl;omega
 simp[wC,Kr,ht];rw[he];simp[key,hc]
def hdD(x:List Int×Int):Dat:=.tuple [aH x.1,.int x.2]
def OJ(d l:Int):Int:=(if 9<d+l then 9 else d+l)+1
def DQ(d l:Int):List Int:=(List.range (OJ d l-d).toNat).map λ(i:Nat)=>d+(i:Int)
def stepT(d:Int)(H:List (List Int×Int)):List (List Int×Int):=H.flatMap λx=>(DQ d x.2).map λcut=>(x.1++[cut],x.2-(cut-d))
structure Ru(k:Nat)(H:List (List Int×Int)):Prop where
 len:H.length<=4^k
 left:∀x∈H,0<=x.2/\x.2<=3
 hd:∀x∈H,x.1.length=k/\∀y∈x.1,0<=y/\y<=9
theorem ae5{d l:Int}(hl:0<=l/\l<=3):(DQ d l).length<=4:=by
 unfold DQ OJ;simp
 split<;>omega
theorem Xe{d l y:Int}(h:y∈DQ d l):d<=y/\y<=d+l/\y<=9:=by unfold DQ OJ at h;obtain⟨i,hi,rfl⟩:=atM.mp h;rw[List.mem_range]at hi;split at hi<;>omega
theorem Ys{k:Nat}{H:List (List Int×Int)}{d:Int}(i:Ru k H)(hd:0<=d/\d<=9):Ru (k+1) (stepT d H):=by
 refine⟨?_,λx hx=>?_,λx hx=>?_⟩
 .have key:∀l:List (List Int×Int),(∀x∈l,0<=x.2/\x.2<=3)->(stepT d l).length<=l.length*4:=by
   intro l
   induction l with
   |nil=>intro _;simp[stepT]
   |cons x l ih=>
    intro h;have h1:=ih λy hy=>h y (atA _ hy);have h2:=ae5 (d:=d) (h x atD);unfold stepT at h1 |-
    rw[List.flatMap_cons,auj,atJ,atQ];omega
  have:=key H i.left;have:=i.len;rw[Nat.pow_succ];omega
 .unfold stepT at hx;obtain⟨y,hy,hx⟩:=List.mem_flatMap.mp hx;obtain⟨c,hc,rfl⟩:=atM.mp hx;have:=Xe hc;have:=i.left y hy;show 0<=y.2-(c-d)/\y.2-(c-d)<=3;omega
 .unfold stepT at hx;obtain⟨y,hy,hx⟩:=List.mem_flatMap.mp hx;obtain⟨c,hc,rfl⟩:=atM.mp hx;have:=Xe hc;obtain⟨h1,h2⟩:=i.hd y hy;refine⟨by simp[h1],λz hz=>?_⟩;rcases atL.mp hz with hz|hz
  .exact h2 z hz
  .rw[atF.mp hz];omega
theorem aeG(M:Mo)(e m:Option Cell)(he:BZ [e,m]=true){k:Nat}{H:List (List Int×Int)}{d:Int}(i:Ru k H)(hk:k<=5)(hd:0<=d/\d<=9):EY M [e,m,some (.dat (.list (H.map hdD))),some (.dat (.int d)),none,none,none]=.next [e,m,some (.dat (.list ((stepT d H).map hdD))),some (.dat (.int d)),none,none,none] M:=by
 have key:=Ku (tg:=bB [4,5]) (tg1:=aF 6) (tt:=iT) (it1:=Es (ao 3) (aA dZ (aA KR (aA dZ (ao 3) (ao 5)) (qC cZ)) (qC (.int 1)))) (vs1:=[6]) (tt1:=iT) (te:=bD (aj (aA dZ (ao 4) (bD (aj (aq 6) au))) (aj (aA mH (ao 5) (aA mH (ao 6) (ao 3))) au))) (M:=M) (Z:=[e,m,some (.dat (.list (H.map hdD))),some (.dat (.int d)),none,none,none])
  hdD (λx=>DQ d x.2) PyData.int (λ_ _=>true) (λx c=>hdD (x.1++[c],x.2-(c-d))) H λx hx=>⟨[e,m,some (.dat (.list (H.map hdD))),some (.dat (.int d)),some (.dat (aH x.1)),some (.dat (.int x.2)),none],by simp[hdD],rfl,by
   simp[BZ]at he |-
   exact he,by
   have hl:=i.left x hx;have hz:OJ d x.2<=100000/\-100000<=OJ d x.2/\d<=100000/\-100000<=d:=by unfold OJ;split<;>omega
   have e1:jR d (OJ d x.2-d).toNat=(DQ d x.2).map PyData.int:=by unfold jR DQ;rw[aua];rfl
   have e2:(if 9<d+x.2 then(9:Int) else d+x.2)+1=OJ d x.2:=rfl;simp[cZ,e2,e1,hz],λc hc=>⟨[e,m,some (.dat (.list (H.map hdD))),some (.dat (.int d)),some (.dat (aH x.1)),some (.dat (.int x.2)),some (.dat (.int c))],by simp,rfl,λ_=>by
   have h1:=(i.hd x hx).1;have h2:x.1.length+1<=100000:=by omega
   simp[hdD,h2]⟩⟩
 have e2:(H.flatMap λx=>((DQ d x.2).filter λ_=>true).map λc=>hdD (x.1++[c],x.2-(c-d)))=(stepT d H).map hdD:=by unfold stepT;rw[List.map_flatMap];congr 1;funext x;rw[auO.mpr (λ_ _=>rfl),aua];rfl
 rw[e2]at key;have hl:(stepT d H).length<=50000:=by have:=(Ys i hd).len;have:4^(k+1)<=4^6:=Nat.pow_le_pow_right (by decide) (by omega);omega
 simp[EY,key,hl]
theorem M7(M:Mo)(e m:Option Cell)(he:BZ [e,m]=true):∀(ear:List Int) (k:Nat) (H:List (List Int×Int)) (o:Option Cell),Ru k H->k+ear.length<=6->(∀d∈ear,0<=d/\d<=9)->
  (∃o',dX (aF 3) EY (ear.map PyData.int) M [e,m,some (.dat (.list (H.map hdD))),o,none,none,none]=.next [e,m,some (.dat (.list ((ear.foldl (λH d=>stepT d H) H).map hdD))),o',none,none,none] M)/\Ru (k+ear.length) (ear.foldl (λH d=>stepT d H) H)
 |[],k,H,o,i,_,_=>⟨⟨o,rfl⟩,i⟩
 |d::ear,k,H,o,i,hk,hd=>by
  rw[atQ]at hk;have h1:=hd d atD;obtain⟨⟨o',ih⟩,i2⟩:=M7 M e m he ear (k+1) (stepT d H) (some (.dat (.int d))) (Ys i h1) (by omega) λy hy=>hd y (atA _ hy);refine⟨⟨o',?_⟩,?_⟩
  .rw[atE,fD (Z1:=[e,m,some (.dat (.list (H.map hdD))),some (.dat (.int d)),none,none,none]) (by simp) (aeG M e m he i (by omega) h1),ih];rfl
  .rw[atQ,show k+(ear.length+1)=k+1+ear.length by omega];exact i2
def Hq(ear:List Int)(many:Int):List (List Int):=(ear.foldl (λH d=>stepT d H) [([],many)]).map (·.1)
theorem agb{many:Int}(hm:0<=many/\many<=3):Ru 0 [([],many)]:=⟨by simp,λx hx=>by rw[atF.mp hx];exact hm,λx hx=>by rw[atF.mp hx];simp⟩
theorem Ry{ear:List Int}{many:Int}(he:cW ear=true)(hm:0<=many/\many<=3):Ru 6 (ear.foldl (λH d=>stepT d H) [([],many)]):=by unfold cW at he;rw[atx,au1,at7]at he;have:=(M7 [] none none rfl ear 0 [([],many)] none (agb hm) (by omega) λd hd=>by simpa using he.2 d hd).2;rw[he.1]at this;exact this
theorem akn(M:Mo)(ear:List Int)(many:Int)(he:cW ear=true)(hm:0<=many/\many<=3):Od M [aH ear,.int many]=.ok (.list ((Hq ear many).map aH)):=by
 have he':=he;unfold cW at he';rw[atx,au1,at7]at he';obtain⟨⟨o',h1⟩,_⟩:=M7 M (some (.dat (aH ear))) (some (.dat (.int many))) rfl ear 0 [([],many)] none (agb hm) (by omega) λd hd=>by simpa using he'.2 d hd
 have hi:=Ry he hm;generalize hH:ear.foldl (λH d=>stepT d H) [([],many)]=H at h1 hi;have key:=fG (tg:=bB [4,5]) (te:=aq 4) (M:=M) (Z:=[some (.dat (aH ear)),some (.dat (.int many)),some (.dat (.list (H.map hdD))),o',none,none,none]) hdD (λx=>aH x.1) H λx _=>⟨[some (.dat (aH ear)),some (.dat (.int many)),some (.dat (.list (H.map hdD))),o',some (.dat (aH x.1)),some (.dat (.int x.2)),none],by simp[hdD],by simp⟩;have hl:H.length<=50000:=by
  have:=hi.len;have:(4:Nat)^6=4096:=by decide
  omega
 have h1':dX (aF 3) EY (ear.map PyData.int) M [some (.dat (aH ear)),some (.dat (.int many)),some (.dat (.list [.tuple [.tuple [],.int many]])),none,none,none,none]=_:=h1;have key2:∀o2:Option Cell,cX (bB [4,5]) iT (aq 4) M [some (.dat (aH ear)),some (.dat (.int many)),some (.dat (.list (H.map hdD))),o2,none,none,none] (H.map hdD)=.ok (H.map λx=>aH x.1):=λo2=>fG (tg:=bB [4,5]) (te:=aq 4) (M:=M) (Z:=[some (.dat (aH ear)),some (.dat (.int many)),some (.dat (.list (H.map hdD))),o2,none,none,none]) hdD (λx=>aH x.1) H λx _=>⟨[some (.dat (aH ear)),some (.dat (.int many)),some (.dat (.list (H.map hdD))),o2,some (.dat (aH x.1)),some (.dat (.int x.2)),none],by simp[hdD],by simp⟩;simp[Od,ZF,h1',key2,hl,Hq,hH]
def Rh(mark:List Int)(extra:Int):List (List Int):=(Hq mark extra).filter λe=>jm mark e==extra
theorem Xi{ear:List Int}{many:Int}(he:cW ear=true)(hm:0<=many/\many<=3){x:List Int}(h:x∈Hq ear many):cW x=true:=by obtain⟨y,hy,rfl⟩:=atM.mp h;obtain⟨h1,h2⟩:=(Ry he hm).hd y hy;unfold cW;rw[atx,au1,at7];exact⟨h1,λd hd=>by simpa using h2 d hd⟩
theorem afr{ear:List Int}{many:Int}(he:cW ear=true)(hm:0<=many/\many<=3):(Hq ear many).length<=4096:=by unfold Hq;rw[atJ];exact(Ry he hm).len
theorem aaT(M:Mo)(mark:List Int)(extra:Int)(he:cW mark=true)(hm:0<=extra/\extra<=3):xK M [aH mark,.int extra]=.ok (.list ((Rh mark extra).map aH)):=by
 have h1:=akn M mark extra he hm;have hl:=afr he hm;have h6:mark.length<=1000:=by unfold cW at he;rw[atx,au1]at he;omega
 have key:=gQ (tg:=aF 2) (tt:=aW (aA bR (aR qd (aj (aq 0) (aj (aq 2) au))) (ao 1))) (te:=aq 2) (M:=M) (Z:=[some (.dat (aH mark)),some (.dat (.int extra)),none]) aH (λe=>jm mark e==extra) aH (Hq mark extra) λx _=>⟨[some (.dat (aH mark)),some (.dat (.int extra)),some (.dat (aH x))],by simp,by
  have:=JZ M mark x h6;simp[this],λ_=>by simp⟩
 have hl2:(Hq mark extra).length<=50000:=by omega
 simp[xK,Ih,h1,key,hl2,Rh]
def BX(R:List Rw)(room:Int)(e:List Int):Bool:=!(R.any λr=>decide (jc e r.2<=room))
theorem aa4(l:List Bool):Ro (.list (l.map PyData.bool))=.ok (.bool (l.any id)):=by
 show(match tY (l.map PyData.bool) with
  |some bs=>Out.ok (PyData.bool (bs.any id))
  |none=>.bad)=_
 rw[CQ]
theorem aen(M:Mo)(R:List Rw)(room:Int)(hR:rF R)(hl:R.length<=50000)(mk:List Int)(x:Int)(e:List Int)(he:e.length=6) :
  lM M [some (.dat (aH mk)),some (.dat (.int x)),some (.dat (.list (R.map Ear.rD))),some (.dat (.int room)),some (.dat (aH e)),none,none]=if BX R room e then .ret (aH e) M else .next [some (.dat (aH mk)),some (.dat (.int x)),some (.dat (.list (R.map Ear.rD))),some (.dat (.int room)),some (.dat (aH e)),none,none] M:=by
 have key:=fG (tg:=bB [5,6]) (te:=aR uD (aj (aq 4) (aj (aq 6) (aj (aq 3) au)))) (M:=M) (Z:=[some (.dat (aH mk)),some (.dat (.int x)),some (.dat (.list (R.map Ear.rD))),some (.dat (.int room)),some (.dat (aH e)),none,none]) Ear.rD (λr=>.bool (decide (jc e r.2<=room))) R λr hr=>⟨[some (.dat (aH mk)),some (.dat (.int x)),some (.dat (.list (R.map Ear.rD))),some (.dat (.int room)),some (.dat (aH e)),some (.dat (.int r.1)),some (.dat (aH r.2))],by simp[Ear.rD,Ear.dT],by
  have:=Wu M e r.2 room (by omega) (by rw[hR r hr];decide);simp[this]⟩
 have ha:=aa4 (R.map λr=>decide (jc e r.2<=room));rw[aua]at ha;simp only[at5,auU]at ha;cases hf:BX R room e<;>simp[lM,key,hl,ha]<;>simp[BX]at hf<;>simpa using hf
theorem Ue(M:Mo)(R:List Rw)(room:Int)(hR:rF R)(hl:R.length<=50000)(mk:List Int)(x:Int):∀(es:List (List Int)) (o:Option Cell),(∀e∈es,e.length=6)->
  match es.find? (BX R room) with
   |some e=>dX (aF 4) lM (es.map aH) M [some (.dat (aH mk)),some (.dat (.int x)),some (.dat (.list (R.map Ear.rD))),some (.dat (.int room)),o,none,none]=.ret (aH e) M
   |none=>∃Z',dX (aF 4) lM (es.map aH) M [some (.dat (aH mk)),some (.dat (.int x)),some (.dat (.list (R.map Ear.rD))),some (.dat (.int room)),o,none,none]=.next Z' M
 |[],o,_=>⟨_,rfl⟩
 |e::es,o,he=>by
  have h1:=aen M R room hR hl mk x e (he e atD);have ih:=Ue M R room hR hl mk x es (some (.dat (aH e))) λy hy=>he y (atA _ hy);rw[List.find?_cons];cases hf:BX R room e with
  |true=>
   rw[hf,au5 rfl]at h1;show dX _ _ _ _ _=_;rw[atE,dX];simp[h1]
  |false=>
   rw[hf,au6 (by decide)]at h1;have e1:dX (aF 4) lM ((e::es).map aH) M [some (.dat (aH mk)),some (.dat (.int x)),some (.dat (.list (R.map Ear.rD))),some (.dat (.int room)),o,none,none]=dX (aF 4) lM (es.map aH) M [some (.dat (aH mk)),some (.dat (.int x)),some (.dat (.list (R.map Ear.rD))),some (.dat (.int room)),some (.dat (aH e)),none,none]:=by rw[atE,fD (by simp) h1]
   rw[e1];exact ih
theorem Yx(M:Mo)(mark:List Int)(extra:Int)(R:List Rw)(room:Int)(he:cW mark=true)(hm:0<=extra/\extra<=3)(hR:rF R)(hl:R.length<=50000):sH M [aH mark,.int extra,.list (R.map Ear.rD),.int room]=match (Rh mark extra).find? (BX R room) with
  |some e=>.ok (aH e)
  |none=>.exc ⟨"NoneFree",[]⟩:=by
 have h1:=aaT M mark extra he hm;have h2:=Ue M R room hR hl mark extra (Rh mark extra) none λe h=>by
  have:=Xi he hm (at4.mp h).1;unfold cW at this;rw[atx,au1]at this;exact this.1
 cases hf:(Rh mark extra).find? (BX R room) with
 |some e=>
  rw[hf]at h2;simp[sH,za,h1,h2]
 |none=>
  rw[hf]at h2;obtain⟨Z',h2⟩:=h2;simp[sH,za,h1,h2]
@[simp]theorem aoU (L:Lay) (c:aM):(aO L c).cls="Commons":=rfl
theorem any_keys(y:Int)(l:List Int):((l.map λo=>(PyData.int o,PyData.bool true)).any λp=>PyData.eqv p.1 (.int y))=decide (y∈l):=by
 have:=any_ints y l;rw[auU]at this |-
 exact this
section
variable{M:Mo}{L:Lay}{c:aM}(a:At M L c)
include a
theorem ni(o:Int):jU M [ob L.c,.int o]=if o∈c.own then .ok .none else .exc ⟨"NoOwner",[]⟩:=by
 have hc:=a.hc;have hk:=any_keys o c.own;simp only[auU,at5]at hk;by_cases h:o∈c.own
 .rw[decide_eq_true h]at hk;rw[au5 h];simp[jU,nZ,hc,aO,at5,hk];rw[au6 (λz=>z o h rfl)]
 .rw[decide_eq_false h]at hk;rw[au6 h];simp[jU,nZ,hc,aO,at5,hk];have hz:∀x:Int,x∈c.own->¬x=o:=λx hx e=>h (e ▸ hx);rw[au5 hz]
theorem vB(i:dG c)(x:Int):sE M [ob L.c,.int x]=if Vg c x then .ok (.int (roomOf c x)) else .exc ⟨"NoGround",[]⟩:=by
 have hc:=a.hc;obtain⟨n,m,hg⟩:=a.hg;have h1:=ake a i x;by_cases h:Vg c x
 .rw[au5 h]at h1 |-
  simp[sE,wA,hc,aO,hg,dD,vf,h1]
 .rw[au6 h]at h1 |-
  simp[sE,wA,hc,aO,hg,dD,vf,h1]
theorem xX(i:dG c)(x:Int):mj M [ob L.c,.int x]=if Vg c x then .ok (lI (aJ c x)) else .exc ⟨"NoGround",[]⟩:=by
 have hc:=a.hc;obtain⟨n,m,hg⟩:=a.hg;have h1:=xM a i x;by_cases h:Vg c x
 .rw[au5 h]at h1 |-
  simp[mj,qU,hc,aO,hg,dD,bK,h1]
 .rw[au6 h]at h1 |-
  simp[mj,qU,hc,aO,hg,dD,bK,h1]
theorem afI:ug M [ob L.c]=.ok (lI c.own):=by have hc:=a.hc;simp[ug,yH,hc,aO,at5]
theorem uG(few:c.held.length<=50000)(o g:Int):oE M [ob L.c,.int o,.int g]=if bZ c o g=[] then .exc ⟨"NoRight",[]⟩ else .ok .none:=by have hc:=a.hc;have hr:=a.hr;have h1:=aaH a few o g;by_cases h:bZ c o g=[]<;>simp[oE,tX,hc,aO,hr,pZ,uW,h1,h]
theorem Dm(few:c.held.length<=50000)(o g:Int){mk:List Int}{r:List (List Int)}(h:bZ c o g=mk::r):oH M [ob L.c,.int o,.int g]=.ok (aH mk):=by have hc:=a.hc;have hr:=a.hr;have h1:=Km a few o g;rw[h]at h1;simp[oH,tL,hc,aO,hr,pZ,cQ,h1]
end
def inR(c:aM)(near:List Int):List Rw:=(c.held.filter λr=>decide (r.2.1∈near)).map λr=>(r.1,r.2.2)
def ZM(lo:Int)(x:Nat×Nat×dB):Bool:=x.2.2.sd.due.isSome&&!(((x.1:Int)+1)==lo)
def Sq(L:Lay)(c:aM)(lo:Int)(near:List Int):List Rw:=(((cA L c).filter λx=>decide (x.2.2.sd.g∈near)&&x.2.2.sd.al).filter (ZM lo)).map λx=>(x.2.2.sd.o,x.2.2.sd.due.getD [])
def gG(L:Lay)(c:aM)(lo x:Int):List Rw:=inR c (aJ c x)++Sq L c lo (aJ c x)
section
variable{M:Mo}{L:Lay}{c:aM}(a:At M L c)
include a
theorem Hv(i:dG c)(few:c.held.length<=20000)(fewb:c.bs.length<=20000)(lo x:Int)(h76:(gG L c lo x).eraseDups.length<=76):jo M [ob L.c,.int lo,.int x]=if Vg c x then .ok (.list ((bf (gG L c lo x)).map Ear.rD)) else .exc ⟨"NoGround",[]⟩:=by
 have hc:=a.hc;have hr:=a.hr;obtain⟨n,hh⟩:=a.hh;have h1:=xX a i x;by_cases h:Vg c x
 .rw[au5 h]at h1 |-
  have h2:=Lq a (by omega:c.bs.length<=50000) (aJ c x);have h3:=YW a (by omega:c.held.length<=50000) (aJ c x);have h4:=Nt M (gG L c lo x) h76;have hl:((cA L c).filter λy=>decide (y.2.2.sd.g∈aJ c x)&&y.2.2.sd.al).length<=20000:=at3 (atU _ _) (by rw[a.len'];exact fewb);have hl2:((cA L c).filter λy=>decide (y.2.2.sd.g∈aJ c x)&&y.2.2.sd.al).length<=50000:=by omega
  have key:=gQ (tg:=bB [5,6]) (tt:=gH (aW (vP true .none (bL "due" (ao 6)))) (aW (aA vX (ao 5) (ao 1)))) (te:=bD (aj (gq "owner" (ao 6)) (aj (gq "due" (ao 6)) au))) (M:=M) (Z:=[some (.dat (ob L.c)),some (.dat (.int lo)),some (.dat (.int x)),some (.dat (lI (aJ c x))),none,none,none]) nb (ZM lo) (λy=>Ear.rD (y.2.2.sd.o,y.2.2.sd.due.getD [])) ((cA L c).filter λy=>decide (y.2.2.sd.g∈aJ c x)&&y.2.2.sd.al) λy hy=>⟨[some (.dat (ob L.c)),some (.dat (.int lo)),some (.dat (.int x)),some (.dat (lI (aJ c x))),none,some (.dat (.int ((y.1:Int)+1))),some (.dat (ob y.2.1))],by simp[nb],by
   obtain⟨n',hb⟩:=a.hb' (at4.mp hy).1;cases hd:y.2.2.sd.due<;>simp[hb,iB,hd,mF,ZM,jE],λhp=>by
   obtain⟨n',hb⟩:=a.hb' (at4.mp hy).1;cases hd:y.2.2.sd.due with
   |none=>simp[ZM,hd]at hp
   |some e=>simp[hb,iB,hd,mF,Ear.rD,Ear.dT]⟩
  have e1:(c.held.filter λr=>decide (r.2.1∈aJ c x)).map (λr=>Ear.rD (r.1,r.2.2))=(inR c (aJ c x)).map Ear.rD:=by unfold inR;rw[aua];rfl
  have e2:(((cA L c).filter λy=>decide (y.2.2.sd.g∈aJ c x)&&y.2.2.sd.al).filter (ZM lo)).map (λy=>Ear.rD (y.2.2.sd.o,y.2.2.sd.due.getD []))=(Sq L c lo (aJ c x)).map Ear.rD:=by unfold Sq;rw[aua];rfl
  rw[e1]at h3;rw[e2]at key;have z1:(inR c (aJ c x)).length<=20000:=by unfold inR;rw[atJ];exact at3 (atU _ _) few
  have z2:(Sq L c lo (aJ c x)).length<=20000:=by unfold Sq;rw[atJ];exact at3 (atU _ _) hl
  have z3:(inR c (aJ c x)).length+(Sq L c lo (aJ c x)).length<=100000:=by omega
  unfold gG at h4 |-
  rw[List.map_append]at h4;simp[jo,lO,hc,aO,bT,h1,hh,dY,fQ,h2,hr,pZ,sY,h3];simp[key,hl2,z3,h4,hc,aO,hr,pZ,h3]
 .rw[au6 h]at h1 |-
  simp[jo,lO,hc,aO,bT,h1]
end
def dW(b:dB):Dat:=.tuple [.int b.sd.o,.int b.sd.g,mF b.sd.due,aH b.sd.ear,.bool b.sd.al,.int b.mo,.tuple (b.fi.dat::b.en.map En.dat)]
theorem ajS{M:Mo}{h n:Nat}{b:dB}(hb:M[h]?=some (iB n b)):zE M [ob h]=.ok (dW b):=by have h1:=aau hb;simp[zE,FJ,hb,oU,h1];simp[iB,Sd.dat,dW]
def Xh(c:aM)(k:Nat):Dat:=.tuple [.int (m9 c ((k:Int)+1)),aH (aJ c ((k:Int)+1))]
def kY(c:aM):Dat:=.tuple [lI c.own,.list ((List.range c.al.length).map (Xh c)),.list (c.held.map iI),.list (c.bs.map dW)]
section
variable{M:Mo}{L:Lay}{c:aM}(a:At M L c)
include a
theorem ajj(i:dG c)(few:c.held.length<=20000)(fewb:c.bs.length<=20000):rQ M [ob L.c]=.ok (kY c):=by
 have hc:=a.hc;have hr:=a.hr;obtain⟨n,m,hg⟩:=a.hg;obtain⟨n1,hh⟩:=a.hh;have h1:=adf a;have h2:=afI a;have h3:=abJ a (by omega:c.held.length<=50000);have hf:=i.few;have k1:=fG (tg:=aF 3) (te:=bD (aj (aV eO (bL "grounds" (ao 0)) (aj (aq 3) au)) (aj (eE mJ (aV bT (ao 0) (aj (aq 3) au))) au))) (M:=M) (Z:=[some (.dat (ob L.c)),none,none,none,none]) (λ(k:Nat)=>PyData.int (1+(k:Int))) (Xh c) (List.range c.al.length) λk hk=>⟨[some (.dat (ob L.c)),none,none,some (.dat (.int ((k:Int)+1))),none],by simp[Int.add_comm],by
  rw[List.mem_range]at hk;have hv:Vg c ((k:Int)+1):=by constructor<;>omega
  have g1:=Pg a ((k:Int)+1);have g2:=xX a i ((k:Int)+1);rw[au5 hv]at g1 g2;simp[hc,aO,hg,dD,eO,bT,g1,g2,Xh]⟩
 have hl:=a.len';have k2:=λ(o1:Option Cell)=>fG (tg:=aF 4) (te:=aV yq (ao 4) au) (M:=M) (Z:=[some (.dat (ob L.c)),o1,none,none,none]) (λ(x:Nat×Nat×dB)=>ob x.2.1) (λx=>dW x.2.2) (cA L c) λx hx=>⟨[some (.dat (ob L.c)),o1,none,none,some (.dat (ob x.2.1))],by simp,by
  obtain⟨n',hb⟩:=a.hb' hx;have:=ajS hb;simp[hb,yq,this]⟩
 have e1:(cA L c).map (λx=>ob x.2.1)=L.bs.map ob:=by
  unfold cA;apply at9;intro j;simp only[atR,aup];by_cases hj:j<L.bs.length
  .have hz:(L.bs.zip c.bs)[j]?=some (L.bs[j],c.bs[j]'(by rw[<-a.len];exact hj)):=by
    rw[auA];exact⟨atz hj,atz _⟩
   rw[hz,atz hj];rfl
  .rw[aue (by omega:L.bs.length<=j),aue (by rw[List.length_zip];omega)];rfl
 have e2:(cA L c).map (λx=>dW x.2.2)=c.bs.map dW:=by
  unfold cA;apply at9;intro j;simp only[atR,aup];by_cases hj:j<c.bs.length
  .have hz:(L.bs.zip c.bs)[j]?=some (L.bs[j]'(by rw[a.len];exact hj),c.bs[j]):=by
    rw[auA];exact⟨atz _,atz hj⟩
   rw[hz,atz hj];rfl
  .rw[aue (by omega:c.bs.length<=j),aue (by rw[List.length_zip];omega)];rfl
 simp only[e1,e2]at k2;have r1:jR 1 c.al.length=(List.range c.al.length).map λ(k:Nat)=>PyData.int (1+(k:Int)):=rfl;have z1:(c.al.length:Int)+1<=100000:=by omega
 have z2 : -100000<=(c.al.length:Int)+1:=by omega
 have z3:c.al.length<=50000:=by omega
 have z4:L.bs.length<=50000:=by rw[a.len];omega
 simp[rQ,Af,hc,aO,hg,dD,fM,h1,z1,z2,r1,k1,z3];simp[hc,aO,hh,dY,hr,pZ,k2,z4,wX,v9,h2,h3,kY]
end
section
variable{M:Mo}{L:Lay}{c:aM}(a:At M L c)
include a
theorem qY(i:dG c)(few:c.held.length<=20000)(fewb:c.bs.length<=20000)(x:Int)(h76:(gG L c 0 x).eraseDups.length<=76):lY M [ob L.c,.int x]=if Vg c x then .ok (.list ((bf (gG L c 0 x)).map Ear.rD)) else .exc ⟨"NoGround",[]⟩:=by
 have hc:=a.hc;have h1:=Hv a i few fewb 0 x h76;by_cases h:Vg c x
 .rw[au5 h]at h1 |-
  simp[lY,qW,hc,dH,h1]
 .rw[au6 h]at h1 |-
  simp[lY,qW,hc,dH,h1]
def alE(o:Int)(e:List Int)(R:List Rw)(room:Int):Out Dat:=match yF o e R room with
 |[]=>.ok .none
 |r::_=>.exc ⟨"Clash",[("ear",aH (lg e r.2)),("others",Ear.rD r),("ones",Ear.rD (o,e))]⟩
omit a in
theorem ahv{T:List Rw}(h:Ear.Fv T):T.Nodup:=by
 unfold Ear.Fv at h;unfold List.Nodup;exact h.imp λ{x y} z e=>by
  subst e;exact List.lt_irrefl _ z
theorem Oa(ho:∀o∈c.own,o<=c.count)(few:c.own.length<=20000):∃M',gU M [ob L.c]=.ok (.int (c.count+1)) M'/\At M' L { c with count:=c.count+1,own:=c.own++[c.count+1] }:=by
 have hc:=a.hc;have hl:∀i,(M.set L.c i)[L.c]?=some i:=λi=>by rw[bM hc,au5 rfl]
 have hk:=any_keys (c.count+1) c.own;have hn:¬(c.count+1)∈c.own:=λz=>by have:=ho _ z;omega
 rw[decide_eq_false hn]at hk;have hz:∀x∈c.own,¬x=c.count+1:=λx hx e=>hn (e ▸ hx);have f2:c.own.length<100000:=by omega
 refine⟨_,?_,a.setC⟩;simp only[auU,at5]at hk;have hd:(c.own.any λx=>x==c.count+1)=false:=by rw[List.any_eq_false];intro x hx;simpa using hz x hx
 simp[gU,uU,hc,aO,hl,lN,f2,at5,hd]
end
theorem aaR{α:Type}[BEq α][LawfulBEq α](l:List α):l.eraseDups.length<=l.length:=by
 induction hn:l.length using Nat.strongRecOn generalizing l with
 |_ n ih=>
  cases l with
  |nil=>simp
  |cons a r=>
   rw[auN];simp only[atQ]at hn |-
   have hl:(r.filter λb=>!b==a).length<=r.length:=atU _ _;have:=ih _ (by omega) (r.filter λb=>!b==a) rfl;omega
theorem aag{S:List Rw}(h:S.eraseDups.length<=76):(bf S).eraseDups.length<=76:=at3 (aaR _) (by rw[lX];exact h)
theorem qK{S:List Rw}(h:rF S):rF (bf S):=λr hr=>h r (fV.mp hr)
section
variable{M:Mo}{L:Lay}{c:aM}(a:At M L c)
include a
theorem YK(i:dG c)(few:c.held.length<=20000)(fewb:c.bs.length<=20000)(o x:Int)(e:List Int)(he:e.length=6)(hv:Vg c x)(h76:(gG L c 0 x).eraseDups.length<=76)(hE:rF (gG L c 0 x)):iJ M [ob L.c,.int o,aH e,.int x]=alE o e (bf (gG L c 0 x)) (roomOf c x):=by
 have hc:=a.hc;have h1:=qY a i few fewb x h76;have h2:=vB a i x;rw[au5 hv]at h1 h2;have h3:=QV M o e (bf (gG L c 0 x)) (roomOf c x) he (qK hE) (aag h76);unfold alE;cases hb:yF o e (bf (gG L c 0 x)) (roomOf c x) with
 |nil=>
  rw[hb]at h3;simp[iJ,oG,hc,bH,bQ,h1,h2,h3]
 |cons r rs=>
  rw[hb]at h3;simp[iJ,oG,hc,bH,bQ,h1,h2,h3]
end
section
variable{M:Mo}{L:Lay}{c:aM}(a:At M L c)
include a
def Lg(L:Lay)(c:aM)(x y:Int):List Rw:=bf (gG L c 0 x)++bf (gG L c 0 y)
def tG(c:aM)(x y:Int):Int:=if roomOf c y>roomOf c x then roomOf c y else roomOf c x
theorem ab3(i:dG c)(few:c.held.length<=20000)(fewb:c.bs.length<=20000)(x y:Int)(hx:Vg c x)(hy:Vg c y)(h1:(gG L c 0 x).eraseDups.length<=76)(h2:(gG L c 0 y).eraseDups.length<=76)(h3:(Lg L c x y).eraseDups.length<=76)(e1:rF (gG L c 0 x))(e2:rF (gG L c 0 y)):lU M [ob L.c,.int x,.int y]=.ok (.list ((kh (bf (Lg L c x y)) (tG c x y)).map pairD)):=by
 have hc:=a.hc;have s1:=qY a i few fewb x h1;have s2:=qY a i few fewb y h2;have r1:=vB a i x;have r2:=vB a i y;rw[au5 hx]at s1 r1;rw[au5 hy]at s2 r2;have hE:rF (Lg L c x y):=λr hr=>by
  rcases atL.mp hr with hr|hr
  .exact qK e1 r hr
  .exact qK e2 r hr
 have k:=ab6 M (Lg L c x y) (tG c x y) hE h3;have l1:(bf (gG L c 0 x)).length<=76:=by rw[lX];exact h1
 have l2:(bf (gG L c 0 y)).length<=76:=by rw[lX];exact h2
 have l3:(bf (gG L c 0 x)).length+(bf (gG L c 0 y)).length<=100000:=by omega
 have k':wC M [.list ((bf (gG L c 0 x)).map Ear.rD++(bf (gG L c 0 y)).map Ear.rD),.int (if roomOf c y>roomOf c x then roomOf c y else roomOf c x)]=.ok (.list ((kh (bf (Lg L c x y)) (tG c x y)).map pairD)):=by rw[<-List.map_append];exact k
 simp[lU,vW,hc,bH,bQ,s1,s2,r1,r2,l3];simp at k';exact k' ▸ (by simp[k'])
end
def Fw(c:aM)(lo:Int)(near:List Int):List Rw:=((c.bs.mapIdx λi b=>(i,b)).filter λx=>(x.2.sd.due.isSome&&!(((x.1:Int)+1)==lo))&&(decide (x.2.sd.g∈near)&&x.2.sd.al)).map λx=>(x.2.sd.o,x.2.sd.due.getD [])
def bU(c:aM)(lo x:Int):List Rw:=inR c (aJ c x)++Fw c lo (aJ c x)
theorem Hr{M:Mo}{L:Lay}{c:aM}(a:At M L c):(cA L c).map (λx=>(x.1,x.2.2))=c.bs.mapIdx λi b=>(i,b):=by
 unfold cA;apply at9;intro j;simp only[atR,aup];by_cases hj:j<c.bs.length
 .have hz:(L.bs.zip c.bs)[j]?=some (L.bs[j]'(by rw[a.len];exact hj),c.bs[j]):=by
   rw[auA];exact⟨atz _,atz hj⟩
  rw[hz,atz hj];rfl
 .rw[aue (by omega:c.bs.length<=j),aue (by rw[List.length_zip];omega)];rfl
theorem gR{M:Mo}{L:Lay}{c:aM}(a:At M L c)(lo x:Int):gG L c lo x=bU c lo x:=by unfold gG bU Sq Fw;rw[<-Hr a,List.filter_map,aua,auP];rfl
inductive bx where
 |owner|ground (x:Int)|enrol (o g:Int) (m:List Int)|leave (o g:Int)|bring (o g:Int) (e:List Int)|bear (k:Int)|cut (k:Int)|tear (k p:Int)|sell (k o:Int)|move (k g:Int)|die (k:Int)|wz (x y:Int)|part (x:Int)|pass (e h:Int)|heir (e g x:Int)
def bx.dat:bx->Dat
 |.owner=>.tuple [.str "owner"]
 |.ground x=>.tuple [.str "ground",.int x]
 |.enrol o g m=>.tuple [.str "enrol",.int o,.int g,aH m]
 |.leave o g=>.tuple [.str "leave",.int o,.int g]
 |.bring o g m=>.tuple [.str "bring",.int o,.int g,aH m]
 |.bear k=>.tuple [.str "bear",.int k]
 |.cut k=>.tuple [.str "cut",.int k]
 |.tear k p=>.tuple [.str "tear",.int k,.int p]
 |.sell k o=>.tuple [.str "sell",.int k,.int o]
 |.move k g=>.tuple [.str "move",.int k,.int g]
 |.die k=>.tuple [.str "die",.int k]
 |.wz x y=>.tuple [.str "unite",.int x,.int y]
 |.part x=>.tuple [.str "part",.int x]
 |.pass e h=>.tuple [.str "pass",.int e,.int h]
 |.heir e g x=>.tuple [.str "heir",.int e,.int g,.int x]
inductive Res where
 |ok (d:Dat) (c:aM)|no (x:eX)
def Jb(o:Int)(e:List Int)(r:Rw):eX:=⟨"Clash",[("ear",aH (lg e r.2)),("others",Ear.rD r),("ones",Ear.rD (o,e))]⟩
def firstM(c:aM)(o g:Int):List Int:=(bZ c o g).headD []
def yG(o:Int)(e:List Int)(R:List Rw)(room:Int)(r:Res):Res:=match yF o e (bf R) room with
 |[]=>r
 |x::_=>.no (Jb o e x)
def DP(c:aM)(x y:Int):List Rw:=bf (bU c 0 x)++bf (bU c 0 y)
def oA(c:aM)(x:Int):List Int:=(aJ c x).filter λy=>!(y==x)
def Ui(c:aM)(e:Int):List Int:=((c.bs.mapIdx λi b=>(i,b)).filter λx=>(x.2.sd.o==e)&&x.2.sd.al).map λx=>(x.1:Int)+1
def Zj(o g:Int)(b:dB):Bool:=(decide (b.sd.g∈[g])&&b.sd.al)&&(b.sd.o==o)
def yu(c:aM)(k:Int)(f:dB->Res):Res:=match bk c k with
 |none=>.no ⟨"NoBeast",[]⟩
 |some b=>if b.sd.al=true then f b else .no ⟨"Dead",[]⟩
def markB(c:aM)(k:Int)(f:dB->List Int->Res):Res:=yu c k λb=>match b.sd.due with
 |none=>.no ⟨"Unmarked",[]⟩
 |some e=>f b e
def yV(c:aM)(k o g:Int):aM:=pK (λx=>wg k x&&x.sd.al) (.followed o g) c
def uQ(c:aM)(o:Int)(r:Res):Res:=if o∈c.own then r else .no ⟨"NoOwner",[]⟩
def yW(c:aM)(g:Int)(r:Res):Res:=if Vg c g then r else .no ⟨"NoGround",[]⟩
def Kf(e:List Int)(r:Res):Res:=if cW e=true then r else .no ⟨"BadEar",[]⟩
def pA(c:aM)(o g:Int)(r:Res):Res:=if bZ c o g=[] then .no ⟨"NoRight",[]⟩ else r
def cO(c:aM):bx->Res
 |.owner=>.ok (.int (c.count+1)) { c with count:=c.count+1,own:=c.own++[c.count+1] }
 |.ground x=>if 0<=x/\x<=9 then .ok (.int (c.al.length+1)) { c with al:=c.al++[x],ci:=c.ci++[[(c.al.length:Int)+1]] } else .no ⟨"BadAllowance",[]⟩
 |.enrol o g m=>uQ c o<|yW c g<|Kf m<|if m=[0,0,0,0,0,0] then .no ⟨"Bare",[]⟩ else if m∈bZ c o g then .no ⟨"HasRight",[]⟩ else yG o m (bU c 0 g) (roomOf c g) (.ok .none { c with held:=c.held++[(o,g,m)] })
 |.leave o g=>uQ c o<|yW c g<|pA c o g<|if c.bs.any (Zj o g)=true then .no ⟨"StillThere",[]⟩ else .ok (.list ((bZ c o g).map aH)) { c with held:=dropped c o g }
 |.bring o g e=>uQ c o<|yW c g<|Kf e<|pA c o g<|.ok (.int (c.bs.length+1)) { c with bs:=c.bs++[Bm (.brought o g e)] }
 |.bear k=>markB c k λb _=>.ok (.int (c.bs.length+1)) { c with bs:=c.bs++[Bm (.born k b.sd.o b.sd.g)] }
 | .cut k=>yu c k λb=>yG b.sd.o (lg b.sd.ear (firstM c b.sd.o b.sd.g)) (bU c 0 b.sd.g) (roomOf c b.sd.g) (.ok (aH (lg b.sd.ear (firstM c b.sd.o b.sd.g))) (fX c (k-1).toNat (.cut (lg b.sd.ear (firstM c b.sd.o b.sd.g)))))
 |.tear k p=>yu c k λb=>if 0<=p/\p<6 then(if 9<=b.sd.ear.getD p.toNat 0 then .no ⟨"Deepest",[]⟩ else .ok (aH (zu b.sd.ear p.toNat)) (fX c (k-1).toNat (.torn p.toNat))) else .no ⟨"NoPlace",[]⟩
 |.sell k o=>markB c k λb _=>uQ c o<|if b.sd.o=o then .no ⟨"SameOwner",[]⟩ else pA c o b.sd.g<|yG o (lg b.sd.ear (firstM c o b.sd.g)) (bU c k b.sd.g) (roomOf c b.sd.g) (.ok (aH (lg b.sd.ear (firstM c o b.sd.g))) (yV (fX c (k-1).toNat (.sold o (lg b.sd.ear (firstM c o b.sd.g)))) k o b.sd.g))
 |.move k g=>markB c k λb e=>yW c g<|if b.sd.g=g then .no ⟨"SameGround",[]⟩ else pA c b.sd.o g<|yG b.sd.o e (bU c 0 g) (roomOf c g) (.ok (.int b.sd.g) (yV (fX c (k-1).toNat (.moved g)) k b.sd.o g))
 |.die k=>yu c k λ_=>.ok .none (fX c (k-1).toNat .died)
 |.wz x y=>yW c y<|yW c x<|if y∈aJ c x then .no ⟨"Together",[]⟩ else match kh (bf (DP c x y)) (tG c x y) with
  |p::_=>.no (Jb p.1.1 p.1.2 p.2)
  |[]=>.ok (lI (sortI (aJ c x++aJ c y))) { c with ci:=encl c.ci (sortI (aJ c x++aJ c y)) }
 |.part x=>yW c x<|if oA c x=[] then .no ⟨"Alone",[]⟩ else .ok (lI (oA c x)) { c with ci:=encl (encl c.ci [x]) (oA c x) }
 |.pass e h=>uQ c e<|uQ c h<|if e=h then .no ⟨"SameOwner",[]⟩ else .ok (lI (Ui c e)) { pK (λb=>(b.sd.o==e)&&b.sd.al) (.passed h) c with own:=c.own.filter (λo=>!(o==e)),held:=handed c e h }
 | .heir e g x=>uQ c e<|yW c g<|if 1<=x/\x<=3 then pA c e g (match (Rh (firstM c e g) x).find? (BX (bf (bU c 0 g)) (roomOf c g)) with
  |some mk=>.ok (.tuple [.int (c.count+1),aH mk]) { c with count:=c.count+1,own:=c.own++[c.count+1],held:=c.held++[(c.count+1,g,mk)] }
  |none=>.no ⟨"NoneFree",[]⟩) else .no ⟨"BadExtra",[]⟩
structure Inv(n s:Nat)(c:aM):Prop where
 gr:dG c
 al:c.al.length<=n
 cnt:0<=c.count/\c.count<=n
 own:∀o∈c.own,1<=o/\o<=c.count
 R4:c.own.Nodup
 ownL:c.own.length<=n
 held:c.held.Nodup
 hL:c.held.length+c.bs.length<=s
 hE:∀r∈c.held,r.1∈c.own/\Vg c r.2.1/\cW r.2.2=true
 ear:∀b∈c.bs,cW b.sd.ear=true
 due:∀b∈c.bs,∀e,b.sd.due=some e->cW e=true
 en:∀b∈c.bs,b.en.length<=2*n
 rt:∀b∈c.bs,b.sd.al=true->∃m,(b.sd.o,b.sd.g,m)∈c.held
theorem dJ{x:List Int}(h:cW x=true):x.length=6:=by unfold cW at h;simp at h;exact h.1
theorem Gf{α:Type}[BEq α][LawfulBEq α]:∀{l S:List α},l.Nodup->(∀x∈l,x∈S)->l.length<=S.length
 |[],_,_,_=>by simp
 |x::l,S,nd,h=>by
  rw[auC]at nd;have hx:=h x atD;have:=Gf (l:=l) (S:=S.erase x) nd.2 λy hy=>by
   have:y≠x:=λz=>nd.1 (z ▸ hy);exact(List.mem_erase_of_ne this).mpr (h y (atA _ hy))
  rw[List.length_erase_of_mem hx]at this;have:=List.length_pos_of_mem hx;rw[atQ];omega
def PN(c:aM):List Rw:=c.held.map (λr=>(r.1,r.2.2))++c.bs.map λb=>(b.sd.o,b.sd.due.getD [])
theorem W0{c:aM}{near:List Int}{r:Rw}(h:r∈inR c near):∃g,(r.1,g,r.2)∈c.held/\g∈near:=by unfold inR at h;obtain⟨x,h1,rfl⟩:=atM.mp h;obtain⟨h2,h3⟩:=at4.mp h1;exact⟨x.2.1,h2,by simpa using h3⟩
theorem RM{c:aM}{lo:Int}{near:List Int}{r:Rw}(h:r∈Fw c lo near):∃(i:Nat) (b:dB),c.bs[i]?=some b/\b.sd.o=r.1/\b.sd.due=some r.2/\b.sd.al=true/\b.sd.g∈near/\(i:Int)+1≠lo:=by
 unfold Fw at h;obtain⟨x,h1,rfl⟩:=atM.mp h;obtain⟨h2,h3⟩:=at4.mp h1;obtain⟨i,hi,rfl⟩:=List.mem_mapIdx.mp h2;simp only[atx,au1,atV,beq_eq_false_iff_ne]at h3;obtain⟨⟨h4,h5⟩,h6,h7⟩:=h3;refine⟨i,c.bs[i],atz hi,rfl,?_,h7,h6,h5⟩;cases hd:c.bs[i].sd.due with
 |none=>simp[hd]at h4
 |some e=>rfl
theorem iw{c:aM}{lo x:Int}{r:Rw}(h:r∈bU c lo x):r∈PN c:=by
 unfold PN;rcases atL.mp h with h|h
 .obtain⟨g,h1,_⟩:=W0 h;exact aui _ (atM.mpr ⟨_,h1,rfl⟩)
 .obtain⟨i,b,h1,h2,h3,_⟩:=RM h;refine aul _ (atM.mpr ⟨b,atG h1,?_⟩);rw[h2,h3];rfl
section
variable{n s:Nat}{c:aM}(I:Inv n s c)
include I
theorem Inv.few{R:List Rw}(h:∀r∈R,r∈PN c):R.eraseDups.length<=s:=by
 have h1:=Gf (l:=bf R) (S:=PN c) (ahv (Ln R)) λr hr=>h r (fV.mp hr);rw[lX]at h1;have:(PN c).length=c.held.length+c.bs.length:=by simp[PN]
 have:=I.hL;omega
theorem Inv.Fe{lo x:Int}:rF (bU c lo x):=λr hr=>by
 rcases atL.mp hr with h|h
 .obtain⟨g,h1,_⟩:=W0 h;exact dJ (I.hE _ h1).2.2
 .obtain⟨i,b,h1,h2,h3,_⟩:=RM h;exact dJ (I.due b (atG h1) _ h3)
theorem Inv.bi:Og (2*n) c:=⟨λb hb=>dJ (I.ear b hb),I.en⟩
theorem Inv.mk1{o g:Int}(h:bZ c o g≠[]):∃r,bZ c o g=firstM c o g::r/\cW (firstM c o g)=true:=by
 cases hm:bZ c o g with
 |nil=>exact absurd hm h
 |cons m r=>
  refine⟨r,by simp[firstM,hm],?_⟩;have:m∈bZ c o g:=by rw[hm];exact atD
  unfold bZ at this;obtain⟨x,h1,rfl⟩:=atM.mp this;have e:firstM c o g=x.2.2:=by simp[firstM,hm]
  rw[e];exact(I.hE x (at4.mp h1).1).2.2
end
theorem Hf{c:aM}{o g:Int}{m:List Int}:m∈bZ c o g↔(o,g,m)∈c.held:=by
 unfold bZ;rw[atM];constructor
 .rintro⟨⟨x,y,z⟩,h,rfl⟩;obtain⟨h1,h2⟩:=at4.mp h;simp at h2;obtain⟨rfl,rfl⟩:=h2;exact h1
 .intro h;exact⟨_,at4.mpr ⟨h,by simp⟩,rfl⟩
theorem Aq{c:aM}{o g:Int}:bZ c o g≠[]↔∃m,(o,g,m)∈c.held:=by
 constructor
 .intro h;obtain⟨m,hm⟩:=List.exists_mem_of_ne_nil _ h;exact⟨m,Hf.mp hm⟩
 .rintro⟨m,hm⟩ z;have:=Hf.mpr hm;rw[z]at this;cases this
theorem yS{x y:List Int}(hx:cW x=true)(hy:cW y=true):cW (lg x y)=true:=by
 have lx:=dJ hx;have ly:=dJ hy;unfold cW at *;simp only[atx,au1,at7]at *;refine⟨by simp[lg];omega,λd hd=>?_⟩;unfold lg at hd;obtain⟨p,hp,rfl⟩:=atM.mp hd;have h1:=hx.2 p.1 (List.of_mem_zip hp).1;have h2:=hy.2 p.2 (List.of_mem_zip hp).2
 split<;>omega
theorem Ep(n:Nat)(x:List Int):okd (n+1) (aH x)=true:=by show okd (n+1) (.tuple (x.map PyData.int))=true;rw[okd];exact Xx n x
theorem ajJ(x y:List Int):bR (aH x) (aH y)=.ok (.bool (decide (x=y))):=by
 show(Out.when (okd 12 (aH x)&&okd 12 (aH y)) (.ok (PyData.eqv (aH x) (aH y)))).bind _=_
 rw[Ep 11,Ep 11,abA,BL];rfl
theorem aiO(neg:Bool)(m:List Int)(ms:List (List Int)):inD neg (aH m) (.list (ms.map aH))=.ok (.bool (neg ^^ decide (m∈ms))):=by
 have h1:lJ 12 (ms.map aH)=true:=Bh.mpr λd hd=>by
  obtain⟨x,_,rfl⟩:=atM.mp hd;exact Ep 11 x
 have h2:((ms.map aH).any λz=>PyData.eqv z (aH m))=decide (m∈ms):=by
  induction ms with
  |nil=>simp
  |cons x ms ih=>
   have h1':lJ 12 (ms.map aH)=true:=Bh.mpr λd hd=>by
    obtain⟨x,_,rfl⟩:=atM.mp hd;exact Ep 11 x
   rw[atE,auF,ih h1',abA,BL];by_cases h:x=m
   .simp[h]
   .have:¬m=x:=λz=>h z.symm;simp[h,this]
 show(Out.when (okd 12 (aH m)&&lJ 12 (ms.map aH)) (.ok ((ms.map aH).any λz=>PyData.eqv z (aH m)))).bind _=_
 rw[h1,h2,Ep 11];rfl
def Sp(M:Mo)(L:Lay)(o:bG Dat):Res->Prop
 |.ok d c'=>∃M' bs,o=.ok d M'/\At M' { L with bs:=bs } c'
 |.no x=>o=.exc x M
section
variable{M:Mo}{L:Lay}{c:aM}(a:At M L c){n s:Nat}(I:Inv n s c)(hs:s<=76)(hn:n<=199)
include a I hn
theorem aco:Sp M L (gU M [ob L.c]) (cO c .owner):=by obtain⟨M',h1,h2⟩:=Oa a (λo ho=>(I.own o ho).2) (by have:=I.ownL;omega);exact⟨M',L.bs,h1,h2⟩
theorem aac(x:Int):Sp M L (fZ M [ob L.c,.int x]) (cO c (.ground x)):=by
 have hc:=a.hc;obtain⟨n,m,hg⟩:=a.hg;have hl:=I.al;have h1:=YS a I.gr (by omega) x;simp only[cO];by_cases h:0<=x/\x<=9
 .rw[au5 h]at h1 |-
  obtain⟨M',h1,h2⟩:=h1;exact⟨M',L.bs,by simp[fZ,nY,hc,aO,hg,dD,mW,h1],h2⟩
 .rw[au6 h]at h1 |-
  show _=_;simp[fZ,nY,hc,aO,hg,dD,mW,h1]
include hs
omit hn
theorem aaL(o x:Int)(e:List Int)(he:e.length=6)(hv:Vg c x):iJ M [ob L.c,.int o,aH e,.int x]=match yF o e (bf (bU c 0 x)) (roomOf c x) with
  |[]=>.ok .none
  |r::_=>.exc (Jb o e r):=by
 have h1:=I.hL;have h76:=I.few (R:=bU c 0 x) λr hr=>iw hr;have:=YK a I.gr (by omega) (by omega) o x e he hv (by rw[gR a];omega) (by rw[gR a];exact I.Fe);rw[gR a]at this;exact this
theorem adb(o g:Int)(m:List Int)(hm:m.length<=1000):Sp M L (dU M [ob L.c,.int o,.int g,aH m]) (cO c (.enrol o g m)):=by
 have hc:=a.hc;have hr:=a.hr;obtain⟨n1,m1,hg⟩:=a.hg;have hL:=I.hL;have h1:=ni a o;have h2:=rK a g;have h3:=Bv M m hm;have h4:=Km a (by omega) o g;simp only[cO,uQ,yW,Kf,yG];by_cases e1:o∈c.own;rotate_left
 .rw[au6 e1]at h1 |-
  show _=_;simp[dU,iy,hc,aO,aD,h1]
 rw[au5 e1]at h1 |-
 by_cases e2:Vg c g;rotate_left
 .rw[au6 e2]at h2 |-
  show _=_;simp[dU,iy,hc,aO,aD,h1,hg,dD,aG,h2]
 rw[au5 e2]at h2 |-
 by_cases e3:cW m=true;rotate_left
 .rw[au6 e3]at h3 |-
  show _=_;simp[dU,iy,hc,aO,aD,h1,hg,dD,aG,h2,h3]
 rw[au5 e3]at h3 |-
 have h5:bR (.tuple (m.map PyData.int)) (.tuple [.int 0,.int 0,.int 0,.int 0,.int 0,.int 0])=_:=ajJ m [0,0,0,0,0,0];by_cases e4:m=[0,0,0,0,0,0]
 .rw[au5 e4];rw[decide_eq_true e4]at h5;show _=_;simp[dU,iy,hc,aO,aD,h1,hg,dD,aG,h2,h3,jQ];simp[h5]
 rw[au6 e4];rw[decide_eq_false e4]at h5;have h6:=aiO false m (bZ c o g);by_cases e5:m∈bZ c o g
 .rw[au5 e5];rw[decide_eq_true e5]at h6;simp at h6;show _=_;simp[dU,iy,hc,aO,aD,h1,hg,dD,aG,h2,h3,jQ,h5,hr,pZ,cQ,h4,h6]
 rw[au6 e5];rw[decide_eq_false e5]at h6;simp at h6;have h7:=aaL a I hs o g m (dJ e3) e2;cases e6:yF o m (bf (bU c 0 g)) (roomOf c g) with
 |cons r rs=>
  rw[e6]at h7;show _=_;simp[dU,iy,hc,aO,aD,h1,hg,dD,aG,h2,h3,jQ,h5,hr,pZ,cQ,h4,h6,cG,h7]
 |nil=>
  rw[e6]at h7;have h8:=Ou a (by omega) o g m;rw[au6 λz=>e5 (Hf.mpr z)]at h8;obtain⟨M',h8,h9⟩:=h8;refine⟨M',L.bs,?_,h9⟩;simp[dU,iy,hc,aO,aD,h1,hg,dD,aG,h2,h3,jQ,h5,hr,pZ,cQ,h4,h6,cG,h7,jk,h8]
end
@[simp]theorem atr (n:Nat) (b:dB):List.lookup ("owner" : Str) (iB n b).fs=some (.dat (.int b.sd.o)):=by simp[iB]
@[simp]theorem atp (n:Nat) (b:dB):List.lookup ("ground" : Str) (iB n b).fs=some (.dat (.int b.sd.g)):=by simp[iB]
@[simp]theorem atu (n:Nat) (b:dB):List.lookup ("due" : Str) (iB n b).fs=some (.dat (mF b.sd.due)):=by simp[iB]
@[simp]theorem atq (n:Nat) (b:dB):List.lookup ("ear" : Str) (iB n b).fs=some (.dat (aH b.sd.ear)):=by simp[iB]
@[simp]theorem asZ (n:Nat) (b:dB):List.lookup ("alive" : Str) (iB n b).fs=some (.dat (.bool b.sd.al)):=by simp[iB]
section
variable{M:Mo}{L:Lay}{c:aM}(a:At M L c){n s:Nat}(I:Inv n s c)(hs:s<=76)
include a I hs
theorem acJ(o g:Int):Sp M L (fO M [ob L.c,.int o,.int g]) (cO c (.leave o g)):=by
 have hc:=a.hc;have hr:=a.hr;obtain⟨n1,m1,hg⟩:=a.hg;obtain⟨n2,hh⟩:=a.hh;have hL:=I.hL;have h1:=ni a o;have h2:=rK a g;have h3:=uG a (by omega) o g;simp only[cO,uQ,yW,pA];by_cases e1:o∈c.own;rotate_left
 .rw[au6 e1]at h1 |-
  show _=_;simp[fO,j8,hc,aO,aD,h1]
 rw[au5 e1]at h1 |-
 by_cases e2:Vg c g;rotate_left
 .rw[au6 e2]at h2 |-
  show _=_;simp[fO,j8,hc,aO,aD,h1,hg,dD,aG,h2]
 rw[au5 e2]at h2 |-
 by_cases e3:bZ c o g=[]
 .rw[au5 e3]at h3 |-
  show _=_;simp[fO,j8,hc,aO,aD,h1,hg,dD,aG,h2,aU,h3]
 rw[au6 e3]at h3 |-
 have h4:sJ M [ob L.h,.list [.int g]]=_:=Lq a (by omega) [g];have key:=fG (tg:=bB [3,4]) (te:=aA bR (bL "owner" (ao 4)) (ao 1)) (M:=M) (Z:=[some (.dat (ob L.c)),some (.dat (.int o)),some (.dat (.int g)),none,none]) nb (λx=>.bool (x.2.2.sd.o==o)) ((cA L c).filter λx=>decide (x.2.2.sd.g∈[g])&&x.2.2.sd.al) λx hx=>⟨[some (.dat (ob L.c)),some (.dat (.int o)),some (.dat (.int g)),some (.dat (.int ((x.1:Int)+1))),some (.dat (ob x.2.1))],by simp[nb],by
  obtain⟨n,hb⟩:=a.hb' (at4.mp hx).1;simp[hb,iB]⟩
 have hl:((cA L c).filter λx=>decide (x.2.2.sd.g∈[g])&&x.2.2.sd.al).length<=50000:=at3 (atU _ _) (by rw[a.len'];omega);have h5:Ro (.list (((cA L c).filter λx=>decide (x.2.2.sd.g∈[g])&&x.2.2.sd.al).map λx=>PyData.bool (x.2.2.sd.o==o)))=.ok (.bool (c.bs.any (Zj o g))):=by
  have e:(((cA L c).filter λx=>decide (x.2.2.sd.g∈[g])&&x.2.2.sd.al).map λx=>PyData.bool (x.2.2.sd.o==o))=(((cA L c).filter λx=>decide (x.2.2.sd.g∈[g])&&x.2.2.sd.al).map λx=>(x.2.2.sd.o==o)).map PyData.bool:=by rw[aua];rfl
  rw[e,aa4,auU,List.any_filter];have e2:=Hr a;have e3:(cA L c).map (λx=>x.2.2)=c.bs:=by
   have:(cA L c).map (λx=>x.2.2)=((cA L c).map (λx=>(x.1,x.2.2))).map (·.2):=by rw[aua];rfl
   rw[this,e2];apply at9;intro i;simp;cases c.bs[i]?<;>rfl
  conv=>rhs;rw[<-e3]
  rw[auU];rfl
 cases e4:c.bs.any (Zj o g) with
 |true=>
  rw[e4]at h5;show _=_;simp[fO,j8,hc,aO,aD,h1,hg,dD,aG,h2,aU,h3,hh,dY,fQ];simp at h4 key h5 hl;simp[h4,key,hl,h5]
 |false=>
  rw[e4]at h5;have h6:=ajK a (by omega) I.held o g;rw[au6 e3]at h6;obtain⟨M',h6,h7⟩:=h6;refine⟨M',L.bs,?_,h7⟩;simp[fO,j8,hc,aO,aD,h1,hg,dD,aG,h2,aU,h3,hh,dY,fQ];simp at h4 key h5 hl;simp[h4,key,hl,h5,hc,aO,hr,pZ,Ak,h6]
theorem acA(o g:Int)(m:List Int)(hm:m.length<=1000):Sp M L (fP M [ob L.c,.int o,.int g,aH m]) (cO c (.bring o g m)):=by
 have hc:=a.hc;have hr:=a.hr;obtain⟨n1,m1,hg⟩:=a.hg;obtain⟨n2,hh⟩:=a.hh;have hL:=I.hL;have h1:=ni a o;have h2:=rK a g;have h3:=Bv M m hm;have h4:=uG a (by omega) o g;simp only[cO,uQ,yW,Kf,pA];by_cases e1:o∈c.own;rotate_left
 .rw[au6 e1]at h1 |-
  show _=_;simp[fP,jX,hc,aO,aD,h1]
 rw[au5 e1]at h1 |-
 by_cases e2:Vg c g;rotate_left
 .rw[au6 e2]at h2 |-
  show _=_;simp[fP,jX,hc,aO,aD,h1,hg,dD,aG,h2]
 rw[au5 e2]at h2 |-
 by_cases e3:cW m=true;rotate_left
 .rw[au6 e3]at h3 |-
  show _=_;simp[fP,jX,hc,aO,aD,h1,hg,dD,aG,h2,h3]
 rw[au5 e3]at h3 |-
 by_cases e4:bZ c o g=[]
 .rw[au5 e4]at h4 |-
  show _=_;simp[fP,jX,hc,aO,aD,h1,hg,dD,aG,h2,h3,aU,h4]
 rw[au6 e4]at h4 |-
 obtain⟨M',h,h5,h6⟩:=Ow a (by omega) (.brought o g m) (by omega);refine⟨M',L.bs++[h],?_,h6⟩;simp[Fi.dat]at h5;simp[fP,jX,hc,aO,aD,h1,hg,dD,aG,h2,h3,aU,h4,hh,dY,kJ,h5]
theorem afV(k:Int):Sp M L (iY M [ob L.c,.int k]) (cO c (.bear k)):=by
 have hc:=a.hc;obtain⟨n2,hh⟩:=a.hh;have hL:=I.hL;have h1:=Nm a (by omega) k;simp only[cO,markB,yu];cases hk:bk c k with
 |none=>
  rw[hk]at h1;show _=_;simp[iY,oO,hc,aO,hh,dY,bJ,h1]
 |some b=>
  rw[hk]at h1;obtain⟨_,_,_,_,n3,hb⟩:=uK a hk;show Sp M L _ (if b.sd.al=true then _ else _);cases e1:b.sd.al with
  |false=>
   simp[e1]at h1;show _=_;simp[iY,oO,hc,aO,hh,dY,bJ,h1]
  |true=>
   simp[e1]at h1;cases e2:b.sd.due with
   |none=>
    simp[e2]at h1;show _=_;simp[iY,oO,hc,aO,hh,dY,bJ,h1]
   |some e=>
    simp[e2]at h1;simp only[if_true];obtain⟨M',h,h5,h6⟩:=Ow a (by omega) (.born k b.sd.o b.sd.g) (by omega);refine⟨M',L.bs++[h],?_,h6⟩;simp[Fi.dat]at h5;simp[iY,oO,hc,aO,hh,dY,bJ,h1,hb,iB,kJ,h5]
theorem aiG(k:Int)(hn:n<=1000):Sp M L (kW M [ob L.c,.int k]) (cO c (.die k)):=by
 have hc:=a.hc;obtain⟨n2,hh⟩:=a.hh;have hL:=I.hL;have h1:=Hg a (by omega) k;simp only[cO,yu];cases hk:bk c k with
 |none=>
  rw[hk]at h1;show _=_;simp[kW,uJ,hc,aO,hh,dY,bO,h1]
 |some b=>
  rw[hk]at h1;obtain⟨_,_,h3,h4,n3,hb⟩:=uK a hk;show Sp M L _ (if b.sd.al=true then _ else _);cases e1:b.sd.al with
  |false=>
   simp[e1]at h1;show _=_;simp[kW,uJ,hc,aO,hh,dY,bO,h1]
  |true=>
   simp[e1]at h1;have mem:=atG h4;simp only[if_true];have h5:=vM hb .died (by rw[dJ (I.ear b mem)];decide) (by have:=I.en b mem;omega);refine⟨_,L.bs,?_,Bb (n:=n3) (e:=.died) a h3 h4⟩;simp[En.dat]at h5;simp[kW,uJ,hc,aO,hh,dY,bO,h1,hb,bV,h5,o7]
theorem ags(k p:Int)(hn:n<=1000):Sp M L (fL M [ob L.c,.int k,.int p]) (cO c (.tear k p)):=by
 have hc:=a.hc;obtain⟨n2,hh⟩:=a.hh;have hL:=I.hL;have h1:=Hg a (by omega) k;simp only[cO,yu];cases hk:bk c k with
 |none=>
  rw[hk]at h1;show _=_;simp[fL,jM,hc,aO,hh,dY,bO,h1]
 |some b=>
  rw[hk]at h1;obtain⟨_,_,h3,h4,n3,hb⟩:=uK a hk;show Sp M L _ (if b.sd.al=true then _ else _);cases e1:b.sd.al with
  |false=>
   simp[e1]at h1;show _=_;simp[fL,jM,hc,aO,hh,dY,bO,h1]
  |true=>
   simp[e1]at h1;have mem:=atG h4;have h6:=dJ (I.ear b mem);simp only[if_true];by_cases e2:0<=p/\p<6
   .rw[au5 e2];obtain⟨q,rfl⟩:∃q:Nat,p=q:=⟨p.toNat,by omega⟩;have hq:q<6:=by omega
    have hq2:q<b.sd.ear.length:=by omega
    have hq3:(q:Int)<6:=by omega
    have h7:b.sd.ear[q]?.getD 0=b.sd.ear[q]:=by simp[hq2]
    simp only[Int.toNat_natCast,List.getD_eq_getElem?_getD,h7];have h5:=vM hb (.torn q) (by omega) (by have:=I.en b mem;omega);by_cases e3:9<=b.sd.ear[q]
    .rw[au5 e3];show _=_;simp[fL,jM,hc,aO,hh,dY,bO,h1,hb,iB,jB,hq3,cZ,hq2,e3]
    .rw[au6 e3];refine⟨_,L.bs,?_,Bb (n:=n3) (e:=.torn q) a h3 h4⟩;simp[En.dat]at h5;have hl:∀i,(M.set (Pr.hk L k) i)[Pr.hk L k]?=some i:=λi=>by rw[bM hb,au5 rfl]
     simp[fL,jM,hc,aO,hh,dY,bO,h1,hb,jB,hq3,cZ,bV,h5,hl,hq2,e3,o7,go]
   .rw[au6 e2];show _=_;by_cases e3:0<=p
    .have e4:¬p<6:=λz=>e2 ⟨e3,z⟩;simp[fL,jM,hc,aO,hh,dY,bO,h1,jB,e3,e4]
    .simp[fL,jM,hc,aO,hh,dY,bO,h1,jB,e3]
end
theorem Inv.alive{n s:Nat}{c:aM}(I:Inv n s c){b:dB}(h:b∈c.bs)(h2:b.sd.al=true):bZ c b.sd.o b.sd.g≠[]/\Vg c b.sd.g/\b.sd.o∈c.own:=by obtain⟨m,hm⟩:=I.rt b h h2;exact⟨Aq.mpr ⟨m,hm⟩,(I.hE _ hm).2.1,(I.hE _ hm).1⟩
section
variable{M:Mo}{L:Lay}{c:aM}(a:At M L c){n s:Nat}(I:Inv n s c)(hs:s<=76)(hn:n<=1000)
include a I hs hn
theorem aia(k:Int):Sp M L (jA M [ob L.c,.int k]) (cO c (.cut k)):=by
 have hc:=a.hc;obtain⟨n2,hh⟩:=a.hh;have hL:=I.hL;have h1:=Hg a (by omega) k;simp only[cO,yu,yG];cases hk:bk c k with
 |none=>
  rw[hk]at h1;show _=_;simp[jA,ql,hc,aO,hh,dY,bO,h1]
 |some b=>
  rw[hk]at h1;obtain⟨_,_,h3,h4,n3,hb⟩:=uK a hk;show Sp M L _ (if b.sd.al=true then _ else _);cases e1:b.sd.al with
  |false=>
   simp[e1]at h1;show _=_;simp[jA,ql,hc,aO,hh,dY,bO,h1]
  |true=>
   simp[e1]at h1;simp only[if_true];have mem:=atG h4;obtain⟨q1,q2,q3⟩:=I.alive mem e1;obtain⟨r,q4,q5⟩:=I.mk1 q1;have h6:=dJ (I.ear b mem);have h7:=Dm a (by omega) _ _ q4;have h8:=Kv M b.sd.ear (firstM c b.sd.o b.sd.g) (by omega);have q6:=dJ (yS (I.ear b mem) q5);generalize lg b.sd.ear (firstM c b.sd.o b.sd.g)=e at h8 q6 |-
   have h9:=aaL a I hs b.sd.o b.sd.g e q6 q2;cases e2:yF b.sd.o e (bf (bU c 0 b.sd.g)) (roomOf c b.sd.g) with
   |cons r rs=>
    rw[e2]at h9;show _=_;simp[jA,ql,hc,aO,hh,dY,bO,h1,hb,iB,cD,h7,h8,cG,h9]
   |nil=>
    rw[e2]at h9;have h5:=vM hb (.cut e) (by omega) (by have:=I.en b mem;omega);refine⟨_,L.bs,?_,Bb (n:=n3) (e:=.cut e) a h3 h4⟩;simp[En.dat]at h5;simp[jA,ql,hc,aO,hh,dY,bO,h1,hb,cD,bV,h5,cG,h7,h8,h9,o7]
theorem afc(x:Int):Sp M L (iV M [ob L.c,.int x]) (cO c (.part x)):=by
 have hc:=a.hc;obtain⟨n1,m1,hg⟩:=a.hg;have h1:=af6 a I.gr x;have e0:(aJ c x).filter (λy=>!(y==x))=oA c x:=rfl;rw[e0]at h1;simp only[cO,yW];by_cases e1:Vg c x
 .rw[au5 e1]at h1 |-
  by_cases e2:oA c x=[]
  .rw[au5 e2]at h1 |-
   show _=_;simp[iV,sO,hc,aO,hg,dD,qX,h1]
  .rw[au6 e2]at h1 |-
   obtain⟨M',h1,h2⟩:=h1;refine⟨M',L.bs,?_,h2⟩;simp[iV,sO,hc,aO,hg,dD,qX,h1]
 .rw[au6 e1]at h1 |-
  show _=_;simp[iV,sO,hc,aO,hg,dD,qX,h1]
theorem ajd(x y:Int)(hx:Vg c x)(hy:Vg c y):lU M [ob L.c,.int x,.int y]=.ok (.list ((kh (bf (DP c x y)) (tG c x y)).map pairD)):=by
 have h1:=I.hL;have f1:=I.few (R:=bU c 0 x) λr hr=>iw hr;have f2:=I.few (R:=bU c 0 y) λr hr=>iw hr;have f3:=I.few (R:=DP c x y) λr hr=>by
  rcases atL.mp hr with h|h
  .exact iw (fV.mp h)
  .exact iw (fV.mp h)
 have e:Lg L c x y=DP c x y:=by unfold Lg DP;rw[gR a,gR a]
 have:=ab3 a I.gr (by omega) (by omega) x y hx hy (by rw[gR a];omega) (by rw[gR a];omega) (by rw[e];omega) (by rw[gR a];exact I.Fe) (by rw[gR a];exact I.Fe);rw[e]at this;exact this
theorem acM(x y:Int):Sp M L (eY M [ob L.c,.int x,.int y]) (cO c (.wz x y)):=by
 have hc:=a.hc;obtain⟨n1,m1,hg⟩:=a.hg;have h1:=rK a y;have h2:=xX a I.gr x;simp only[cO,yW];by_cases e1:Vg c y;rotate_left
 .rw[au6 e1]at h1 |-
  show _=_;simp[eY,jW,hc,aO,hg,dD,aG,h1]
 rw[au5 e1]at h1 |-
 by_cases e2:Vg c x;rotate_left
 .rw[au6 e2]at h2 |-
  show _=_;simp[eY,jW,hc,aO,hg,dD,aG,h1,bT,h2]
 rw[au5 e2]at h2 |-
 have h3:=Eb false y (aJ c x);have h4:=adI a I.gr x y e2 e1;by_cases e3:y∈aJ c x
 .rw[au5 e3];rw[decide_eq_true e3]at h3;show _=_;simp[eY,jW,hc,aO,hg,dD,aG,h1,bT,h2,h3]
 rw[au6 e3]at h4 |-
 rw[decide_eq_false e3]at h3;have h5:=ajd a I hs hn x y e2 e1;have h6:∀p∈kh (bf (DP c x y)) (tG c x y),p.1.2.length=6:=λp hp=>by
  unfold kh at hp;obtain⟨q,hq,hp⟩:=List.mem_flatMap.mp hp;obtain⟨r,_,rfl⟩:=atM.mp hp;obtain⟨i,hi,rfl⟩:=List.mem_mapIdx.mp hq;have hm:=fV.mp (aum hi);rcases atL.mp hm with h|h
  .exact I.Fe _ (fV.mp h)
  .exact I.Fe _ (fV.mp h)
 cases e4:kh (bf (DP c x y)) (tG c x y) with
 |cons p ps=>
  rw[e4]at h5 h6;have h7:=Kv M p.1.2 p.2.2 (by have:=h6 p atD;omega);show _=_;simp[eY,jW,hc,aO,hg,dD,aG,h1,bT,h2,h3,pY,h5];simp[pairD,Ear.rD,Ear.dT,h7,Jb]
 |nil=>
  rw[e4]at h5;obtain⟨M',h4,h7⟩:=h4;refine⟨M',L.bs,?_,h7⟩;simp[eY,jW,hc,aO,hg,dD,aG,h1,bT,h2,h3,pY,h5,yD,h4]
theorem aeI(e g x:Int):Sp M L (cV M [ob L.c,.int e,.int g,.int x]) (cO c (.heir e g x)):=by
 have hc:=a.hc;have hr:=a.hr;obtain⟨n1,m1,hg⟩:=a.hg;have hL:=I.hL;have h1:=ni a e;have h2:=rK a g;have h3:=uG a (by omega) e g;simp only[cO,uQ,yW,pA];by_cases e1:e∈c.own;rotate_left
 .rw[au6 e1]at h1 |-
  show _=_;simp[cV,eG,hc,aO,aD,h1]
 rw[au5 e1]at h1 |-
 by_cases e2:Vg c g;rotate_left
 .rw[au6 e2]at h2 |-
  show _=_;simp[cV,eG,hc,aO,aD,h1,hg,dD,aG,h2]
 rw[au5 e2]at h2 |-
 by_cases e3:1<=x/\x<=3;rotate_left
 .rw[au6 e3];show _=_;by_cases e4:1<=x
  .have e5:¬x<=3:=λz=>e3 ⟨e4,z⟩;simp[cV,eG,hc,aO,aD,h1,hg,dD,aG,h2,jK,lW,e4,e5]
  .simp[cV,eG,hc,aO,aD,h1,hg,dD,aG,h2,jK,lW,e4]
 rw[au5 e3];obtain⟨e4,e5⟩:=e3;by_cases e6:bZ c e g=[]
 .rw[au5 e6]at h3 |-
  show _=_;simp[cV,eG,hc,aO,aD,h1,hg,dD,aG,h2,jK,lW,e4,e5,aU,h3]
 rw[au6 e6]at h3 |-
 obtain⟨r,q4,q5⟩:=I.mk1 e6;have h7:=Dm a (by omega) _ _ q4;have f1:=I.few (R:=bU c 0 g) λr hr=>iw hr;have h8:=qY a I.gr (by omega) (by omega) g (by rw[gR a];omega);rw[au5 e2,gR a]at h8;have h9:=vB a I.gr g;rw[au5 e2]at h9;have h10:=Yx M (firstM c e g) x (bf (bU c 0 g)) (roomOf c g) q5 ⟨by omega,e5⟩ (qK I.Fe) (by rw[lX];omega);cases e7:(Rh (firstM c e g) x).find? (BX (bf (bU c 0 g)) (roomOf c g)) with
 |none=>
  rw[e7]at h10;show _=_;simp[cV,eG,hc,aO,aD,h1,hg,dD,aG,h2,jK,lW,e4,e5,aU,h3,cD,h7,bH,h8,bQ,h9,h10]
 |some mk=>
  rw[e7]at h10;obtain⟨M1,k1,a1⟩:=Oa a (λo ho=>(I.own o ho).2) (by have:=I.ownL;omega);have k2:=Ou a1 (by show c.held.length<=50000;omega) (c.count+1) g mk;rw[au6 (λz=>by
   have:=(I.own _ (I.hE _ z).1).2;simp at this
   omega)]at k2
  obtain⟨M2,k2,a2⟩:=k2;have hc1:=a1.hc;have hr1:=a1.hr;refine⟨M2,L.bs,?_,a2⟩;simp[cV,eG,hc,aO,aD,h1,hg,dD,aG,h2,jK,lW,e4,e5,aU,h3,cD,h7,bH,h8,bQ,h9,h10,dI,k1];simp[hc1,aO,hr1,pZ,jk,k2]
end
section
variable{M:Mo}{L:Lay}{c:aM}(a:At M L c){n s:Nat}(I:Inv n s c)(hs:s<=76)(hn:n<=1000)
include a I hs hn
theorem afo(k o:Int):Sp M L (dO M [ob L.c,.int k,.int o]) (cO c (.sell k o)):=by
 have hc:=a.hc;obtain⟨n2,hh⟩:=a.hh;have hL:=I.hL;have h1:=Nm a (by omega) k;have h2:=ni a o;simp only[cO,markB,yu,yG,uQ,pA];cases hk:bk c k with
 |none=>
  rw[hk]at h1;show _=_;simp[dO,gK,hc,aO,hh,dY,bJ,h1]
 |some b=>
  rw[hk]at h1;obtain⟨k1,k2,h3,h4,n3,hb⟩:=uK a hk;show Sp M L _ (if b.sd.al=true then _ else _);cases e1:b.sd.al with
  |false=>
   simp[e1]at h1;show _=_;simp[dO,gK,hc,aO,hh,dY,bJ,h1]
  |true=>
   simp[e1]at h1;simp only[if_true];cases e2:b.sd.due with
   |none=>
    simp[e2]at h1;show _=_;simp[dO,gK,hc,aO,hh,dY,bJ,h1]
   |some e0=>
    simp[e2]at h1;show Sp M L _ (if o∈c.own then _ else _);by_cases e3:o∈c.own;rotate_left
    .rw[au6 e3]at h2 |-
     show _=_;simp[dO,gK,hc,aO,hh,dY,bJ,h1,aD,h2]
    rw[au5 e3]at h2 |-
    by_cases e4:b.sd.o=o
    .rw[au5 e4];show _=_;simp[dO,gK,hc,aO,hh,dY,bJ,h1,aD,h2,hb,e4]
    rw[au6 e4];have h5:=uG a (by omega) o b.sd.g;by_cases e5:bZ c o b.sd.g=[]
    .rw[au5 e5]at h5 |-
     show _=_;simp[dO,gK,hc,aO,hh,dY,bJ,h1,aD,h2,hb,e4,aU,h5]
    rw[au6 e5]at h5 |-
    have mem:=atG h4;obtain⟨q1,q2,q3⟩:=I.alive mem e1;obtain⟨r,q4,q5⟩:=I.mk1 e5;have h6:=dJ (I.ear b mem);have h7:=Dm a (by omega) _ _ q4;have h8:=Kv M b.sd.ear (firstM c o b.sd.g) (by omega);have q6:=dJ (yS (I.ear b mem) q5);generalize lg b.sd.ear (firstM c o b.sd.g)=e at h8 q6 |-
    have f1:=I.few (R:=bU c k b.sd.g) λr hr=>iw hr;have h9:=Hv a I.gr (by omega) (by omega) k b.sd.g (by rw[gR a];omega);rw[au5 q2,gR a]at h9;have h10:=vB a I.gr b.sd.g;rw[au5 q2]at h10;have h11:=QV M o e (bf (bU c k b.sd.g)) (roomOf c b.sd.g) q6 (qK I.Fe) (aag (by omega));cases e6:yF o e (bf (bU c k b.sd.g)) (roomOf c b.sd.g) with
    |cons r rs=>
     rw[e6]at h11;show _=_;simp[dO,gK,hc,aO,hh,dY,bJ,h1,aD,h2,hb,e4,aU,h5,cD,h7,h8,dH,h9,bQ,h10,h11,Jb]
    |nil=>
     rw[e6]at h11;have h12:=vM hb (.sold o e) (by omega) (by have:=I.en b mem;omega);have a1:=Bb (n:=n3) (e:=.sold o e) a h3 h4;have hk2:bk (fX c (k-1).toNat (.sold o e)) k=some (o7 b (.sold o e)):=by unfold bk;rw[au5 ⟨k1,by simpa [fX] using k2⟩,yx,au5 rfl,h4];rfl
     obtain⟨M',h13,a2⟩:=Jj a1 (by simp[fX];omega) (I.bi.step _ _ q6) (by omega) k hk2;have hc1:=a1.hc;obtain⟨n4,hh1⟩:=a1.hh;refine⟨M',L.bs,?_,a2⟩;simp[En.dat]at h12;simp only[o7]at h13 hc1 hh1;simp[dO,gK,hc,aO,hh,dY,bJ,h1,aD,h2,hb,e4,aU,h5,cD,h7,h8,dH,h9,bQ,h10,h11,bV,h12];simp[hc1,aO,hh1,dY,ji,h13]
theorem afQ(k g:Int):Sp M L (dR M [ob L.c,.int k,.int g]) (cO c (.move k g)):=by
 have hc:=a.hc;obtain⟨n2,hh⟩:=a.hh;obtain⟨n5,m5,hg⟩:=a.hg;have hL:=I.hL;have h1:=Nm a (by omega) k;have h2:=rK a g;simp only[cO,markB,yu,yG,yW,pA];cases hk:bk c k with
 |none=>
  rw[hk]at h1;show _=_;simp[dR,gJ,hc,aO,hh,dY,bJ,h1]
 |some b=>
  rw[hk]at h1;obtain⟨k1,k2,h3,h4,n3,hb⟩:=uK a hk;show Sp M L _ (if b.sd.al=true then _ else _);cases e1:b.sd.al with
  |false=>
   simp[e1]at h1;show _=_;simp[dR,gJ,hc,aO,hh,dY,bJ,h1]
  |true=>
   simp[e1]at h1;simp only[if_true];cases e2:b.sd.due with
   |none=>
    simp[e2]at h1;show _=_;simp[dR,gJ,hc,aO,hh,dY,bJ,h1]
   |some e=>
    simp[e2]at h1;show Sp M L _ (if Vg c g then _ else _);by_cases e3:Vg c g;rotate_left
    .rw[au6 e3]at h2 |-
     show _=_;simp[dR,gJ,hc,aO,hh,dY,bJ,h1,hg,dD,aG,h2]
    rw[au5 e3]at h2 |-
    by_cases e4:b.sd.g=g
    .rw[au5 e4];show _=_;simp[dR,gJ,hc,aO,hh,dY,bJ,h1,hg,dD,aG,h2,hb,e4]
    rw[au6 e4];have h5:=uG a (by omega) b.sd.o g;by_cases e5:bZ c b.sd.o g=[]
    .rw[au5 e5]at h5 |-
     show _=_;simp[dR,gJ,hc,aO,hh,dY,bJ,h1,hg,dD,aG,h2,hb,e4,aU,h5]
    rw[au6 e5]at h5 |-
    have mem:=atG h4;have h6:=dJ (I.ear b mem);have q6:=dJ (I.due b mem e e2);have h11:=aaL a I hs b.sd.o g e q6 e3;cases e6:yF b.sd.o e (bf (bU c 0 g)) (roomOf c g) with
    |cons r rs=>
     rw[e6]at h11;show _=_;simp[dR,gJ,hc,aO,hh,dY,bJ,h1,hg,dD,aG,h2,hb,e4,aU,h5,e2,mF,cG,h11]
    |nil=>
     rw[e6]at h11;have h12:=vM hb (.moved g) (by omega) (by have:=I.en b mem;omega);have a1:=Bb (n:=n3) (e:=.moved g) a h3 h4;have hk2:bk (fX c (k-1).toNat (.moved g)) k=some (o7 b (.moved g)):=by unfold bk;rw[au5 ⟨k1,by simpa [fX] using k2⟩,yx,au5 rfl,h4];rfl
     obtain⟨M',h13,a2⟩:=Jj a1 (by simp[fX];omega) (I.bi.step _ _ trivial) (by omega) k hk2;have hc1:=a1.hc;obtain⟨n4,hh1⟩:=a1.hh;refine⟨M',L.bs,?_,a2⟩;simp[En.dat]at h12;simp only[o7]at h13 hc1 hh1;simp[dR,gJ,hc,aO,hh,dY,bJ,h1,hg,dD,aG,h2,hb,e4,aU,h5,e2,mF,cG,h11,bV,h12];simp[hc1,aO,hh1,dY,ji,h13]
theorem af9(e h:Int):Sp M L (fH M [ob L.c,.int e,.int h]) (cO c (.pass e h)):=by
 have hc:=a.hc;have hr:=a.hr;have hL:=I.hL;have h1:=ni a e;have h2:=ni a h;simp only[cO,uQ];by_cases e1:e∈c.own;rotate_left
 .rw[au6 e1]at h1 |-
  show _=_;simp[fH,kE,hc,aO,aD,h1]
 rw[au5 e1]at h1 |-
 by_cases e2:h∈c.own;rotate_left
 .rw[au6 e2]at h2 |-
  show _=_;simp[fH,kE,hc,aO,aD,h1,h2]
 rw[au5 e2]at h2 |-
 by_cases e3:e=h
 .rw[au5 e3];show _=_;simp[fH,kE,hc,aO,aD,h1,h2,e3]
 rw[au6 e3];obtain⟨M1,h3,a1⟩:=aaq a (by omega) e h;have hc1:=a1.hc;obtain⟨n1,hh1⟩:=a1.hh;have h4:=ahX a1 (by show c.bs.length<=50000;omega) e;have ehd:cA L { c with held:=handed c e h }=cA L c:=rfl;rw[ehd]at h4;generalize hX:((cA L c).filter λx=>(x.2.2.sd.o==e)&&x.2.2.sd.al)=X at h4;have hXl:X.length<=1000:=by rw[<-hX];exact at3 (atU _ _) (by rw[a.len'];omega)
 have bi1:Og (2*n) { c with held:=handed c e h }:=⟨I.bi.ear,I.bi.en⟩;obtain⟨Z',M2,g1,g2,g3⟩:=Rq (tg:=bB [4,5]) (body:=uX) (λZ=>∃x y,Z=[some (.dat (ob L.c)),some (.dat (.int e)),some (.dat (.int h)),some (.dat (.list (X.map nb))),x,y])
  (λi c1=>Og (2*n+i) c1/\c1.bs.length=c.bs.length) (.passed h) L 1000 X M1 { c with held:=handed c e h } [some (.dat (ob L.c)),some (.dat (.int e)),some (.dat (.int h)),some (.dat (.list (X.map nb))),none,none] 0 (by omega) a1 ⟨bi1,rfl⟩ ⟨none,none,rfl⟩ (λM1 c1 Z x i hi a1 p1 q1 hx=>by
   obtain⟨bi1,l1⟩:=p1;obtain⟨x0,y0,rfl⟩:=q1;rw[<-hX]at hx;obtain⟨z1,z2⟩:=CG (at4.mp hx).1;have hl:x.1<c1.bs.length:=by rw[l1];exact(aty.mp z2).1
   have z3:=atz hl;obtain⟨nx,hx1⟩:=a1.hb _ _ _ z1 z3;have mem:=aum hl;have hb:=vM hx1 (.passed h) (by rw[bi1.ear _ mem];decide) (by have:=bi1.en _ mem;omega);refine⟨[some (.dat (ob L.c)),some (.dat (.int e)),some (.dat (.int h)),some (.dat (.list (X.map nb))),some (.dat (.int ((x.1:Int)+1))),some (.dat (ob x.2.1))],[some (.dat (ob L.c)),some (.dat (.int e)),some (.dat (.int h)),some (.dat (.list (X.map nb))),some (.dat (.int ((x.1:Int)+1))),some (.dat (ob x.2.1))],_,by simp[nb],?_,⟨_,_,rfl⟩,Bb (n:=nx) a1 z1 z3,bi1.step _ _ trivial,by simp[fX,l1]⟩;have hb:oV M1 [ob x.2.1,.tuple [.str "passed",.int h]]=_:=hb
   simp[uX,hx1,bV,hb,o7])
 obtain⟨x0,y0,rfl⟩:=g2;have g4:xQ X (.passed h) { c with held:=handed c e h }=pK (λx=>(x.sd.o==e)&&x.sd.al) (.passed h) { c with held:=handed c e h }:=by rw[<-hX];exact X8 a1 (λx=>(x.sd.o==e)&&x.sd.al) (.passed h)
 rw[g4]at g3;have hc2:=g3.hc;have hl:∀i,(M2.set L.c i)[L.c]?=some i:=λi=>by rw[bM hc2,au5 rfl]
 have hk:=any_keys e c.own;rw[decide_eq_true e1]at hk;have hf:((c.own.map λo=>(PyData.int o,PyData.bool true)).filter λp=>!PyData.eqv p.1 (.int e))=(c.own.filter λo=>!(o==e)).map λo=>(PyData.int o,PyData.bool true):=by rw[List.filter_map];congr 1
 have a3:=g3.setC (n:=c.count) (own:=c.own.filter λo=>!(o==e));refine⟨_,L.bs,?_,a3⟩;have key:=fG (tg:=bB [4,5]) (te:=aq 4) (M:=M2.set L.c (aO L { pK (λx=>(x.sd.o==e)&&x.sd.al) (.passed h) { c with held:=handed c e h } with count:=c.count,own:=c.own.filter λo=>!(o==e) })) (Z:=[some (.dat (ob L.c)),some (.dat (.int e)),some (.dat (.int h)),some (.dat (.list (X.map nb))),none,none]) nb (λx=>.int ((x.1:Int)+1)) X λx _=>⟨[some (.dat (ob L.c)),some (.dat (.int e)),some (.dat (.int h)),some (.dat (.list (X.map nb))),some (.dat (.int ((x.1:Int)+1))),some (.dat (ob x.2.1))],by simp[nb],by simp⟩;have eo:(Ui c e).map PyData.int=X.map λx=>.int ((x.1:Int)+1):=by unfold Ui;rw[<-Hr a,List.filter_map,aua,aua,<-hX];rfl
 have eo:lI (Ui c e)=.list (X.map λx=>.int ((x.1:Int)+1)):=congrArg PyData.list eo;have hX2:X.length<=50000:=by omega
 have f2:c.own.length<=100000:=by have:=I.ownL;omega
 rw[eo];simp[fH,kE,hc,aO,aD,h1,h2,e3,hr,pZ,uY,h3];simp[hc1,aO,hh1,dY,Dh,h4,g1];simp only[pK]at hc2 key |-
 have hk':(c.own.any ((λp=>PyData.eqv p.1 (.int e)) ∘ λo=>(PyData.int o,PyData.bool true)))=true:=by rw[<-auU];exact hk
 simp[hc2,aO,f2];rw[hk',hf];simp only[aO]at key;simp[key,hX2]
end
theorem dG.same{c c':aM}(i:dG c)(h1:c'.al=c.al)(h2:c'.ci=c.ci):dG c':=by cases c;cases c';simp at h1 h2;subst h1 h2;exact⟨i.len,i.few,i.al,i.mem,i.own,i.up,i.one⟩
theorem dG.lt{c:aM}(i:dG c){k:Nat}{l:List Int}(h:c.ci[k]?=some l):k<c.al.length:=by rw[<-i.len];exact(aty.mp h).1
theorem dG.add{c:aM}(i:dG c)(hf:c.al.length<200){x:Int}(hx:0<=x/\x<=9):dG { c with al:=c.al++[x],ci:=c.ci++[[(c.al.length:Int)+1]] }:=by
 have key:∀(k:Nat) (l:List Int),(c.ci++[[(c.al.length:Int)+1]])[k]?=some l->(c.ci[k]?=some l/\k<c.al.length)\/(k=c.al.length/\l=[(c.al.length:Int)+1]):=λk l h=>by
  by_cases hk:k<c.ci.length
  .rw[atN hk]at h;exact .inl ⟨h,i.lt h⟩
  .rw[atZ (by omega)]at h;have hk2:k-c.ci.length=0:=by
    have:=(aty.mp h).1;simp at this;omega
   rw[hk2]at h;simp at h;exact .inr ⟨by have:=i.len;omega,h.symm⟩
 refine⟨by simp[i.len],by simp;omega,λy hy=>?_,λk l h y hy=>?_,λk l h=>?_,λk l h=>?_,λk j l h hj=>?_⟩
 .rcases atL.mp hy with hy|hy
  .exact i.al y hy
  .rw[atF.mp hy];exact hx
 .show 1<=y/\y<=((c.al++[x]).length:Int);rw[auj,List.length_singleton];rcases key k l h with⟨h,_⟩|⟨_,rfl⟩
  .have:=i.mem k l h y hy;omega
  .rw[atF.mp hy];omega
 .rcases key k l h with⟨h,_⟩|⟨rfl,rfl⟩
  .exact i.own k l h
  .simp
 .rcases key k l h with⟨h,_⟩|⟨rfl,rfl⟩
  .exact i.up k l h
  .simp
 .show(c.ci++[[(c.al.length:Int)+1]])[j]?=some l
  rcases key k l h with⟨h,_⟩|⟨rfl,rfl⟩
  .have h2:=i.one k j l h hj;rw[atN (aty.mp h2).1];exact h2
  .have:j=c.al.length:=by
    rw[atF]at hj;omega
   rw[this,<-i.len];simp
theorem aad(l:List Int):∀(s:List Int) (ci:List (List Int)) (k:Nat),(∀y∈s,1<=y)->(s.foldl (λs y=>s.set (y-1).toNat l) ci)[k]?=if ((k:Int)+1∈s)/\k<ci.length then some l else ci[k]?
 |[],ci,k,_=>by simp
 |y::s,ci,k,h=>by
  rw[auJ,aad l s _ k λz hz=>h z (atA _ hz),at8];have hy:=h y atD;by_cases h1:(k:Int)+1∈s/\k<ci.length
  .rw[au5 h1,au5 ⟨atA _ h1.1,h1.2⟩]
  .rw[au6 h1,auE];by_cases h2:(y-1).toNat=k
   .rw[au5 h2];have e:(k:Int)+1=y:=by omega
    by_cases h3:k<ci.length
    .rw[au5 (by omega),au5 ⟨by rw[e];exact atD,h3⟩]
    .rw[au6 (by omega),au6 (λz=>h3 z.2),aue (by omega)]
   .rw[au6 h2,au6];rintro⟨z,h3⟩;rcases atO.mp z with z|z
    .omega
    .exact h1 ⟨z,h3⟩
theorem Ar(ci:List (List Int))(l:List Int)(k:Nat)(h:∀y∈l,1<=y):(encl ci l)[k]?=if ((k:Int)+1∈l)/\k<ci.length then some l else ci[k]?:=aad l l ci k h
theorem dG.again{c:aM}(i:dG c){ci:List (List Int)}(hl:ci.length=c.ci.length)(P:List Int->Prop)
  (h1:∀(k:Nat) (l:List Int),ci[k]?=some l->(P l/\(k:Int)+1∈l)\/c.ci[k]?=some l)
  (h2:∀l,P l->l.Pairwise (· < ·)/\∀y∈l,Vg c y/\ci[(y-1).toNat]?=some l)
  (h3:∀(k j:Nat) (l:List Int),ci[k]?=some l->c.ci[k]?=some l->c.ci[j]?=some l->(k:Int)+1∈l->¬P l->ci[j]?=some l):dG { c with ci:=ci }:=by
 refine⟨by show ci.length=_;rw[hl,i.len],i.few,i.al,λk l h y hy=>?_,λk l h=>?_,λk l h=>?_,λk j l h hj=>?_⟩
 .rcases h1 k l h with⟨p,_⟩|h
  .exact((h2 l p).2 y hy).1
  .exact i.mem k l h y hy
 .rcases h1 k l h with⟨_,p⟩|h
  .exact p
  .exact i.own k l h
 .rcases h1 k l h with⟨p,_⟩|h
  .exact(h2 l p).1
  .exact i.up k l h
 .show ci[j]?=some l;have pj:P l->ci[j]?=some l:=λp=>by
   have:=((h2 l p).2 _ hj).2
   rwa [show((j:Int)+1-1).toNat=j by omega]at this
  rcases h1 k l h with⟨p,_⟩|h'
  .exact pj p
  .by_cases p:P l
   .exact pj p
   .exact h3 k j l h h' (i.one k j l h' hj) (i.own k l h') p
theorem dG.at{c:aM}(i:dG c){x:Int}(h:Vg c x):c.ci[(x-1).toNat]?=some (aJ c x):=by
 obtain⟨k,hk,rfl⟩:=uH h;have hk':k<c.ci.length:=by rw[i.len];exact hk
 simp[aJ,hk']
theorem dG.self{c:aM}(i:dG c){x:Int}(h:Vg c x):x∈aJ c x:=by
 have:=i.own _ _ (i.at h)
 rwa [show(((x-1).toNat:Nat):Int)+1=x by omega]at this
theorem dG.eq{c:aM}(i:dG c){x y:Int}(h:Vg c x)(hy:y∈aJ c x):aJ c y=aJ c x:=by have v:=i.mem _ _ (i.at h) y hy;have:=i.one _ (y-1).toNat _ (i.at h) (by rw[show(((y-1).toNat:Nat):Int)+1=y by omega];exact hy);rw[i.at v]at this;exact atY this
theorem Hh{l:List Int}{i:Int}:i∈sortI l↔i∈l:=by unfold sortI;rw[List.mem_mergeSort]
theorem ahx{l:List Int}(h:l.Nodup):(sortI l).Pairwise (· < ·):=by unfold sortI;have srt:=auu (le:=λa b:Int=>decide (a<=b)) (λa b c k1 k2=>by rw[au1]at *;omega) (λa b=>by rw[auB,au1,au1];omega) l;have nd:(l.mergeSort λa b=>decide (a<=b)).Nodup:=(auM _ _).nodup_iff.mpr h;refine List.Pairwise.imp₂ (λa b h1 h2=>?_) srt nd;rw[au1]at h1;have:a≠b:=h2;omega
theorem dG.wz{c:aM}(i:dG c){x y:Int}(hx:Vg c x)(hy:Vg c y)(hn:y∉aJ c x):dG { c with ci:=encl c.ci (sortI (aJ c x++aJ c y)) }:=by
 generalize hS:sortI (aJ c x++aJ c y)=S;have mem:∀z,z∈S↔z∈aJ c x\/z∈aJ c y:=λz=>by rw[<-hS,Hh,atL]
 have vg:∀z∈S,Vg c z:=λz hz=>by
  rcases(mem z).mp hz with h|h
  .exact i.mem _ _ (i.at hx) z h
  .exact i.mem _ _ (i.at hy) z h
 have up:S.Pairwise (· < ·):=by
  rw[<-hS];refine ahx ?_;rw[auv];have nd:∀{l:List Int},l.Pairwise (· < ·)->l.Nodup:=λh=>h.imp λ{a b} z e=>by omega
  refine⟨nd (i.up _ _ (i.at hx)),nd (i.up _ _ (i.at hy)),λa ha b hb e=>?_⟩;subst e;have e1:=i.eq hx ha;have e2:=i.eq hy hb;rw[e1]at e2;exact hn (e2 ▸ i.self hy)
 have get:=λk=>Ar c.ci S k λz hz=>(vg z hz).1;refine i.again (P:=λl=>l=S) (by unfold encl;rw[yC]) (λk l h=>?_) (λl hl=>?_) (λk j l h h' hj hk np=>?_)
 .rw[get]at h;split at h
  .next z=>
   cases h;exact .inl ⟨rfl,z.1⟩
  .exact .inr h
 .subst hl;refine⟨up,λz hz=>⟨vg z hz,?_⟩⟩;have v:=vg z hz;have e:(((z-1).toNat:Nat):Int)+1=z:=by omega
  rw[get,e,au5 ⟨hz,by rw[i.len];omega⟩]
 .rw[get];by_cases z:(j:Int)+1∈S/\j<c.ci.length
  .exfalso;have v:=vg _ z.1;have ej:aJ c ((j:Int)+1)=l:=by
    have:=i.at v;rw[show((j:Int)+1-1).toNat=j by omega,hj]at this;exact(atY this).symm
   have hk2:(k:Int)+1∈S:=by
    rw[mem];rcases(mem _).mp z.1 with q|q
    .exact .inl (by rw[<-i.eq hx q,ej];exact hk)
    .exact .inr (by rw[<-i.eq hy q,ej];exact hk)
   rw[get,au5 ⟨hk2,(aty.mp h').1⟩]at h;exact np (atY h).symm
  .rw[au6 z];exact hj
theorem dG.part{c:aM}(i:dG c){x:Int}(hx:Vg c x):dG { c with ci:=encl (encl c.ci [x]) (oA c x) }:=by
 have mem:∀z,z∈oA c x↔z∈aJ c x/\z≠x:=λz=>by
  unfold oA;rw[at4];simp
 have vg:∀z∈oA c x,Vg c z:=λz hz=>i.mem _ _ (i.at hx) z ((mem z).mp hz).1;have l1:(encl c.ci [x]).length=c.ci.length:=by unfold encl;rw[yC]
 have get:∀k:Nat,(encl (encl c.ci [x]) (oA c x))[k]?=if ((k:Int)+1∈oA c x)/\k<c.ci.length then some (oA c x) else if ((k:Int)+1=x)/\k<c.ci.length then some [x] else c.ci[k]?:=λk=>by
  rw[Ar _ _ _ λz hz=>(vg z hz).1,l1,Ar _ _ _ λz hz=>by rw[atF.mp hz];exact hx.1];simp only[atF]
 refine i.again (P:=λl=>l=oA c x/\l≠[]\/l=[x]) (by unfold encl;rw[yC,yC]) (λk l h=>?_) (λl hl=>?_) (λk j l h h' hj hk np=>?_)
 .rw[get]at h;split at h
  .next z=>
   cases h;exact .inl ⟨.inl ⟨rfl,List.ne_nil_of_mem z.1⟩,z.1⟩
  .split at h
   .next z=>
    cases h;exact .inl ⟨.inr rfl,by rw[z.1];simp⟩
   .exact .inr h
 .rcases hl with⟨rfl,_⟩|rfl
  .refine⟨(i.up _ _ (i.at hx)).filter _,λz hz=>⟨vg z hz,?_⟩⟩;have v:=vg z hz;have e:(((z-1).toNat:Nat):Int)+1=z:=by omega
   rw[get,e,au5 ⟨hz,by rw[i.len];omega⟩]
  .refine⟨by simp,λz hz=>?_⟩;rw[atF.mp hz];refine⟨hx,?_⟩;have e:(((x-1).toNat:Nat):Int)+1=x:=by omega
   rw[get,e,au6 (λz=>((mem x).mp z.1).2 rfl),au5 ⟨rfl,by rw[i.len];omega⟩]
 .have key:∀m:Nat,c.ci[m]?=some l->(m:Int)+1∈aJ c x->l=aJ c x:=λm hm q=>by
   have v:=i.mem _ _ (i.at hx) _ q;have:=i.at v;rw[show((m:Int)+1-1).toNat=m by omega,hm,i.eq hx q]at this;exact atY this
  have out:(k:Int)+1∉aJ c x:=λq=>by
   rw[get]at h;by_cases e:(k:Int)+1=x
   .rw[au6 (λz=>((mem _).mp z.1).2 e),au5 ⟨e,(aty.mp h').1⟩]at h;exact np (.inr (atY h).symm)
   .rw[au5 ⟨(mem _).mpr ⟨q,e⟩,(aty.mp h').1⟩]at h;have e2:=(atY h).symm;exact np (.inl ⟨e2,λz=>by rw[z]at hk;cases hk⟩)
  have outj:(j:Int)+1∉aJ c x:=λq=>out (key j hj q ▸ hk);have o1:¬((j:Int)+1∈oA c x/\j<c.ci.length):=λz=>outj ((mem _).mp z.1).1;have o2:¬((j:Int)+1=x/\j<c.ci.length):=λz=>outj (by rw[z.1];exact i.self hx);rw[get,au6 o1,au6 o2];exact hj
def Good(held:List Row3)(s:Sd):Prop:=cW s.ear=true/\(∀e,s.due=some e->cW e=true)/\(s.al=true->∃m,(s.o,s.g,m)∈held)
structure Vh(m:Nat)(c:aM):Prop where
 g:∀b∈c.bs,Good c.held b.sd
 en:∀b∈c.bs,b.en.length<=m
theorem Inv.X7{n s:Nat}{c:aM}(I:Inv n s c):Vh (2*n) c:=⟨λb hb=>⟨I.ear b hb,I.due b hb,I.rt b hb⟩,I.en⟩
theorem Rm{c:aM}{i:Nat}{e:En}{b:dB}(h:b∈(fX c i e).bs):b∈c.bs\/∃b0,c.bs[i]?=some b0/\b=o7 b0 e:=by
 obtain⟨j,hj⟩:=List.mem_iff_getElem?.mp h;rw[yx]at hj;split at hj
 .next z=>
  subst z;obtain⟨b0,h3,h4⟩:=aun.mp hj;exact .inr ⟨b0,h3,h4.symm⟩
 .exact .inl (atG hj)
theorem Vh.one{m:Nat}{c:aM}(B:Vh m c){i:Nat}{e:En}(h:∀b,c.bs[i]?=some b->Good c.held (go b.sd e)):Vh (m+1) (fX c i e):=by
 refine⟨λb hb=>?_,λb hb=>?_⟩
 .rcases Rm hb with h1|⟨b0,h1,rfl⟩
  .exact B.g b h1
  .exact h b0 h1
 .rcases Rm hb with h1|⟨b0,h1,rfl⟩
  .have:=B.en b h1;omega
  .have:=B.en b0 (atG h1);simp[o7];omega
theorem Vh.many{m:Nat}{c:aM}(B:Vh m c){p:dB->Bool}{e:En}(h:∀b∈c.bs,p b=true->Good c.held (go b.sd e)):Vh (m+1) (pK p e c):=by
 refine⟨λb hb=>?_,λb hb=>?_⟩
 .obtain⟨b0,h1,rfl⟩:=atM.mp hb;cases hp:p b0 with
  |true=>
   rw[au5 rfl];exact h b0 h1 hp
  |false=>
   rw[au6 (by simp)];exact B.g b0 h1
 .obtain⟨b0,h1,rfl⟩:=atM.mp hb;have:=B.en b0 h1;cases hp:p b0<;>simp[o7]<;>omega
theorem Good.mono{held held':List Row3}{s:Sd}(g:Good held s)(h:∀r∈held,r∈held'):Good held' s:=⟨g.1,g.2.1,λz=>by
 obtain⟨m,hm⟩:=g.2.2 z;exact⟨m,h _ hm⟩⟩
theorem Inv.of{n s n' s':Nat}{c c':aM}(I:Inv n s c)(hn:n<=n')(gr:dG c')(hal:c'.al.length<=n')(ec:c'.count=c.count)(eo:c'.own=c.own)(hd:c'.held.Nodup)(hL:c'.held.length+c'.bs.length<=s')(hE:∀r∈c'.held,r.1∈c'.own/\Vg c' r.2.1/\cW r.2.2=true)(B:Vh (2*n') c'):Inv n' s' c':=
 ⟨gr,hal,by have:=I.cnt;rw[ec];omega,by rw[ec,eo];exact I.own,by rw[eo];exact I.R4,by have:=I.ownL;rw[eo];omega,hd,hL,hE,λb hb=>(B.g b hb).1,λb hb=>(B.g b hb).2.1,B.en,λb hb=>(B.g b hb).2.2⟩
theorem adY{x:List Int}{p:Nat}(h:cW x=true)(h9:¬9<=x.getD p 0):cW (zu x p)=true:=by
 unfold cW at *;simp only[atx,au1,at7]at *;refine⟨by rw[adx];exact h.1,λd hd=>?_⟩;unfold zu at hd;obtain⟨i,hi,rfl⟩:=List.mem_mapIdx.mp hd;have:=h.2 _ (aum hi);split
 .next e=>
  subst e;have:x.getD i 0=x[i]:=by simp[hi]
  omega
 .exact this
theorem KZ{r:Row3}:∀(l acc:List Row3),r∈l.foldl Ik acc↔r∈acc\/r∈l
 |[],acc=>by simp
 |x::l,acc=>by
  rw[auJ,KZ l];unfold Ik;split
  .next h=>
   constructor
   .rintro(z|z)
    .exact .inl z
    .exact .inr (atA _ z)
   .rintro(z|z)
    .exact .inl z
    .rcases atO.mp z with rfl|z
     .exact .inl h
     .exact .inr z
  .simp[or_assoc]
theorem Vb:∀(l acc:List Row3),acc.Nodup->(l.foldl Ik acc).Nodup
 |[],acc,h=>h
 |x::l,acc,h=>by
  rw[auJ];refine Vb l _ ?_;unfold Ik;split
  .exact h
  .next z=>
   rw[auv];exact⟨h,by simp,λa ha b hb e=>z (by rw[atF.mp hb]at e;exact e ▸ ha)⟩
theorem aa5:∀(l acc:List Row3),(l.foldl Ik acc).length<=acc.length+l.length
 |[],acc=>by simp
 |x::l,acc=>by
  rw[auJ];refine at3 (aa5 l _) ?_;unfold Ik
  split<;>simp<;>omega
def cost:bx->Nat
 |.enrol ..=>1
 |.bring ..=>1
 |.bear ..=>1
 |.heir ..=>1
 |_=>0
theorem qu{o room:Int}{e:List Int}{R:List Rw}{x:Res}{d:Dat}{c':aM}(h:yG o e R room x=.ok d c'):x=.ok d c':=by
 unfold yG at h;split at h
 .exact h
 .cases h
theorem gM{c:aM}{o:Int}{x:Res}{d:Dat}{c':aM}(h:uQ c o x=.ok d c'):o∈c.own/\x=.ok d c':=by
 unfold uQ at h;split at h
 .next z=>exact⟨z,h⟩
 .cases h
theorem gY{c:aM}{g:Int}{x:Res}{d:Dat}{c':aM}(h:yW c g x=.ok d c'):Vg c g/\x=.ok d c':=by
 unfold yW at h;split at h
 .next z=>exact⟨z,h⟩
 .cases h
theorem Ed{e:List Int}{x:Res}{d:Dat}{c':aM}(h:Kf e x=.ok d c'):cW e=true/\x=.ok d c':=by
 unfold Kf at h;split at h
 .next z=>exact⟨z,h⟩
 .cases h
theorem iH{c:aM}{o g:Int}{x:Res}{d:Dat}{c':aM}(h:pA c o g x=.ok d c'):bZ c o g≠[]/\x=.ok d c':=by
 unfold pA at h;split at h
 .cases h
 .next z=>exact⟨z,h⟩
theorem uO{c:aM}{k:Int}{f:dB->Res}{d:Dat}{c':aM}(h:yu c k f=.ok d c'):∃b,bk c k=some b/\b.sd.al=true/\f b=.ok d c':=by
 unfold yu at h;split at h
 .cases h
 .next b hb=>
  split at h
  .next z=>exact⟨b,hb,z,h⟩
  .cases h
theorem tO{c:aM}{k:Int}{f:dB->List Int->Res}{d:Dat}{c':aM}(h:markB c k f=.ok d c'):∃b e,bk c k=some b/\b.sd.al=true/\b.sd.due=some e/\f b e=.ok d c':=by
 obtain⟨b,h1,h2,h3⟩:=uO h;split at h3
 .cases h3
 .next e he=>exact⟨b,e,h1,h2,he,h3⟩
theorem fK{p:Prop}[Decidable p]{x:eX}{y:Res}{d:Dat}{c':aM}(h:(if p then .no x else y)=Res.ok d c'):¬p/\y=.ok d c':=by
 split at h
 .cases h
 .next z=>exact⟨z,h⟩
theorem wL{p:Prop}[Decidable p]{x:eX}{y:Res}{d:Dat}{c':aM}(h:(if p then y else .no x)=Res.ok d c'):p/\y=.ok d c':=by
 split at h
 .next z=>exact⟨z,h⟩
 .cases h
theorem jP{c:aM}{k:Int}{b:dB}(h:bk c k=some b):c.bs[(k-1).toNat]?=some b/\1<=k/\k<=c.bs.length:=by
 unfold bk at h;split at h
 .next z=>exact⟨h,z⟩
 .cases h
theorem Uh(c:aM)(k o g:Int):(yV c k o g).bs.length=c.bs.length:=by simp[yV,pK]
theorem Fy(c:aM)(i:Nat)(e:En):(fX c i e).bs.length=c.bs.length:=by simp[fX]
theorem abS{n s:Nat}{c c':aM}{d:bx}{r:Dat}(I:Inv n s c)(hn:c.al.length<=199)(h:cO c d=.ok r c'):Inv (n+1) (s+cost d) c':=by
 have L0:=I.hL;have A0:=I.al;have C0:=I.cnt;have O0:=I.ownL;have up:Vh (2*(n+1)) c:=⟨I.X7.g,λb hb=>by have:=I.en b hb;omega⟩;cases d with
 |owner=>
  cases h;refine⟨I.gr.same rfl rfl,by show c.al.length<=_;omega,⟨by show 0<=c.count+1;omega,by show c.count+1<=((n+1:Nat):Int);omega⟩,λo ho=>?_,?_,by simp;omega,I.held,by simp[cost];omega,λr hr=>?_,I.ear,I.due,up.en,I.rt⟩
  .show 1<=o/\o<=c.count+1;rcases atL.mp ho with ho|ho
   .have:=I.own o ho;omega
   .rw[atF.mp ho];omega
  .rw[auv];refine⟨I.R4,by simp,λa ha b hb e=>?_⟩;rw[atF.mp hb]at e;have:=I.own a ha;omega
  .obtain⟨h1,h2,h3⟩:=I.hE r hr;exact⟨aui _ h1,h2,h3⟩
 |ground x=>
  obtain⟨hx,h⟩:=wL h;cases h;refine I.of (by omega) (I.gr.add (by omega) hx) (by simp;omega) rfl rfl I.held (by simp[cost];omega) (λr hr=>?_) ⟨up.g,up.en⟩;obtain⟨h1,h2,h3⟩:=I.hE r hr;refine⟨h1,?_,h3⟩;show 1<=_/\_<=((c.al++[x]).length:Int);rw[auj];have:=h2.2;exact⟨h2.1,by omega⟩
 |enrol o g m=>
  obtain⟨h1,h⟩:=gM h;obtain⟨h2,h⟩:=gY h;obtain⟨h3,h⟩:=Ed h;obtain⟨h4,h⟩:=fK h;obtain⟨h5,h⟩:=fK h;have h:=qu h;cases h;refine I.of (by omega) (I.gr.same rfl rfl) (by show c.al.length<=_;omega) rfl rfl ?_ (by simp[cost];omega) (λr hr=>?_) ⟨λb hb=>(up.g b hb).mono λr hr=>aui _ hr,up.en⟩
  .rw[auv];refine⟨I.held,by simp,λa ha b hb e=>?_⟩;rw[atF.mp hb]at e;exact h5 (Hf.mpr (e ▸ ha))
  .rcases atL.mp hr with hr|hr
   .exact I.hE r hr
   .rw[atF.mp hr];exact⟨h1,h2,h3⟩
 |leave o g=>
  obtain⟨h1,h⟩:=gM h;obtain⟨h2,h⟩:=gY h;obtain⟨h3,h⟩:=iH h;obtain⟨h4,h⟩:=fK h;cases h;have sub:∀r∈dropped c o g,r∈c.held:=λr hr=>(at4.mp hr).1;have ln:(dropped c o g).length<=c.held.length:=atU _ _;refine I.of (by omega) (I.gr.same rfl rfl) (by show c.al.length<=_;omega) rfl rfl (I.held.filter _) (by simp[cost];omega) (λr hr=>I.hE r (sub r hr)) ⟨λb hb=>⟨(up.g b hb).1,(up.g b hb).2.1,λhal=>?_⟩,up.en⟩;obtain⟨m,hm⟩:=(up.g b hb).2.2 hal;refine⟨m,at4.mpr ⟨hm,?_⟩⟩;simp only[atV,Bool.and_eq_false_iff,beq_eq_false_iff_ne];by_cases e:b.sd.o=o/\b.sd.g=g
  .exfalso;refine h4 (List.any_eq_true.mpr ⟨b,hb,?_⟩);simp[Zj,hal,e.1,e.2]
  .by_cases e1:b.sd.o=o
   .exact .inr λz=>e ⟨e1,z⟩
   .exact .inl e1
 |bring o g e=>
  obtain⟨h1,h⟩:=gM h;obtain⟨h2,h⟩:=gY h;obtain⟨h3,h⟩:=Ed h;obtain⟨h4,h⟩:=iH h;cases h;refine I.of (by omega) (I.gr.same rfl rfl) (by show c.al.length<=_;omega) rfl rfl I.held (by simp[cost];omega) I.hE ⟨λb hb=>?_,λb hb=>?_⟩
  .rcases atL.mp hb with hb|hb
   .exact up.g b hb
   .rw[atF.mp hb];exact⟨h3,λe z=>(by cases z),λ_=>Aq.mp h4⟩
  .rcases atL.mp hb with hb|hb
   .exact up.en b hb
   .rw[atF.mp hb];simp[Bm]
 |bear k=>
  obtain⟨b0,e0,h1,h2,h3,h⟩:=tO h;cases h;refine I.of (by omega) (I.gr.same rfl rfl) (by show c.al.length<=_;omega) rfl rfl I.held (by simp[cost];omega) I.hE ⟨λb hb=>?_,λb hb=>?_⟩
  .rcases atL.mp hb with hb|hb
   .exact up.g b hb
   .rw[atF.mp hb];exact⟨(by decide:cW [0,0,0,0,0,0]=true),λe z=>(by cases z),λ_=>(up.g b0 (atG (jP h1).1)).2.2 h2⟩
  .rcases atL.mp hb with hb|hb
   .exact up.en b hb
   .rw[atF.mp hb];simp[Bm]
 |cut k=>
  obtain⟨b0,h1,h2,h⟩:=uO h;have h:=qu h;cases h;have hm:=atG (jP h1).1;obtain⟨r,q4,q5⟩:=I.mk1 (I.alive hm h2).1;have je:=yS (I.ear b0 hm) q5;generalize lg b0.sd.ear (firstM c b0.sd.o b0.sd.g)=e at je |-
  have B:=I.X7.one (i:=(k-1).toNat) (e:=.cut e) λb hb=>by
   rw[(jP h1).1]at hb;cases hb;exact⟨je,λe z=>(by cases z;exact je),λ_=>I.rt b0 hm h2⟩
  exact I.of (by omega) (I.gr.same rfl rfl) (by show c.al.length<=_;omega) rfl rfl I.held (by rw[Fy];simp[cost,fX];omega) I.hE ⟨B.g,λb hb=>by have:=B.en b hb;omega⟩
 |tear k p=>
  obtain⟨b0,h1,h2,h⟩:=uO h;obtain⟨h3,h⟩:=wL h;obtain⟨h4,h⟩:=fK h;cases h;have hm:=atG (jP h1).1;have B:=I.X7.one (i:=(k-1).toNat) (e:=.torn p.toNat) λb hb=>by
   rw[(jP h1).1]at hb;cases hb;exact⟨adY (I.ear b0 hm) h4,I.due b0 hm,I.rt b0 hm⟩
  exact I.of (by omega) (I.gr.same rfl rfl) (by show c.al.length<=_;omega) rfl rfl I.held (by rw[Fy];simp[cost,fX];omega) I.hE ⟨B.g,λb hb=>by have:=B.en b hb;omega⟩
 |die k=>
  obtain⟨b0,h1,h2,h⟩:=uO h;cases h;have hm:=atG (jP h1).1;have B:=I.X7.one (i:=(k-1).toNat) (e:=.died) λb hb=>by
   rw[(jP h1).1]at hb;cases hb;exact⟨I.ear b0 hm,I.due b0 hm,λz=>by cases z⟩
  exact I.of (by omega) (I.gr.same rfl rfl) (by show c.al.length<=_;omega) rfl rfl I.held (by rw[Fy];simp[cost,fX];omega) I.hE ⟨B.g,λb hb=>by have:=B.en b hb;omega⟩
 |sell k o=>
  obtain⟨b0,e0,h1,h2,h3,h⟩:=tO h;obtain⟨h4,h⟩:=gM h;obtain⟨h5,h⟩:=fK h;obtain⟨h6,h⟩:=iH h;have h:=qu h;cases h;have hm:=atG (jP h1).1;obtain⟨r,q4,q5⟩:=I.mk1 h6;have je:=yS (I.ear b0 hm) q5;generalize lg b0.sd.ear (firstM c o b0.sd.g)=e at je |-
  have B:=I.X7.one (i:=(k-1).toNat) (e:=.sold o e) λb hb=>by
   rw[(jP h1).1]at hb;cases hb;exact⟨je,λe z=>(by cases z;exact je),λ_=>Aq.mp h6⟩
  have B2:=B.many (p:=λx=>wg k x&&x.sd.al) (e:=.followed o b0.sd.g) λb hb _=>⟨(B.g b hb).1,(B.g b hb).2.1,λ_=>Aq.mp h6⟩;exact I.of (by omega) (I.gr.same rfl rfl) (by show c.al.length<=_;omega) rfl rfl I.held (by rw[Uh,Fy];simp[cost,fX,yV,pK];omega) I.hE ⟨B2.g,λb hb=>by have:=B2.en b hb;omega⟩
 |move k g=>
  obtain⟨b0,e0,h1,h2,h3,h⟩:=tO h;obtain⟨h4,h⟩:=gY h;obtain⟨h5,h⟩:=fK h;obtain⟨h6,h⟩:=iH h;have h:=qu h;cases h;have hm:=atG (jP h1).1;have B:=I.X7.one (i:=(k-1).toNat) (e:=.moved g) λb hb=>by
   rw[(jP h1).1]at hb;cases hb;exact⟨I.ear b0 hm,I.due b0 hm,λ_=>Aq.mp h6⟩
  have B2:=B.many (p:=λx=>wg k x&&x.sd.al) (e:=.followed b0.sd.o g) λb hb _=>⟨(B.g b hb).1,(B.g b hb).2.1,λ_=>Aq.mp h6⟩;exact I.of (by omega) (I.gr.same rfl rfl) (by show c.al.length<=_;omega) rfl rfl I.held (by rw[Uh,Fy];simp[cost,fX,yV,pK];omega) I.hE ⟨B2.g,λb hb=>by have:=B2.en b hb;omega⟩
 |wz x y=>
  obtain⟨h1,h⟩:=gY h;obtain⟨h2,h⟩:=gY h;obtain⟨h3,h⟩:=fK h;split at h
  .cases h
  .cases h;exact I.of (by omega) (I.gr.wz h2 h1 h3) (by show c.al.length<=_;omega) rfl rfl I.held (by show c.held.length+c.bs.length<=_;omega) I.hE ⟨up.g,up.en⟩
 |part x=>
  obtain⟨h1,h⟩:=gY h;obtain⟨h3,h⟩:=fK h;cases h;exact I.of (by omega) (I.gr.part h1) (by show c.al.length<=_;omega) rfl rfl I.held (by show c.held.length+c.bs.length<=_;omega) I.hE ⟨up.g,up.en⟩
 |pass e h'=>
  obtain⟨h1,h⟩:=gM h;obtain⟨h2,h⟩:=gM h;obtain⟨h3,h⟩:=fK h;cases h;have hin:∀r∈c.held,BK e h' r∈handed c e h':=λr hr=>(KZ _ _).mpr (.inr (atM.mpr ⟨r,hr,rfl⟩));have hout:∀r∈handed c e h',∃r0∈c.held,BK e h' r0=r:=λr hr=>by
   rcases(KZ _ _).mp hr with z|z
   .cases z
   .obtain⟨r0,z1,z2⟩:=atM.mp z;exact⟨r0,z1,z2⟩
  have hl:(handed c e h').length<=c.held.length:=by have:=aa5 (c.held.map (BK e h')) [];simpa [handed] using this
  have ow:∀o,o∈c.own.filter (λo=>!(o==e))↔o∈c.own/\o≠e:=λo=>by
   rw[at4];simp
  have g:∀b∈(pK (λb=>(b.sd.o==e)&&b.sd.al) (.passed h') c).bs,Good (handed c e h') b.sd:=λb hb=>by
   obtain⟨b0,hb0,rfl⟩:=atM.mp hb;have G:=up.g b0 hb0;cases hp:((b0.sd.o==e)&&b0.sd.al) with
   |true=>
    simp only[hp,if_true];refine⟨G.1,G.2.1,λhal=>?_⟩;obtain⟨m,hm⟩:=G.2.2 hal;have:=hin _ hm;simp at hp;rw[hp.1]at this;exact⟨m,by simpa [BK,o7,go] using this⟩
   |false=>
    simp only[hp];refine⟨G.1,G.2.1,λhal=>?_⟩;obtain⟨m,hm⟩:=G.2.2 hal;have:=hin _ hm;have hal:b0.sd.al=true:=hal;rw[hal]at hp;simp at hp;exact⟨m,by simpa [BK,hp] using this⟩
  have en:∀b∈(pK (λb=>(b.sd.o==e)&&b.sd.al) (.passed h') c).bs,b.en.length<=2*(n+1):=λb hb=>by
   obtain⟨b0,hb0,rfl⟩:=atM.mp hb;have:=I.en b0 hb0
   dsimp only
   split
   .simp[o7];omega
   .omega
  refine⟨I.gr.same rfl rfl,by show c.al.length<=_;omega,⟨C0.1,by show c.count<=_;omega⟩,λo ho=>I.own o ((ow o).mp ho).1,I.R4.filter _,?_,Vb _ _ (by simp),?_,λr hr=>?_,λb hb=>(g b hb).1,λb hb=>(g b hb).2.1,en,λb hb=>(g b hb).2.2⟩
  .show(c.own.filter _).length<=_
   have:=atU (λo=>!(o==e)) c.own;omega
  .show(handed c e h').length+(pK _ _ c).bs.length<=_
   simp[pK];omega
  .obtain⟨r0,z1,rfl⟩:=hout r hr;obtain⟨q1,q2,q3⟩:=I.hE r0 z1;refine⟨(ow _).mpr ?_,q2,q3⟩;unfold BK;by_cases z:r0.1=e
   .simp only[z,if_true];exact⟨h2,λq=>h3 q.symm⟩
   .simp only[z,if_false];exact⟨q1,z⟩
 |heir e g x=>
  obtain⟨h1,h⟩:=gM h;obtain⟨h2,h⟩:=gY h;obtain⟨h3,h⟩:=wL h;obtain⟨h4,h⟩:=iH h;split at h
  .next mk hmk=>
   cases h;obtain⟨r,q4,q5⟩:=I.mk1 h4;have hme:cW mk=true:=Xi q5 ⟨by omega,h3.2⟩ (at4.mp (List.mem_of_find?_eq_some hmk)).1;refine⟨I.gr.same rfl rfl,by show c.al.length<=_;omega,⟨by show 0<=c.count+1;omega,by show c.count+1<=((n+1:Nat):Int);omega⟩,λo ho=>?_,?_,by simp;omega,?_,by simp[cost];omega,λr hr=>?_,I.ear,I.due,up.en,λb hb hal=>?_⟩
   .show 1<=o/\o<=c.count+1;rcases atL.mp ho with ho|ho
    .have:=I.own o ho;omega
    .rw[atF.mp ho];omega
   .rw[auv];refine⟨I.R4,by simp,λa ha b hb e=>?_⟩;rw[atF.mp hb]at e;have:=I.own a ha;omega
   .rw[auv];refine⟨I.held,by simp,λa ha b hb e=>?_⟩;rw[atF.mp hb]at e;have:=I.own _ (I.hE a ha).1;rw[e]at this;simp at this;omega
   .rcases atL.mp hr with hr|hr
    .obtain⟨z1,z2,z3⟩:=I.hE r hr;exact⟨aui _ z1,z2,z3⟩
    .rw[atF.mp hr];exact⟨aul _ (by simp),h2,hme⟩
   .obtain⟨m,hm⟩:=I.rt b hb hal;exact⟨m,aui _ hm⟩
  .cases h
theorem ahc{n s:Nat}{c c':aM}{d:bx}{r:Dat}(I:Inv n s c)(hn:n<=199)(h:cO c d=.ok r c'):Inv (n+1) (s+cost d) c':=abS I (at3 I.al hn) h
def nB(x:Int):Bool:=decide (0<=x)&&decide (x<=999999999)
def plB(x:Int):Bool:=decide (0<=x)&&decide (x<=5)
theorem o9(M:Mo)(x:Int):jw M [.str "number",.int x]=.ok (.bool (nB x)):=by by_cases h:0<=x<;>simp[jw,xR,qN,jB,wY,yK,h,nB]
theorem jC(M:Mo)(x:Int):jw M [.str "place",.int x]=.ok (.bool (plB x)):=by by_cases h:0<=x<;>simp[jw,xR,qN,jB,wY,yK,h,plB]
theorem afj(M:Mo)(x:List Int)(h:x.length<=1000):jw M [.str "ear",aH x]=.ok (.bool (cW x)):=by have:=Ym M x h;simp[jw,xR,wY,yK,this]
def fU:bx->Bool
 |.owner=>true
 |.ground x=>nB x
 |.enrol o g m=>nB o&&nB g&&cW m
 |.leave o g=>nB o&&nB g
 |.bring o g m=>nB o&&nB g&&cW m
 |.bear k=>nB k
 |.cut k=>nB k
 |.tear k p=>nB k&&plB p
 |.sell k o=>nB k&&nB o
 |.move k g=>nB k&&nB g
 |.die k=>nB k
 |.wz x y=>nB x&&nB y
 |.part x=>nB x
 |.pass e h=>nB e&&nB h
 |.heir e g x=>nB e&&nB g&&nB x
def BR:bx->Prop
 |.enrol _ _ m=>m.length<=1000
 |.bring _ _ m=>m.length<=1000
 |_=>True
theorem jD(M:Mo)(w:Str)(T:List (Str×Dat×Bool))(hk:(Cd Ay).lookup w=some (.tuple (T.map λt=>.str t.1)))(hl:T.length<=10)(hp:∀t∈T,jw M [.str t.1,t.2.1]=.ok (.bool t.2.2)):JK M [.tuple (.str w::T.map λt=>t.2.1)]=.ok (.bool (T.all λt=>t.2.2)):=by
 have hs:Rf.cutD (PyData.str w::T.map λt=>t.2.1) (some 1) none=T.map λt=>t.2.1:=Kh _ 1;have hz:yX (T.map λt=>PyData.str t.1) (T.map λt=>t.2.1)=T.map λt=>.tuple [.str t.1,t.2.1]:=by unfold yX;rw[List.zipWith_map_left,List.zipWith_map_right,List.zipWith_self]
 have key:=fG (tg:=bB [3,4]) (te:=aR jw (aj (aq 3) (aj (aq 4) au))) (M:=M) (Z:=[some (.dat (.tuple (.str w::T.map λt=>t.2.1))),some (.dat (.tuple (T.map λt=>.str t.1))),some (.dat (.tuple (T.map λt=>t.2.1))),none,none]) (λ(t:Str×Dat×Bool)=>PyData.tuple [.str t.1,t.2.1]) (λt=>.bool t.2.2) T λt ht=>⟨[some (.dat (.tuple (.str w::T.map λt=>t.2.1))),some (.dat (.tuple (T.map λt=>.str t.1))),some (.dat (.tuple (T.map λt=>t.2.1))),some (.dat (.str t.1)),some (.dat t.2.1)],by simp,by simp[hp t ht]⟩;have ha:KH (.list (T.map λt=>PyData.bool t.2.2))=.ok (.bool (T.all λt=>t.2.2)):=by
  have e:(T.map λt=>PyData.bool t.2.2)=(T.map λt=>t.2.2).map PyData.bool:=by rw[aua];rfl
  rw[e]
  show(match tY _ with
   |some bs=>Out.ok (PyData.bool (bs.all id))
   |none=>.bad)=_
  rw[CQ];simp[List.all_map,at5]
 have hl2:T.length<=50000:=by omega
 have hne:¬(T.length:Int)+1=0:=by omega
 simp[JK,aaS,hk,hs,hz,key,hl2,ha,hne]
theorem acX(M:Mo)(d:bx)(hd:BR d):JK M [d.dat]=.ok (.bool (fU d)):=by
 cases d with
 |owner=>simpa [fU,bx.dat,Bool.and_assoc] using jD M "owner" [] (by rfl) (by simp) (by simp[o9,jC])
 |ground x=>simpa [fU,bx.dat,Bool.and_assoc] using jD M "ground" [("number",.int x,nB x)] (by rfl) (by simp) (by simp[o9,jC])
 |enrol o g m=>simpa [fU,bx.dat,Bool.and_assoc] using jD M "enrol" [("number",.int o,nB o),("number",.int g,nB g),("ear",aH m,cW m)] (by rfl) (by simp) (by simp[o9,jC,afj M m hd])
 |leave o g=>simpa [fU,bx.dat,Bool.and_assoc] using jD M "leave" [("number",.int o,nB o),("number",.int g,nB g)] (by rfl) (by simp) (by simp[o9,jC])
 |bring o g m=>simpa [fU,bx.dat,Bool.and_assoc] using jD M "bring" [("number",.int o,nB o),("number",.int g,nB g),("ear",aH m,cW m)] (by rfl) (by simp) (by simp[o9,jC,afj M m hd])
 |bear k=>simpa [fU,bx.dat,Bool.and_assoc] using jD M "bear" [("number",.int k,nB k)] (by rfl) (by simp) (by simp[o9,jC])
 |cut k=>simpa [fU,bx.dat,Bool.and_assoc] using jD M "cut" [("number",.int k,nB k)] (by rfl) (by simp) (by simp[o9,jC])
 |tear k p=>simpa [fU,bx.dat,Bool.and_assoc] using jD M "tear" [("number",.int k,nB k),("place",.int p,plB p)] (by rfl) (by simp) (by simp[o9,jC])
 |sell k o=>simpa [fU,bx.dat,Bool.and_assoc] using jD M "sell" [("number",.int k,nB k),("number",.int o,nB o)] (by rfl) (by simp) (by simp[o9,jC])
 |move k g=>simpa [fU,bx.dat,Bool.and_assoc] using jD M "move" [("number",.int k,nB k),("number",.int g,nB g)] (by rfl) (by simp) (by simp[o9,jC])
 |die k=>simpa [fU,bx.dat,Bool.and_assoc] using jD M "die" [("number",.int k,nB k)] (by rfl) (by simp) (by simp[o9,jC])
 |wz x y=>simpa [fU,bx.dat,Bool.and_assoc] using jD M "unite" [("number",.int x,nB x),("number",.int y,nB y)] (by rfl) (by simp) (by simp[o9,jC])
 |part x=>simpa [fU,bx.dat,Bool.and_assoc] using jD M "part" [("number",.int x,nB x)] (by rfl) (by simp) (by simp[o9,jC])
 |pass e h=>simpa [fU,bx.dat,Bool.and_assoc] using jD M "pass" [("number",.int e,nB e),("number",.int h,nB h)] (by rfl) (by simp) (by simp[o9,jC])
 |heir e g x=>simpa [fU,bx.dat,Bool.and_assoc] using jD M "heir" [("number",.int e,nB e),("number",.int g,nB g),("number",.int x,nB x)] (by rfl) (by simp) (by simp[o9,jC])
theorem dh{M:Mo}{L:Lay}{o o':bG Dat}{r:Res}(h:Sp M L o r)(e:o'=o):Sp M L o' r:=e ▸ h
section
variable{M:Mo}{L:Lay}{c:aM}(a:At M L c){n s:Nat}(I:Inv n s c)(hs:s<=76)(hn:n<=199)
include a I hs hn
theorem an0(d:bx)(hd:BR d)(hf:fU d=true):Sp M L (cJ M [ob L.c,d.dat]) (cO c d):=by
 have hc:=a.hc;have h0:=acX M d hd;rw[hf]at h0;cases d with
 |owner=>
  simp only[bx.dat]at h0 |-
  refine dh (aco a I hn) ?_;simp[cJ,cY,h0,hc,aO,dI];cases gU M _<;>rfl
 |ground x=>
  simp only[bx.dat]at h0 |-
  refine dh (aac a I hn x) ?_;simp[cJ,cY,h0,hc,aO,iz];cases fZ M _<;>rfl
 |enrol o g m=>
  simp only[bx.dat]at h0 |-
  refine dh (adb a I hs o g m hd) ?_;simp[cJ,cY,h0,hc,aO,lH];cases dU M _<;>rfl
 |leave o g=>
  simp only[bx.dat]at h0 |-
  refine dh (acJ a I hs o g) ?_;simp[cJ,cY,h0,hc,aO,lK];cases fO M _<;>rfl
 |bring o g m=>
  simp only[bx.dat]at h0 |-
  refine dh (acA a I hs o g m hd) ?_;simp[cJ,cY,h0,hc,aO,lF];cases fP M _<;>rfl
 |bear k=>
  simp only[bx.dat]at h0 |-
  refine dh (afV a I hs k) ?_;simp[cJ,cY,h0,hc,aO,mY];cases iY M _<;>rfl
 |cut k=>
  simp only[bx.dat]at h0 |-
  refine dh (aia a I hs (by omega) k) ?_;simp[cJ,cY,h0,hc,aO,oR];cases jA M _<;>rfl
 |tear k p=>
  simp only[bx.dat]at h0 |-
  refine dh (ags a I hs k p (by omega)) ?_;simp[cJ,cY,h0,hc,aO,mO];cases fL M _<;>rfl
 |sell k o=>
  simp only[bx.dat]at h0 |-
  refine dh (afo a I hs (by omega) k o) ?_;simp[cJ,cY,h0,hc,aO,mV];cases dO M _<;>rfl
 |move k g=>
  simp only[bx.dat]at h0 |-
  refine dh (afQ a I hs (by omega) k g) ?_;simp[cJ,cY,h0,hc,aO,mU];cases dR M _<;>rfl
 |die k=>
  simp only[bx.dat]at h0 |-
  refine dh (aiG a I hs k (by omega)) ?_;simp[cJ,cY,h0,hc,aO,oW];cases kW M _<;>rfl
 |wz x y=>
  simp only[bx.dat]at h0 |-
  refine dh (acM a I hs (by omega) x y) ?_;simp[cJ,cY,h0,hc,aO,yE];cases eY M _<;>rfl
 |part x=>
  simp only[bx.dat]at h0 |-
  refine dh (afc a I hs (by omega) x) ?_;simp[cJ,cY,h0,hc,aO,zF];cases iV M _<;>rfl
 |pass e h=>
  simp only[bx.dat]at h0 |-
  refine dh (af9 a I hs (by omega) e h) ?_;simp[cJ,cY,h0,hc,aO,jO];cases fH M _<;>rfl
 |heir e g x=>
  simp only[bx.dat]at h0 |-
  refine dh (aeI a I hs (by omega) e g x) ?_;simp[cJ,cY,h0,hc,aO,jh];cases cV M _<;>rfl
end
theorem abt{c:aM}{d:bx}{x:eX}(h:cO c d=.no x):oX.lookup x.cls=some true:=by cases d<;>simp only[cO,uQ,yW,Kf,pA,yG,yu,markB,Jb]at h<;>(repeat' split at h)<;>cases h<;>simp[oX]
def aat:bx->Nat
 |.owner=>1
 |.heir ..=>1
 |_=>0
def ZW:bx->Nat
 |.ground _=>1
 |_=>0
def dBs:bx->Nat
 |.bring ..=>1
 |.bear _=>1
 |_=>0
theorem Q6{c c':aM}{d:bx}{r:Dat}(h:cO c d=.ok r c'):c'.count=c.count+(aat d:Int)/\c'.al.length=c.al.length+ZW d/\c'.bs.length=c.bs.length+dBs d/\(jE .none r=true->aat d=0/\ZW d=0/\dBs d=0):=by cases d<;>simp only[cO,uQ,yW,Kf,pA,yG,yu,markB]at h<;>(repeat' split at h)<;>cases h<;>simp[aat,ZW,dBs,jE,fX,yV,pK,lI]
def pW(c:aM)(d:bx):aM:=match cO c d with
 |.ok _ c'=>c'
 |.no _=>c
def cI(c:aM):Dat:=.tuple [.int c.count,.int c.al.length,.int c.bs.length]
section
variable{M:Mo}{L:Lay}{c:aM}(a:At M L c){n s:Nat}(I:Inv n s c)(hs:s<=76)(hn:n<=199)
include I hn
omit hn in
theorem Lh(d:bx)(hn:n<=199):Inv (n+1) (s+cost d) (pW c d):=by
 unfold pW;cases h:cO c d with
 |ok r c'=>exact ahc I hn h
 |no x=>
  have h1:=I.hL;have h2:=I.al;exact I.of (by omega) I.gr (by show c.al.length<=_;omega) rfl rfl I.held (by show c.held.length+c.bs.length<=_;omega) I.hE ⟨I.X7.g,λb hb=>by have:=I.en b hb;omega⟩
include a hs
theorem acW(d:bx)(hd:BR d)(hf:fU d=true):∃M' bs,nO M [ob L.c,d.dat,cI c]=.ok (cI (pW c d)) M'/\At M' { L with bs:=bs } (pW c d):=by
 have hc:=a.hc;have h0:=an0 a I hs hn d hd hf;unfold pW;cases e:cO c d with
 |no x=>
  rw[e]at h0;have h0:_=_:=h0;have h1:=abt e;exact⟨M,L.bs,by simp[nO,Jr,hc,aO,qD,h0,h1,jE],a⟩
 |ok r c'=>
  rw[e]at h0;obtain⟨M',bs,h0,h2⟩:=h0;obtain⟨q1,q2,q3,q4⟩:=Q6 e;refine⟨M',bs,?_,h2⟩;have e1:(c'.al.length:Int)=c.al.length+(ZW d:Int):=by omega
  have e2:(c'.bs.length:Int)=c.bs.length+(dBs d:Int):=by omega
  cases hr:jE .none r with
  |true=>
   obtain⟨z1,z2,z3⟩:=q4 hr;simp[z1,z2,z3]at q1 e1 e2;simp[nO,Jr,hc,aO,qD,h0,hr,cI,q1,e1,e2]
  |false=>
   clear q4 q2 q3 e hf hd;cases d<;>simp[aat,ZW,dBs]at q1 e1 e2<;>simp[nO,Jr,hc,aO,qD,h0,hr,cI,q1,e1,e2]<;>simp[bx.dat]
end
def Qn(f:Int):Int:=if f=9 then -1 else if f=8 then 3 else if f=7 then 2 else if f=6 then 1 else if f=5 then 1 else 0
def Qe(d f:Int):Int:=RJ 0 (if d+Qn f<9 then d+Qn f else 9)
def Ua(x f:List Int):List Int:=(x.zip f).map λp=>Qe p.1 p.2
theorem agq(M:Mo)(x0 x1:Option Cell)(acc:List Dat)(d f:Int)(x5:Option Cell)(hf:0<=f/\f<10)(hl:acc.length<1000):∃x5',RG M [x0,x1,some (.mut acc),some (.dat (.int d)),some (.dat (.int f)),x5]=.next [x0,x1,some (.mut (acc++[.int (Qe d f)])),some (.dat (.int d)),some (.dat (.int f)),x5'] M:=by
 have hl2:acc.length<100000:=by omega
 have key:∀k:Nat,k<10->([0,0,0,0,0,1,1,2,3,-1]:List Int)[k]?=some (Qn k):=by decide
 obtain⟨k,rfl⟩:∃k:Nat,f=k:=⟨f.toNat,by omega⟩;have hk:=key k (by omega);have h2:atI (([0,0,0,0,0,1,1,2,3,-1]:List Int).map PyData.int) (k:Int)=some (.int (Qn k)):=atI_nat (by rw[atR,hk];rfl);refine⟨some (.dat (.int (Qn k))),?_⟩;have h3:aZ (aF 5) (gOf (aA aN (bD (aj (qC (.int 0)) (aj (qC (.int 0)) (aj (qC (.int 0)) (aj (qC (.int 0)) (aj (qC (.int 0)) (aj (qC (.int 1)) (aj (qC (.int 1)) (aj (qC (.int 2)) (aj (qC (.int 3)) (aj (eE Rv (qC (.int 1))) au))))))))))) (ao 4))) M [x0,x1,some (.mut acc),some (.dat (.int d)),some (.dat (.int k)),x5]=.next [x0,x1,some (.mut acc),some (.dat (.int d)),some (.dat (.int k)),some (.dat (.int (Qn k)))] M:=by
  show(((match atI (([0,0,0,0,0,1,1,2,3,-1]:List Int).map PyData.int) (k:Int) with
   |some d=>Out.ok d
   |none=>.bad).at M).then _ λd M'=>_)=_
  rw[h2];rfl
 show aC _ _ _ _=_;rw[aku,h3];simp[hl2,Qe,RJ]
theorem Xz(M:Mo)(x0 x1:Option Cell):∀(ps:List (Int×Int)) (acc:List Dat) (x3 x4 x5:Option Cell),(∀p∈ps,0<=p.2/\p.2<10)->acc.length+ps.length<=500->∃x3' x4' x5',dX (bB [3,4]) RG (ps.map pD) M [x0,x1,some (.mut acc),x3,x4,x5]=.next [x0,x1,some (.mut (acc++ps.map λp=>.int (Qe p.1 p.2))),x3',x4',x5'] M
 |[],acc,x3,x4,x5,_,_=>⟨x3,x4,x5,by simp[dX]⟩
 |p::ps,acc,x3,x4,x5,h,hl=>by
  rw[atQ]at hl;obtain⟨x5',e⟩:=agq M x0 x1 acc p.1 p.2 x5 (h p atD) (by omega);obtain⟨y3,y4,y5,ih⟩:=Xz M x0 x1 ps (acc++[.int (Qe p.1 p.2)]) (some (.dat (.int p.1))) (some (.dat (.int p.2))) x5' (λq hq=>h q (atA _ hq)) (by simp;omega);refine⟨y3,y4,y5,?_⟩;rw[atE,fD (Z1:=[x0,x1,some (.mut acc),some (.dat (.int p.1)),some (.dat (.int p.2)),x5]) (by simp[pD]) e,ih];simp
theorem ajC(M:Mo)(x f:List Int)(hx:x.length<=100)(hf:∀d∈f,0<=d/\d<10):Pk M [aH x,lI f]=.ok (aH (Ua x f)):=by obtain⟨y3,y4,y5,e⟩:=Xz M (some (.dat (aH x))) (some (.dat (lI f))) (x.zip f) [] none none none (λp hp=>hf _ (List.of_mem_zip hp).2) (by simp;omega);simp[Pk,abk,vH,e,Ua]
def Jq(f:List Int)(m:Int)(x:List Int):List Int:=if m<4 then Ua x f else BJ f m
theorem adA(M:Mo)(x f:List Int)(m:Int)(hx:x.length<=100)(hl:f.length<=1000)(hf:∀d∈f,0<=d/\d<10):yU M [lI f,.int m,aH x]=.ok (aH (Jq f m x)):=by have h1:=ajC M x f hx hf;have h2:=XJ M f m hl;unfold Jq;by_cases h:m<4<;>simp[yU,Np,h,h1,h2]
theorem ac0{x:List Int}(h:x.length=6)(h2:∀d∈x,0<=d/\d<10):cW x=true:=by unfold cW;simp only[atx,au1,at7];refine⟨h,λd hd=>?_⟩;have:=h2 d hd;omega
theorem aeQ{x f:List Int}(hx:x.length=6)(hf:f.length=6):cW (Ua x f)=true:=by
 refine ac0 (by simp[Ua];omega) λd hd=>?_;obtain⟨p,hp,rfl⟩:=atM.mp hd;unfold Qe RJ
 split<;>split<;>omega
theorem aeu{f x:List Int}{m:Int}(hx:x.length=6)(hl:f.length=6)(hf:∀d∈f,0<=d/\d<10):cW (Jq f m x)=true:=by
 unfold Jq;split
 .exact aeQ hx hl
 .refine ac0 ?_ (ag3 hf);unfold BJ;split
  .simpa using hl
  .split
   .simpa using hl
   .exact hl
def lV(f many:Int)(sure:Bool):Int:=if sure then 1+f%(if many>1 then many else 1) else f%(many+2)
theorem aa3(M:Mo)(f many:Int)(sure:Bool)(hm:0<=many):kZ M [.int f,.int many,.bool sure]=.ok (.int (lV f many sure)):=by
 have h2:0<many+2:=by omega
 have h3:0<(if 1<many then many else 1):=by split<;>omega
 cases sure
 .simp[kZ,Zh,lV,h2]
 .simp[kZ,Zh,lV,h3]
theorem Ec{f many:Int}{sure:Bool}(hf:0<=f/\f<=1000)(hm:0<=many):nB (lV f many sure)=true:=by
 unfold lV nB;have key:∀m:Int,0<m->0<=f%m/\f%m<=f:=λm h=>⟨Int.emod_nonneg _ (by omega),by
  have h1:=Int.mul_ediv_add_emod f m;have h2:=Int.mul_nonneg (by omega:0<=m) (Int.ediv_nonneg hf.1 (by omega:0<=m))
  omega⟩
 simp only[atx,au1];cases sure
 .have:=key (many+2) (by omega);simp;omega
 .have:=key (if many>1 then many else 1) (by split<;>omega);simp only[if_true];omega
abbrev dd(M:Mo)(w:Str)(one two:Int)(p base:List Int)(n0 n1 n2:Int):Out Dat:=gD M [.str w,.int one,.int two,lI p,.tuple [.int n0,.int n1,.int n2],aH base]
def fj(p:List Int):Bool:=!(p.getD 6 0==9)
def Ka(p base:List Int):List Int:=Jq (p.drop 8) (p.getD 7 0) base
def grT(f:Int):Int:=if f=9 then 8 else if f=8 then 7 else if f=7 then 6 else if f=6 then 5 else if f=5 then 1 else if f=4 then 0 else f
def Ja(p base:List Int):List Int:=if p.getD 7 0<6 then[0,0,0,0,0,0] else Ka p base
structure Pts(p base:List Int):Prop where
 len:p.length=14
 dig:∀d∈p,0<=d/\d<10
 base:base.length=6
theorem anj{p:List Int}(h:p.length=14):∃a b c d e f g i j k l m n o:Int,p=[a,b,c,d,e,f,g,i,j,k,l,m,n,o]:=by
 match p,h with
 |[a,b,c,d,e,f,g,i,j,k,l,m,n,o],_=>exact⟨a,b,c,d,e,f,g,i,j,k,l,m,n,o,rfl⟩
theorem Pts.mark{p base:List Int}(P:Pts p base):cW (Ka p base)=true:=aeu P.base (by rw[auV,P.len]) λd hd=>P.dig d (List.mem_of_mem_drop hd)
theorem Pts.bring{p base:List Int}(P:Pts p base):cW (Ja p base)=true:=by
 unfold Ja;split
 .decide
 .exact P.mark
section
variable(M:Mo){p base:List Int}(P:Pts p base)(one two n0 n1 n2:Int)(h0:0<=n0)(h1:0<=n1)(h2:0<=n2)
include P h0 h1 h2
theorem abx :
  dd M "owner" one two p base n0 n1 n2=.ok (bx.dat (.owner))/\
  dd M "ground" one two p base n0 n1 n2=.ok (bx.dat (.ground (grT (p.getD 7 0)+4*(if fj p then 0 else 1))))/\
  dd M "enrol" one two p base n0 n1 n2=.ok (bx.dat (.enrol (lV one n0 (fj p)) (lV two n1 (fj p)) (Ka p base)))/\
  dd M "bring" one two p base n0 n1 n2=.ok (bx.dat (.bring (lV one n0 (fj p)) (lV two n1 (fj p)) (Ja p base)))/\
  dd M "leave" one two p base n0 n1 n2=.ok (bx.dat (.leave (lV one n0 (fj p)) (lV two n1 (fj p))))/\
  dd M "heir" one two p base n0 n1 n2=.ok (bx.dat (.heir (lV one n0 (fj p)) (lV two n1 (fj p)) (p.getD 7 0%4)))/\
  dd M "pass" one two p base n0 n1 n2=.ok (bx.dat (.pass (lV one n0 (fj p)) (lV two n0 (fj p))))/\
  dd M "unite" one two p base n0 n1 n2=.ok (bx.dat (.wz (lV one n1 (fj p)) (lV two n1 (fj p))))/\
  dd M "part" one two p base n0 n1 n2=.ok (bx.dat (.part (lV one n1 (fj p))))/\
  dd M "tear" one two p base n0 n1 n2=.ok (bx.dat (.tear (lV one n2 (fj p)) (p.getD 7 0%6)))/\
  dd M "sell" one two p base n0 n1 n2=.ok (bx.dat (.sell (lV one n2 (fj p)) (lV two n0 (fj p))))/\
  dd M "move" one two p base n0 n1 n2=.ok (bx.dat (.move (lV one n2 (fj p)) (lV two n1 (fj p))))/\
  dd M "bear" one two p base n0 n1 n2=.ok (bx.dat (.bear (lV one n2 (fj p))))/\
  dd M "cut" one two p base n0 n1 n2=.ok (bx.dat (.cut (lV one n2 (fj p))))/\
  dd M "die" one two p base n0 n1 n2=.ok (bx.dat (.die (lV one n2 (fj p)))):=by
 have hm:=adA M base (p.drop 8) (p.getD 7 0) (by rw[P.base];decide) (by rw[auV,P.len];decide) λd hd=>P.dig d (List.mem_of_mem_drop hd);have hr0:=λf=>aa3 M f n0 (fj p) h0;have hr1:=λf=>aa3 M f n1 (fj p) h1;have hr2:=λf=>aa3 M f n2 (fj p) h2;have hd:=P.dig;have hbr:Ja p base=if p.getD 7 0<6 then[0,0,0,0,0,0] else Ka p base:=rfl
 have hmp:Ka p base=Jq (p.drop 8) (p.getD 7 0) base:=rfl;have hsb:fj p=!(p.getD 6 0==9):=rfl;obtain⟨x0,x1,x2,x3,x4,x5,x6,x7,x8,x9,x10,x11,x12,x13,rfl⟩:=anj P.len;generalize hp:[x0,x1,x2,x3,x4,x5,x6,x7,x8,x9,x10,x11,x12,x13]=p at *;have h6:p.getD 6 0=x6:=by rw[<-hp];rfl
 have h7:p.getD 7 0=x7:=by rw[<-hp];rfl
 have h8:p.drop 8=[x8,x9,x10,x11,x12,x13]:=by rw[<-hp];rfl
 have hx7:=hd x7 (by rw[<-hp];simp);rw[h7,h8]at hm hmp;rw[h7]at hbr;rw[h6]at hsb;simp only[h7];generalize fj p=su at *;generalize Ka p base=mk at *;generalize Ja p base=br at *;have c1:Rf.cutD (p.map PyData.int) (some 8) (some 14)=[PyData.int x8,.int x9,.int x10,.int x11,.int x12,.int x13]:=by rw[<-hp];rfl
 have c2:atI (p.map PyData.int) 7=some (.int x7):=by rw[<-hp];rfl
 have c3:atI (p.map PyData.int) 6=some (.int x6):=by rw[<-hp];rfl
 have hm:yU M [.list [PyData.int x8,.int x9,.int x10,.int x11,.int x12,.int x13],.int x7,aH base]=.ok (aH mk):=by rw[hmp];exact hm
 have key:∀k:Nat,k<10->([0,1,2,3,0,1,5,6,7,8]:List Int)[k]?=some (grT k):=by decide
 have hk:atI (([0,1,2,3,0,1,5,6,7,8]:List Int).map PyData.int) x7=some (.int (grT x7)):=by obtain⟨k,rfl⟩:∃k:Nat,x7=k:=⟨x7.toNat,by omega⟩;exact atI_nat (by rw[atR,key k (by omega)];rfl)
 simp at hk;have hm4:∀z,decide (CMul 4 z)=true:=λz=>aiz (by decide);clear hp hd P;refine⟨?_,?_,?_,?_,?_,?_,?_,?_,?_,?_,?_,?_,?_,?_,?_⟩
 .simp[dd,gD,lu,c1,c2,c3,hm,<-hsb,hr0,hr1,hr2,bx.dat]
 .cases su<;>simp[dd,gD,lu,c1,c2,c3,hm,<-hsb,hk,hm4,Rf.intD,bx.dat]
 .simp[dd,gD,lu,c1,c2,c3,hm,<-hsb,hr0,hr1,hr2,bx.dat]
 .by_cases h76:x7<6
  .rw[au5 h76]at hbr;simp[dd,gD,lu,c1,c2,c3,hm,<-hsb,hr0,hr1,hr2,bx.dat,h76,hbr]
  .rw[au6 h76]at hbr;simp[dd,gD,lu,c1,c2,c3,hm,<-hsb,hr0,hr1,hr2,bx.dat,h76,hbr]
 .simp[dd,gD,lu,c1,c2,c3,hm,<-hsb,hr0,hr1,hr2,bx.dat]
 .simp[dd,gD,lu,c1,c2,c3,hm,<-hsb,hr0,hr1,hr2,bx.dat]
 .simp[dd,gD,lu,c1,c2,c3,hm,<-hsb,hr0,hr1,hr2,bx.dat]
 .simp[dd,gD,lu,c1,c2,c3,hm,<-hsb,hr0,hr1,hr2,bx.dat]
 .simp[dd,gD,lu,c1,c2,c3,hm,<-hsb,hr0,hr1,hr2,bx.dat]
 .simp[dd,gD,lu,c1,c2,c3,hm,<-hsb,hr0,hr1,hr2,bx.dat]
 .simp[dd,gD,lu,c1,c2,c3,hm,<-hsb,hr0,hr1,hr2,bx.dat]
 .simp[dd,gD,lu,c1,c2,c3,hm,<-hsb,hr0,hr1,hr2,bx.dat]
 .simp[dd,gD,lu,c1,c2,c3,hm,<-hsb,hr0,hr1,hr2,bx.dat]
 .simp[dd,gD,lu,c1,c2,c3,hm,<-hsb,hr0,hr1,hr2,bx.dat]
 .simp[dd,gD,lu,c1,c2,c3,hm,<-hsb,hr0,hr1,hr2,bx.dat]
theorem SM{w:Str}(hw:w∈(["owner","ground","enrol","bring","leave","heir","pass","unite","part","tear","sell","move","bear","cut","die"]:List Str))(ho:0<=one/\one<=1000)(ht:0<=two/\two<=1000):∃d:bx,gD M [.str w,.int one,.int two,lI p,.tuple [.int n0,.int n1,.int n2],aH base]=.ok d.dat/\fU d=true/\BR d:=by
 have r10:=Ec (f:=one) (sure:=fj p) ho h0;have r11:=Ec (f:=one) (sure:=fj p) ho h1;have r12:=Ec (f:=one) (sure:=fj p) ho h2;have r20:=Ec (f:=two) (sure:=fj p) ht h0;have r21:=Ec (f:=two) (sure:=fj p) ht h1;have r22:=Ec (f:=two) (sure:=fj p) ht h2;have m1:=P.mark;have m2:=P.bring;have l1:(Ka p base).length<=1000:=by rw[dJ m1];decide
 have l2:(Ja p base).length<=1000:=by rw[dJ m2];decide
 have h7:0<=p.getD 7 0/\p.getD 7 0<10:=P.dig _ (by
  have:=P.len;rw[List.getD_eq_getElem?_getD,atz (by omega)];exact aum _)
 have q4:nB (p.getD 7 0%4)=true:=by unfold nB;simp only[atx,au1];omega
 have q6:plB (p.getD 7 0%6)=true:=by unfold plB;simp only[atx,au1];omega
 have qg:nB (grT (p.getD 7 0)+4*(if fj p then 0 else 1))=true:=by
  unfold nB grT;simp only[atx,au1]
  split<;>(repeat' split)<;>omega
 simp only[atO,auc,or_false]at hw;obtain⟨d0,d1,d2,d3,d4,d5,d6,d7,d8,d9,d10,d11,d12,d13,d14⟩:=abx M P one two n0 n1 n2 h0 h1 h2;rcases hw with rfl|rfl|rfl|rfl|rfl|rfl|rfl|rfl|rfl|rfl|rfl|rfl|rfl|rfl|rfl
 .exact⟨_,d0,by simp[fU,r10,r11,r12,r20,r21,r22,m1,m2,q4,q6,-List.getD_eq_getElem?_getD],by first | trivial | assumption⟩
 .exact⟨_,d1,qg,by first | trivial | assumption⟩
 .exact⟨_,d2,by simp[fU,r10,r11,r12,r20,r21,r22,m1,m2,q4,q6,-List.getD_eq_getElem?_getD],by first | trivial | assumption⟩
 .exact⟨_,d3,by simp[fU,r10,r11,r12,r20,r21,r22,m1,m2,q4,q6,-List.getD_eq_getElem?_getD],by first | trivial | assumption⟩
 .exact⟨_,d4,by simp[fU,r10,r11,r12,r20,r21,r22,m1,m2,q4,q6,-List.getD_eq_getElem?_getD],by first | trivial | assumption⟩
 .exact⟨_,d5,by simp[fU,r10,r11,r12,r20,r21,r22,m1,m2,q4,q6,-List.getD_eq_getElem?_getD],by first | trivial | assumption⟩
 .exact⟨_,d6,by simp[fU,r10,r11,r12,r20,r21,r22,m1,m2,q4,q6,-List.getD_eq_getElem?_getD],by first | trivial | assumption⟩
 .exact⟨_,d7,by simp[fU,r10,r11,r12,r20,r21,r22,m1,m2,q4,q6,-List.getD_eq_getElem?_getD],by first | trivial | assumption⟩
 .exact⟨_,d8,by simp[fU,r10,r11,r12,r20,r21,r22,m1,m2,q4,q6,-List.getD_eq_getElem?_getD],by first | trivial | assumption⟩
 .exact⟨_,d9,by simp[fU,r10,r11,r12,r20,r21,r22,m1,m2,q4,q6,-List.getD_eq_getElem?_getD],by first | trivial | assumption⟩
 .exact⟨_,d10,by simp[fU,r10,r11,r12,r20,r21,r22,m1,m2,q4,q6,-List.getD_eq_getElem?_getD],by first | trivial | assumption⟩
 .exact⟨_,d11,by simp[fU,r10,r11,r12,r20,r21,r22,m1,m2,q4,q6,-List.getD_eq_getElem?_getD],by first | trivial | assumption⟩
 .exact⟨_,d12,by simp[fU,r10,r11,r12,r20,r21,r22,m1,m2,q4,q6,-List.getD_eq_getElem?_getD],by first | trivial | assumption⟩
 .exact⟨_,d13,by simp[fU,r10,r11,r12,r20,r21,r22,m1,m2,q4,q6,-List.getD_eq_getElem?_getD],by first | trivial | assumption⟩
 .exact⟨_,d14,by simp[fU,r10,r11,r12,r20,r21,r22,m1,m2,q4,q6,-List.getD_eq_getElem?_getD],by first | trivial | assumption⟩
end
abbrev words:List Str:=["owner","ground","enrol","bring","leave","heir","pass","unite","part","tear","sell","move","bear","cut","die"]
def Xb:List Str:=["tear","cut","bring","sell","move","enrol","bear","tear","cut","sell","move","unite","part","heir","pass","die","leave","ground","owner","enrol","tear","sell","bring","bear","cut"]
theorem adg(M:Mo)(f:Int):∃w∈words,vZ M [.int f]=.ok (.str w):=by
 have h1:0<=f%25/\f%25<25:=by omega
 obtain⟨k,hk⟩:∃k:Nat,f%25=k:=⟨(f%25).toNat,by omega⟩;have hl:k<Xb.length:=by show k<25;omega
 have h2:atI (Xb.map PyData.str) (k:Int)=some (.str Xb[k]):=atI_nat (by rw[atR,atz hl];rfl);have h3:∀w∈Xb,w∈words:=by simp[Xb]
 refine⟨Xb[k],h3 _ (aum hl),?_⟩;generalize Xb[k]=z at h2;simp[Xb]at h2;simp[vZ,Oo,hk,h2]
def zf(h:Int):List (Str×Int×Int):=if h%8=7 then[] else[("ground",0,0),("owner",0,0),("owner",0,0),("enrol",0,0),("enrol",1,0),("bring",0,0),("cut",0,0),("bring",1,0),("cut",1,0),("ground",0,0),("enrol",0,1)]
def Ks(r:Str×Int×Int):Dat:=.tuple [.str r.1,.int r.2.1,.int r.2.2]
theorem aeZ(M:Mo)(h:Int):xP M [.int h]=.ok (.list ((zf h).map Ks)):=by unfold zf;by_cases e:h%8=7<;>simp[xP,Iv,e,Ks]
theorem aj1{h:Int}:∀r∈zf h,r.1∈words/\(0<=r.2.1/\r.2.1<=1000)/\0<=r.2.2/\r.2.2<=1000:=by
 unfold zf;split
 .simp
 .simp
inductive Mg:Nat->aM->Prop where
 |nil:Mg 0 ⟨0,[],[],[],[],[]⟩
 |step {n:Nat} {c:aM} (d:bx):Mg n c->fU d=true->Mg (n+1) (pW c d)
 |le {n m:Nat} {c:aM}:Mg n c->n<=m->Mg m c
theorem Inv.mono{n s n' s':Nat}{c:aM}(I:Inv n s c)(h1:n<=n')(h2:s<=s'):Inv n' s' c:=
 I.of h1 I.gr (at3 I.al h1) rfl rfl I.held (at3 I.hL h2) I.hE ⟨I.X7.g,λb hb=>by have:=I.en b hb;omega⟩
theorem DY(d:bx):cost d<=1:=by cases d<;>simp[cost]
theorem ali:Inv 0 0 ⟨0,[],[],[],[],[]⟩:=⟨⟨rfl,by simp,by simp,by simp,by simp,by simp,by simp⟩,by simp,by simp,by simp,by simp,by simp,by simp,by simp,by simp,by simp,by simp,by simp,by simp⟩
structure Now(M:Mo)(L:Lay)(n s:Nat)(c:aM):Prop where
 at_:At M L c
 inv:Inv n s c
 rch:Mg n c
theorem Now.done{M:Mo}{L:Lay}{n s:Nat}{c:aM}(N:Now M L n s c)(hs:s<=76)(hn:n<=199)(d:bx)(hd:BR d)(hf:fU d=true):∃M' bs,nO M [ob L.c,d.dat,cI c]=.ok (cI (pW c d)) M'/\Now M' { L with bs:=bs } (n+1) (s+cost d) (pW c d):=by obtain⟨M',bs,h1,h2⟩:=acW N.at_ N.inv hs hn d hd hf;exact⟨M',bs,h1,h2,Lh N.inv d hn,.step d N.rch hf⟩
theorem WR(x:Int){base:List Int}(h:base.length=6):Pts (rowOf x 14 10) base:=⟨adw ..,ae7 (by decide) _ _,h⟩
theorem jZ(x:Int)(k:Nat)(h:k<14):atI ((rowOf x 14 10).map PyData.int) (k:Int)=some (.int ((rowOf x 14 10).getD k 0))/\0<=(rowOf x 14 10).getD k 0/\(rowOf x 14 10).getD k 0<=9:=by
 have hl:k<(rowOf x 14 10).length:=by rw[adw];exact h
 refine⟨Z9 _ k hl,?_⟩;rw[List.getD_eq_getElem?_getD,atz hl];have:=ae7 (by decide) x 14 _ (aum hl);simp;omega
theorem afv{M:Mo}{L:Lay}{n s:Nat}{c:aM}(N:Now M L n s c)(hs:s<=76)(hn:n<=199)(x1:Option Cell)(head:Int)(base:List Int)(hb:base.length=6)(i:Nat)(x:Int)(x8 x9 x10 x11 x12:Option Cell) :
  ∃d M' bs y8 y9 y10 y11,fU d=true/\Fx M [some (.dat (ob L.c)),x1,some (.dat (.int head)),some (.dat (cI c)),some (.dat (aH base)),some (.dat (.list ((zf head).map Ks))),some (.dat (.int i)),some (.dat (.int x)),x8,x9,x10,x11,x12]=.next [some (.dat (ob L.c)),x1,some (.dat (.int head)),some (.dat (cI (pW c d))),some (.dat (aH base)),some (.dat (.list ((zf head).map Ks))),some (.dat (.int i)),some (.dat (.int x)),y8,y9,y10,y11,x12] M'/\Now M' { L with bs:=bs } (n+1) (s+cost d) (pW c d):=by
 have h1:uf M [.int x,.int 14,.int 10]=.ok (lI (rowOf x 14 10)):=Ub M x 14 10 (by decide) (by decide) (by decide);have P:=WR x hb;obtain⟨r0,q0,q0'⟩:=jZ x 0 (by decide);obtain⟨r1,q1,q1'⟩:=jZ x 1 (by decide);obtain⟨r2,q2,q2'⟩:=jZ x 2 (by decide);obtain⟨r3,q3,q3'⟩:=jZ x 3 (by decide);obtain⟨r4,q4,q4'⟩:=jZ x 4 (by decide);obtain⟨r5,q5,q5'⟩:=jZ x 5 (by decide);generalize rowOf x 14 10=p at *;generalize p.getD 0 0=d0 at *;generalize p.getD 1 0=d1 at *;generalize p.getD 2 0=d2 at *;generalize p.getD 3 0=d3 at *;generalize p.getD 4 0=d4 at *;generalize p.getD 5 0=d5 at *;obtain⟨w,hw,h2⟩:=adg M (d0*10+d1);have hm:∀z,decide (CMul z 10)=true:=λz=>mul_r (by decide);have c0:=N.inv.cnt.1;simp only[Int.natCast_zero,Int.natCast_one,show((2:Nat):Int)=2 from rfl,show((3:Nat):Int)=3 from rfl,show((4:Nat):Int)=4 from rfl,show((5:Nat):Int)=5 from rfl]at r0 r1 r2 r3 r4 r5;by_cases hi:i<(zf head).length
 .have hi':(i:Int)<(zf head).length:=by omega
  have g:=atz hi;obtain⟨b1,b2,b3⟩:=aj1 _ (aum hi);generalize (zf head)[i]=b at *;obtain⟨d,e1,e2,e3⟩:=SM M P b.2.1 b.2.2 c.count c.al.length c.bs.length c0 (by omega) (by omega) b1 b2 b3;obtain⟨M',bs,e4,e5⟩:=N.done hs hn d e3 e2;refine⟨d,M',bs,some (.dat (lI p)),some (.dat (.str b.1)),some (.dat (.int b.2.1)),some (.dat (.int b.2.2)),e2,?_,e5⟩;have e1:gD M [.str b.1,.int b.2.1,.int b.2.2,lI p,cI c,aH base]=.ok d.dat:=e1;simp[Fx,h1,r0,r1,r2,r3,r4,r5,hm,h2,hi',g];simp[Ks,e1,e4]
 .have hi':¬(i:Int)<(zf head).length:=by omega
  obtain⟨d,e1,e2,e3⟩:=SM M P (d2*10+d3) (d4*10+d5) c.count c.al.length c.bs.length c0 (by omega) (by omega) hw (by omega) (by omega);obtain⟨M',bs,e4,e5⟩:=N.done hs hn d e3 e2;refine⟨d,M',bs,some (.dat (lI p)),some (.dat (.str w)),some (.dat (.int (d2*10+d3))),some (.dat (.int (d4*10+d5))),e2,?_,e5⟩;have e1:gD M [.str w,.int (d2*10+d3),.int (d4*10+d5),lI p,cI c,aH base]=.ok d.dat:=e1;simp[Fx,h1,r0,r1,r2,r3,r4,r5,hm,h2,hi'];simp[e1,e4]
theorem Xa(x1:Option Cell)(head:Int)(base:List Int)(hb:base.length=6)(x12:Option Cell):∀(xs:List (Nat×Int)) (M:Mo) (L:Lay) (n:Nat) (c:aM) (x6 x7 x8 x9 x10 x11:Option Cell),Now M L n n c->n+xs.length<=76->
  ∃c' M' bs y6 y7 y8 y9 y10 y11,dX (bB [6,7]) Fx (xs.map λq=>PyData.tuple [.int q.1,.int q.2]) M [some (.dat (ob L.c)),x1,some (.dat (.int head)),some (.dat (cI c)),some (.dat (aH base)),some (.dat (.list ((zf head).map Ks))),x6,x7,x8,x9,x10,x11,x12]=.next [some (.dat (ob L.c)),x1,some (.dat (.int head)),some (.dat (cI c')),some (.dat (aH base)),some (.dat (.list ((zf head).map Ks))),y6,y7,y8,y9,y10,y11,x12] M'/\Now M' { L with bs:=bs } (n+xs.length) (n+xs.length) c'
 |[],M,L,n,c,x6,x7,x8,x9,x10,x11,N,_=>⟨c,M,L.bs,x6,x7,x8,x9,x10,x11,rfl,N⟩
 |q::xs,M,L,n,c,x6,x7,x8,x9,x10,x11,N,hl=>by
  rw[atQ]at hl;obtain⟨d,M1,bs,y8,y9,y10,y11,h0,h1,N1⟩:=afv N (by omega) (by omega) x1 head base hb q.1 q.2 x8 x9 x10 x11 x12;have N1:Now M1 { L with bs:=bs } (n+1) (n+1) (pW c d):=⟨N1.at_,N1.inv.mono (at6 _) (by have:=DY d;omega),N1.rch⟩;obtain⟨c',M',bs',z6,z7,z8,z9,z10,z11,h2,N2⟩:=Xa x1 head base hb x12 xs M1 { L with bs:=bs } (n+1) (pW c d) (some (.dat (.int q.1))) (some (.dat (.int q.2))) y8 y9 y10 y11 N1 (by omega);refine⟨c',M',bs',z6,z7,z8,z9,z10,z11,?_,?_⟩
  .rw[atE,fD (Z1:=[some (.dat (ob L.c)),x1,some (.dat (.int head)),some (.dat (cI c)),some (.dat (aH base)),some (.dat (.list ((zf head).map Ks))),some (.dat (.int q.1)),some (.dat (.int q.2)),x8,x9,x10,x11,x12]) (by simp) h1];exact h2
  .rw[atQ,show n+(xs.length+1)=n+1+xs.length by omega];exact N2
theorem adW{M:Mo}{L:Lay}{n s:Nat}{c:aM}(N:Now M L n s c)(hs:s<=75)(hn:n<=198)(x1 x2 x4 x5 x6 x7 x8 x9 x10 x11 x12:Option Cell) :
  ∃c' M' bs,KC M [some (.dat (ob L.c)),x1,x2,some (.dat (cI c)),x4,x5,x6,x7,x8,x9,x10,x11,x12]=.next [some (.dat (ob L.c)),x1,x2,some (.dat (cI c')),x4,x5,x6,x7,x8,x9,x10,x11,x12] M'/\Now M' { L with bs:=bs } (n+2) (s+1) c':=by
 obtain⟨M1,bs1,h1,N1⟩:=N.done (by omega) (by omega) (.bring 1 1 [0,0,0,0,0,0]) (by simp[BR]) (by decide);have hl:=N1.inv.hL;have hc:cost (.bring 1 1 [0,0,0,0,0,0])=1:=rfl;generalize pW c (.bring 1 1 [0,0,0,0,0,0])=c1 at *;obtain⟨M2,bs2,h2,N2⟩:=N1.done (by omega) (by omega) (.cut c1.bs.length) trivial (by simp only[fU,nB,atx,au1];omega);refine⟨_,M2,bs2,?_,N2.at_,N2.inv,N2.rch⟩;have h1:nO M [ob L.c,.tuple [.str "bring",.int 1,.int 1,.tuple [.int 0,.int 0,.int 0,.int 0,.int 0,.int 0]],cI c]=.ok (cI c1) M1:=h1
 have h2:nO M1 [ob L.c,.tuple [.str "cut",.int c1.bs.length],cI c1]=_:=h2
 simp[KC,h1];have e:atI [PyData.int c1.count,.int c1.al.length,.int c1.bs.length] 2=some (.int c1.bs.length):=rfl;simp[cI]at h2 |-
 simp[h2]
theorem Tq(x1 x2 x4 x5 x6 x7 x8 x9 x10 x11:Option Cell):∀(xs:List Dat) (M:Mo) (L:Lay) (n s:Nat) (c:aM) (x12:Option Cell),Now M L n s c->n+2*xs.length<=198->s+xs.length<=75->
  ∃c' M' bs y12,dX (aF 12) KC xs M [some (.dat (ob L.c)),x1,x2,some (.dat (cI c)),x4,x5,x6,x7,x8,x9,x10,x11,x12]=.next [some (.dat (ob L.c)),x1,x2,some (.dat (cI c')),x4,x5,x6,x7,x8,x9,x10,x11,y12] M'/\Now M' { L with bs:=bs } (n+2*xs.length) (s+xs.length) c'
 |[],M,L,n,s,c,x12,N,_,_=>⟨c,M,L.bs,x12,rfl,N⟩
 |q::xs,M,L,n,s,c,x12,N,h1,h2=>by
  rw[atQ]at h1 h2;obtain⟨c1,M1,bs1,e1,N1⟩:=adW N (by omega) (by omega) x1 x2 x4 x5 x6 x7 x8 x9 x10 x11 (some (.dat q));obtain⟨c',M',bs',y12,e2,N2⟩:=Tq x1 x2 x4 x5 x6 x7 x8 x9 x10 x11 xs M1 { L with bs:=bs1 } (n+2) (s+1) c1 (some (.dat q)) N1 (by omega) (by omega);refine⟨c',M',bs',y12,?_,?_⟩
  .rw[fD (Z1:=[some (.dat (ob L.c)),x1,x2,some (.dat (cI c)),x4,x5,x6,x7,x8,x9,x10,x11,some (.dat q)]) (by simp) e1];exact e2
  .rw[atQ,show n+2*(xs.length+1)=n+2+2*xs.length by omega,show s+(xs.length+1)=s+1+xs.length by omega];exact N2
def VG:aM:=⟨0,[],[],[],[],[]⟩
theorem ajB{M:Mo}{L:Lay}(a:At M L VG)(cells:List Int)(hl:cells.length<=43)(head:Int):∃c M' L',L'.c=L.c/\Jo M [ob L.c,lI cells,.int head]=.ok (cI c) M'/\Now M' L' 99 71 c:=by
 have hb:=N8 (head/512);have h1:=agg M (head/512);have h2:=aeZ M head;have N0:Now M L 0 0 VG:=⟨a,ali,.nil⟩;have hen:pJ 0 (cells.map PyData.int)=(cells.mapIdx λi x=>(i,x)).map λ(q:Nat×Int)=>PyData.tuple [.int q.1,.int q.2]:=by unfold pJ;apply at9;intro i;simp;cases cells[i]?<;>simp
 obtain⟨c1,M1,bs1,y6,y7,y8,y9,y10,y11,e1,N1⟩:=Xa (some (.dat (lI cells))) head (Kl (head/512)) hb none (cells.mapIdx λi x=>(i,x)) M L 0 VG none none none none none none N0 (by simp;omega);simp only[List.length_mapIdx,Nat.zero_add]at N1;have hd:∀z,decide (CDiv z 512)=true:=λz=>decide_eq_true ⟨by decide,by decide⟩;have hd8:∀z,decide (CDiv z 8)=true:=λz=>decide_eq_true ⟨by decide,by decide⟩;have hd64:∀z,decide (CDiv z 64)=true:=λz=>decide_eq_true ⟨by decide,by decide⟩;have hm:∀z,decide (CMul z 4)=true:=λz=>mul_r (by decide);have z0:cI VG=.tuple [.int 0,.int 0,.int 0]:=rfl;rw[z0]at e1;by_cases hh:head/8%8=1
 .obtain⟨k,hk,hk2⟩:∃k:Nat,head/64%8*4=k/\k<=28:=⟨(head/64%8*4).toNat,by omega,by omega⟩;obtain⟨c2,M2,bs2,y12,e2,N2⟩:=Tq (some (.dat (lI cells))) (some (.dat (.int head))) (some (.dat (aH (Kl (head/512))))) (some (.dat (.list ((zf head).map Ks)))) y6 y7 y8 y9 y10 y11 (jR 0 k) M1 { L with bs:=bs1 } cells.length cells.length c1 none N1 (by simp[jR];omega) (by simp[jR];omega);refine⟨c2,M2,{ L with bs:=bs2 },rfl,?_,N2.at_,N2.inv.mono (by simp[jR];omega) (by simp[jR];omega),N2.rch.le (by simp[jR];omega)⟩;have k1:(k:Int)<=100000:=by omega
  have k2 : -100000<=(k:Int):=by omega
  simp[Jo,Uw,hd,h1,h2,hen,e1,hd8,hh,hd64,hm,hk,k1,k2,e2]
 .refine⟨c1,M1,{ L with bs:=bs1 },rfl,?_,N1.at_,N1.inv.mono (by omega) (by omega),N1.rch.le (by omega)⟩;simp[Jo,Uw,hd,h1,h2,hen,e1,hd8,hh]
def L0:Lay:=⟨0,2,5,7,[],[]⟩
theorem ao3:∃M L,L.c=0/\rZ [⟨"Commons",[]⟩] [ob 0]=.ok .none M/\At M L VG:=by refine⟨_,L0,rfl,by simp[rZ,Am,lN,wu,Br,yj,Dg,BW,Ip];rfl,?_⟩;exact⟨rfl,⟨_,_,rfl⟩,rfl,⟨_,rfl⟩,rfl,λi h b z _=>(by cases z),by decide,λp hp=>(by cases hp)⟩
theorem Ur(n:Nat)(x:List Int):lk (n+1) (aH x)=true:=by show lk (n+1) (.tuple (x.map PyData.int))=true;rw[lk];exact ahO n x
theorem alC(n:Nat)(x:Option (List Int)):lk (n+1) (mF x)=true:=by
 cases x with
 |none=>rw[mF,lk]
 |some e=>exact Ur n e
theorem anB(n:Nat)(f:Fi):lk (n+2) f.dat=true:=by cases f<;>simp[Fi.dat,lk,xJ]
theorem aog(n:Nat)(e:En):lk (n+2) e.dat=true:=by cases e<;>simp[En.dat,lk,xJ]
theorem akq(n:Nat)(b:dB):lk (n+4) (dW b)=true:=by
 have h1:xJ (n+2) (b.en.map En.dat)=true:=uM.mpr λd hd=>by
  obtain⟨e,_,rfl⟩:=atM.mp hd;exact aog n e
 have h2:=anB n b.fi;have h3:=alC (n+2) b.sd.due;simp[dW,lk,xJ,h1,h2,h3]
theorem ajN(c:aM):lk 9 (kY c)=true:=by
 have h1:∀n,xJ (n+2) ((List.range c.al.length).map (Xh c))=true:=λn=>uM.mpr λd hd=>by
  obtain⟨e,_,rfl⟩:=atM.mp hd;simp[Xh,lk,xJ]
 have h2:∀n,xJ (n+2) (c.held.map iI)=true:=λn=>uM.mpr λd hd=>by
  obtain⟨e,_,rfl⟩:=atM.mp hd;simp[iI,lk,xJ]
 have h3:∀n,xJ (n+4) (c.bs.map dW)=true:=λn=>uM.mpr λd hd=>by
  obtain⟨e,_,rfl⟩:=atM.mp hd;exact akq n e
 simp[kY,lk,xJ,h1,h2,h3]
theorem afF(M:Mo)(c:aM):jx 10 M [kY c,kY c]=.ok (.bool true):=JV M 9 _ (ajN c)
theorem aiY{M:Mo}{L:Lay}{c:aM}{n s:Nat}(a:At M L c)(I:Inv n s c)(hs:s<=1000):rQ M [ob L.c]=.ok (kY c):=by have:=I.hL;exact ajj a I.gr (by omega) (by omega)
theorem acu(l:List Int)(lo hi:Option Int):Rf.cutD (l.map PyData.int) lo hi=(Rf.cutD l lo hi).map PyData.int:=by unfold Rf.cutD;rw[atJ,List.map_take,List.map_drop]
theorem acY{α:Type}(l:List α)(a b:Nat)(h:a<=b):(Rf.cutD l (some (a:Int)) (some (b:Int))).length<=b-a:=by unfold Rf.cutD;rw[HT.sIx_nat,HT.sIx_nat,List.length_take];omega
section
variable{M:Mo}{L:Lay}{c:aM}(a:At M L c){n s:Nat}(I:Inv n s c)(hs:s<=76)(hn:n<=199)
include a I hs hn
theorem ag8(d:bx)(hd:BR d):Sp M L (iZ M [ob L.c,d.dat]) (cO c d):=by
 have hc:=a.hc;cases d with
 |owner=>
  refine dh (aco a I hn) ?_;simp only[bx.dat];simp[iZ,jH,hc,aO,dI];cases gU M _<;>rfl
 |ground x=>
  refine dh (aac a I hn x) ?_;simp only[bx.dat];simp[iZ,jH,hc,aO,iz];cases fZ M _<;>rfl
 |enrol o g m=>
  refine dh (adb a I hs o g m hd) ?_;simp only[bx.dat];simp[iZ,jH,hc,aO,lH];cases dU M _<;>rfl
 |leave o g=>
  refine dh (acJ a I hs o g) ?_;simp only[bx.dat];simp[iZ,jH,hc,aO,lK];cases fO M _<;>rfl
 |bring o g m=>
  refine dh (acA a I hs o g m hd) ?_;simp only[bx.dat];simp[iZ,jH,hc,aO,lF];cases fP M _<;>rfl
 |bear k=>
  refine dh (afV a I hs k) ?_;simp only[bx.dat];simp[iZ,jH,hc,aO,mY];cases iY M _<;>rfl
 |cut k=>
  refine dh (aia a I hs (by omega) k) ?_;simp only[bx.dat];simp[iZ,jH,hc,aO,oR];cases jA M _<;>rfl
 |tear k p=>
  refine dh (ags a I hs k p (by omega)) ?_;simp only[bx.dat];simp[iZ,jH,hc,aO,mO];cases fL M _<;>rfl
 |sell k o=>
  refine dh (afo a I hs (by omega) k o) ?_;simp only[bx.dat];simp[iZ,jH,hc,aO,mV];cases dO M _<;>rfl
 |move k g=>
  refine dh (afQ a I hs (by omega) k g) ?_;simp only[bx.dat];simp[iZ,jH,hc,aO,mU];cases dR M _<;>rfl
 |die k=>
  refine dh (aiG a I hs k (by omega)) ?_;simp only[bx.dat];simp[iZ,jH,hc,aO,oW];cases kW M _<;>rfl
 |wz x y=>
  refine dh (acM a I hs (by omega) x y) ?_;simp only[bx.dat];simp[iZ,jH,hc,aO,oZ];cases eY M _<;>rfl
 |part x=>
  refine dh (afc a I hs (by omega) x) ?_;simp only[bx.dat];simp[iZ,jH,hc,aO,qb];cases iV M _<;>rfl
 |pass e h=>
  refine dh (af9 a I hs (by omega) e h) ?_;simp only[bx.dat];simp[iZ,jH,hc,aO,jO];cases fH M _<;>rfl
 |heir e g x=>
  refine dh (aeI a I hs (by omega) e g x) ?_;simp only[bx.dat];simp[iZ,jH,hc,aO,jh];cases cV M _<;>rfl
end
theorem agQ{M:Mo}{L:Lay}{c:aM}(a:At M L c)(d:bx)(hd:BR d)(hf:fU d=false):nO M [ob L.c,d.dat,cI c]=.ok (cI c) M:=by
 have hc:=a.hc;have h0:=acX M d hd;rw[hf]at h0;have h1:cJ M [ob L.c,d.dat]=.exc ⟨"BadDeed",[]⟩ M:=by simp[cJ,cY,h0]
 simp[nO,Jr,hc,aO,qD,h1,jE,oX]
theorem U5{M:Mo}{L:Lay}{n s:Nat}{c:aM}(a:At M L c)(I:Inv n s c)(hs:s<=76)(hn:n<=199)(d:bx)(hd:BR d)(w:Int):∃M' bs c',qI M [ob L.c,d.dat,cI c,.int w]=.ok (cI c') M'/\At M' { L with bs:=bs } c'/\Inv (n+1) (s+cost d) c':=by
 by_cases hw:w%2=0
 .cases hf:fU d with
  |true=>
   obtain⟨M',bs,h1,h2⟩:=acW a I hs hn d hd hf;exact⟨M',bs,pW c d,by simp[qI,v8,hw,h1],h2,Lh I d hn⟩
  |false=>
   have h1:=agQ a d hd hf;exact⟨M,L.bs,c,by simp[qI,v8,hw,h1],a,I.mono (by omega) (by omega)⟩
 .have h0:=ag8 a I hs hn d hd;have i2:=Lh I d hn;unfold pW at i2;have e0:cI c=.tuple [.int c.count,.int c.al.length,.int c.bs.length]:=rfl;cases e:cO c d with
  |no x=>
   rw[e]at h0 i2;have h0:_=_:=h0;have h1:=abt e;refine⟨M,L.bs,c,?_,a,i2⟩;simp[qI,v8,hw,h0,h1,jE]
  |ok r c'=>
   rw[e]at h0 i2;obtain⟨M',bs,h0,h2⟩:=h0;obtain⟨q1,q2,q3,q4⟩:=Q6 e;refine⟨M',bs,c',?_,h2,i2⟩;have e1:(c'.al.length:Int)=c.al.length+(ZW d:Int):=by omega
   have e2:(c'.bs.length:Int)=c.bs.length+(dBs d:Int):=by omega
   cases hr:jE .none r with
   |true=>
    obtain⟨z1,z2,z3⟩:=q4 hr;simp[z1,z2,z3]at q1 e1 e2;simp[qI,v8,hw,h0,hr,cI,q1,e1,e2]
   |false=>
    clear q4 q2 q3 e i2 hd;cases d<;>simp[aat,ZW,dBs]at q1 e1 e2<;>simp[bx.dat]at h0<;>simp[qI,v8,hw,h0,hr,cI,q1,e1,e2,bx.dat]
theorem ae2(M:Mo)(x:Int):∃y,Gx M [.int x]=.ok (.int y):=by
 have hp:decide (CPow 10 30)=true:=decide_eq_true ⟨by decide,by decide,by decide⟩;by_cases h:x<0
 .exact⟨_,by simp[Gx,Zg,hp,h];rfl⟩
 .exact⟨_,by simp[Gx,Zg,hp,h];rfl⟩
theorem alR(M:Mo)(v x t:Int):∃y,P0 M [.int v,.int x,.int t]=.ok (.int y):=by
 obtain⟨y,h⟩:=ae2 M (x/13);have hd:∀z,decide (CDiv z 13)=true:=λz=>decide_eq_true ⟨by decide,by decide⟩;by_cases e:x%13=t
 .exact⟨y,by simp[P0,Zf,e,hd,h]⟩
 .exact⟨v,by simp[P0,Zf,e]⟩
@[simp]theorem arU (c:aM):aN (kY c) (.int 0)=.ok (lI c.own):=rfl
@[simp]theorem aqZ (c:aM):aN (kY c) (.int 1)=.ok (.list ((List.range c.al.length).map (Xh c))):=rfl
@[simp]theorem ar9 (c:aM):aN (kY c) (.int 2)=.ok (.list (c.held.map iI)):=rfl
@[simp]theorem afh (c:aM):aN (kY c) (.int 3)=.ok (.list (c.bs.map dW)):=rfl
theorem eq_nil(xs:List Dat)(h:lJ 11 xs=true):bR (.list xs) (.list [])=.ok (.bool xs.isEmpty)/\vX (.list xs) (.list [])=.ok (.bool (!xs.isEmpty)):=by
 have e:eqB (.list xs) (.list [])=.ok xs.isEmpty:=by
  show Out.when (okd 12 (.list xs)&&okd 12 (.list [])) (.ok (PyData.eqv (.list xs) (.list [])))=_;rw[okd,okd,h,al7];cases xs with
  |nil=>rfl
  |cons a r=>rw[akm];rfl
 exact⟨by unfold bR;rw[e];rfl,by unfold vX;rw[e];rfl⟩
theorem aj3(n:Nat)(x:Option (List Int)):okd (n+1) (mF x)=true:=by
 cases x with
 |none=>rfl
 |some e=>exact Ep n e
theorem amE(n:Nat)(f:Fi):okd (n+2) f.dat=true:=by cases f<;>simp[Fi.dat,okd,lJ]
theorem ak2(n:Nat)(e:En):okd (n+2) e.dat=true:=by cases e<;>simp[En.dat,okd,lJ]
theorem ah3(n:Nat)(b:dB):okd (n+4) (dW b)=true:=by
 have h1:lJ (n+2) (b.en.map En.dat)=true:=Bh.mpr λd hd=>by
  obtain⟨e,_,rfl⟩:=atM.mp hd;exact ak2 n e
 have h2:=amE n b.fi;have h3:=aj3 (n+2) b.sd.due;simp[dW,okd,lJ,h1,h2,h3]
theorem Z7(M:Mo)(w:Str)(x head n0 n1 n2:Int){d:Dat}(h:dd M w ((rowOf x 14 10).getD 2 0*10+(rowOf x 14 10).getD 3 0) ((rowOf x 14 10).getD 4 0*10+(rowOf x 14 10).getD 5 0) (rowOf x 14 10) (Kl (head/512)) n0 n1 n2=.ok d):wI M [.str w,.int x,.tuple [.int n0,.int n1,.int n2],.int head]=.ok d:=by have h1:uf M [.int x,.int 14,.int 10]=.ok (lI (rowOf x 14 10)):=Ub M x 14 10 (by decide) (by decide) (by decide);have h2:=agg M (head/512);obtain⟨r2,_⟩:=jZ x 2 (by decide);obtain⟨r3,_⟩:=jZ x 3 (by decide);obtain⟨r4,_⟩:=jZ x 4 (by decide);obtain⟨r5,_⟩:=jZ x 5 (by decide);generalize rowOf x 14 10=p at *;generalize p.getD 2 0=d2 at *;generalize p.getD 3 0=d3 at *;generalize p.getD 4 0=d4 at *;generalize p.getD 5 0=d5 at *;have hm:∀z,decide (CMul z 10)=true:=λz=>mul_r (by decide);have hd:∀z,decide (CDiv z 512)=true:=λz=>decide_eq_true ⟨by decide,by decide⟩;simp only[show((2:Nat):Int)=2 from rfl,show((3:Nat):Int)=3 from rfl,show((4:Nat):Int)=4 from rfl,show((5:Nat):Int)=5 from rfl]at r2 r3 r4 r5;unfold dd at h;simp[wI,Wc,h1,h2,r2,r3,r4,r5,hm,hd,h]
theorem Xn(M:Mo)(c:aM)(hc:0<=c.count){w:Str}(hw:w∈words)(x head:Int):∃d:bx,wI M [.str w,.int x,cI c,.int head]=.ok d.dat/\fU d=true/\BR d:=by have P:=WR x (N8 (head/512));obtain⟨_,q2,q2'⟩:=jZ x 2 (by decide);obtain⟨_,q3,q3'⟩:=jZ x 3 (by decide);obtain⟨_,q4,q4'⟩:=jZ x 4 (by decide);obtain⟨_,q5,q5'⟩:=jZ x 5 (by decide);obtain⟨d,h1,h2,h3⟩:=SM M P ((rowOf x 14 10).getD 2 0*10+(rowOf x 14 10).getD 3 0) ((rowOf x 14 10).getD 4 0*10+(rowOf x 14 10).getD 5 0) c.count c.al.length c.bs.length hc (by omega) (by omega) hw (by omega) (by omega);exact⟨d,Z7 M w x head _ _ _ h1,h2,h3⟩
theorem abO(M:Mo)(c:aM)(hc:0<=c.count)(x head:Int):∃a b e,cW e=true/\wI M [.str "enrol",.int x,cI c,.int head]=.ok (.tuple [.str "enrol",.int a,.int b,aH e]):=by have P:=WR x (N8 (head/512));obtain⟨_,_,d2,_⟩:=abx M P ((rowOf x 14 10).getD 2 0*10+(rowOf x 14 10).getD 3 0) ((rowOf x 14 10).getD 4 0*10+(rowOf x 14 10).getD 5 0) c.count c.al.length c.bs.length hc (by omega) (by omega);exact⟨_,_,_,P.mark,Z7 M _ x head _ _ _ d2⟩
theorem ajZ(z:Int):∃w∈words,atI [PyData.str "part",.str "unite",.str "leave",.str "pass",.str "heir"] (z%5)=some (.str w):=by
 have h:z%5=0\/z%5=1\/z%5=2\/z%5=3\/z%5=4:=by omega
 rcases h with h|h|h|h|h<;>rw[h]
 .exact⟨"part",by simp,rfl⟩
 .exact⟨"unite",by simp,rfl⟩
 .exact⟨"leave",by simp,rfl⟩
 .exact⟨"pass",by simp,rfl⟩
 .exact⟨"heir",by simp,rfl⟩
section
variable{c0:aM}{head:Int}(R:∀{M:Mo} {L:Lay} {n s:Nat} {c:aM},L.c=0->At M L c->Inv n s c->s<=76->n<=199->∀x:Int,wH M [ob 0,.int x,cI c0,.int head]=.ok (.bool true))
include R
theorem R5{M:Mo}{L:Lay}{n s:Nat}{c:aM}(hL:L.c=0)(a:At M L c)(I:Inv n s c)(hs:s<=76)(hn:n<=199)(x:Int):Eh M [ob 0,.int x,cI c0,.int head]=.ok (.bool true):=by
 have hd7:∀z,decide (CDiv z 7)=true:=λz=>decide_eq_true ⟨by decide,by decide⟩;have one:∀y:Int,Ox M [some (.dat (ob 0)),some (.dat (.int x)),some (.dat (cI c0)),some (.dat (.int head)),some (.dat (.int y))]=.next [some (.dat (ob 0)),some (.dat (.int x)),some (.dat (cI c0)),some (.dat (.int head)),some (.dat (.int y))] M:=λy=>by
  have h1:=R hL a I hs hn y;generalize cI c0=k at *;simp[Ox,h1]
 generalize cI c0=k at *;simp[Eh,Wq,hd7,one,dX]
theorem Uu{ns0:Option Cell}(x:Int)(x9:Option Cell):∀(xs:List Int) {M:Mo} {L:Lay} {n s:Nat} {c:aM} (_:L.c=0) (_:At M L c) (_:Inv n s c) (_:s+xs.length<=76) (_:n+xs.length<=199) (x6 x7 x8:Option Cell),∃Z M',dX (aF 6) JB (xs.map PyData.int) M [ns0,some (.dat (ob 0)),some (.dat (.int head)),some (.dat (.int x)),some (.dat (cI c0)),some (.dat (cI c)),x6,x7,x8]=.next Z M'
 |[],M,L,n,s,c,hL,a,I,hs,hn,x6,x7,x8=>⟨_,_,rfl⟩
 |y::xs,M,L,n,s,c,hL,a,I,hs,hn,x6,x7,x8=>by
  rw[atQ]at hs hn;have h1:uf M [.int y,.int 14,.int 10]=.ok (lI (rowOf y 14 10)):=Ub M y 14 10 (by decide) (by decide) (by decide);obtain⟨r0,q0⟩:=jZ y 0 (by decide);obtain⟨r1,q1⟩:=jZ y 1 (by decide);obtain⟨r11,q11⟩:=jZ y 11 (by decide);obtain⟨r12,q12⟩:=jZ y 12 (by decide);obtain⟨r13,q13⟩:=jZ y 13 (by decide);have hm:∀z,decide (CMul z 10)=true:=λz=>mul_r (by decide);obtain⟨w1,hw1,h2⟩:=adg M ((rowOf y 14 10).getD 0 0*10+(rowOf y 14 10).getD 1 0);obtain⟨w2,hw2,h3⟩:=ajZ ((rowOf y 14 10).getD 11 0);generalize rowOf y 14 10=p at *;generalize p.getD 0 0=d0 at *;generalize p.getD 1 0=d1 at *;generalize p.getD 11 0=d11 at *;generalize p.getD 12 0=d12 at *;generalize p.getD 13 0=d13 at *;simp only[Int.natCast_zero,Int.natCast_one,show((11:Nat):Int)=11 from rfl,show((12:Nat):Int)=12 from rfl,show((13:Nat):Int)=13 from rfl]at r0 r1 r11 r12 r13;have step:∃M1 bs c1 ρ8,JB M [ns0,some (.dat (ob 0)),some (.dat (.int head)),some (.dat (.int x)),some (.dat (cI c0)),some (.dat (cI c)),some (.dat (.int y)),x7,x8]=.next [ns0,some (.dat (ob 0)),some (.dat (.int head)),some (.dat (.int x)),some (.dat (cI c0)),some (.dat (cI c1)),some (.dat (.int y)),some (.dat (lI p)),ρ8] M1/\At M1 { L with bs:=bs } c1/\Inv (n+1) (s+1) c1:=by
   by_cases hq:d12%3=1
   .obtain⟨d,h4,h5,h6⟩:=Xn M c I.cnt.1 hw2 y head;obtain⟨M1,bs,c1,h7,a1,I1⟩:=U5 a I (by omega) (by omega) d h6 d13;have h8:=R5 R (L:={ L with bs:=bs }) hL a1 (I1.mono (at6 _) (by have:=DY d;omega):Inv (n+1) (s+1) c1) (by omega) (by omega) x;rw[hL]at h7;refine⟨M1,bs,c1,some (.dat (.str w2)),?_,a1,I1.mono (at6 _) (by have:=DY d;omega)⟩;generalize cI c0=k0 at *;generalize cI c1=k1 at *;generalize cI c=k at *;simp[JB,h1,r0,r1,hm,h2,r12,hq,r11,h3,h4,r13,h7,h8]
   .obtain⟨d,h4,h5,h6⟩:=Xn M c I.cnt.1 hw1 y head;obtain⟨M1,bs,c1,h7,a1,I1⟩:=U5 a I (by omega) (by omega) d h6 d13;have h8:=R5 R (L:={ L with bs:=bs }) hL a1 (I1.mono (at6 _) (by have:=DY d;omega):Inv (n+1) (s+1) c1) (by omega) (by omega) x;rw[hL]at h7;refine⟨M1,bs,c1,some (.dat (.str w1)),?_,a1,I1.mono (at6 _) (by have:=DY d;omega)⟩;generalize cI c0=k0 at *;generalize cI c1=k1 at *;generalize cI c=k at *;simp[JB,h1,r0,r1,hm,h2,r12,hq,h4,r13,h7,h8]
  obtain⟨M1,bs,c1,y8,e1,a1,I1⟩:=step;obtain⟨Z,M',e2⟩:=Uu x x9 xs (L:={ L with bs:=bs }) hL a1 I1 (by omega) (by omega) (some (.dat (.int y))) (some (.dat (lI p))) y8;exact⟨Z,M',by rw[atE,fD (Z1:=[ns0,some (.dat (ob 0)),some (.dat (.int head)),some (.dat (.int x)),some (.dat (cI c0)),some (.dat (cI c)),some (.dat (.int y)),x7,x8]) (by simp) e1];exact e2⟩
end
theorem afk(R:∀{c0:aM} {head:Int},0<=c0.count->∀{M:Mo} {L:Lay} {n s:Nat} {c:aM},L.c=0->At M L c->Inv n s c->s<=76->n<=199->∀x:Int,wH M [ob 0,.int x,cI c0,.int head]=.ok (.bool true))(ns:List Int)(h:ns.length<=63):∃M,TV [] [.list (ns.map PyData.int)]=.ok (.bool true) M:=by
 obtain⟨M0,L,hL,h0,a0⟩:=ao3;have cell0:Cg M0 [lI ns,.int 0]=_:=acG M0 ns 0;have cell1:Cg M0 [lI ns,.int 1]=_:=acG M0 ns 1;have hl:=acY ns 6 44 (by decide);generalize hcl:Rf.cutD ns (some ((6:Nat):Int)) (some ((44:Nat):Int))=cells at hl;have hcl2:Rf.cutD (ns.map PyData.int) (some 6) (some 44)=cells.map PyData.int:=by rw[acu];exact congrArg _ hcl
 have hl4:=acY ns 2 6 (by decide);generalize hml:Rf.cutD ns (some ((2:Nat):Int)) (some ((6:Nat):Int))=more at hl4;have hml2:Rf.cutD (ns.map PyData.int) (some 2) (some 6)=more.map PyData.int:=by rw[acu];exact congrArg _ hml
 obtain⟨c,M1,L1,hL1,h1,N1⟩:=ajB a0 cells (by omega) (if ns.getD 0 0<0 then -(ns.getD 0 0) else ns.getD 0 0);generalize hhd:(if ns.getD 0 0<0 then -(ns.getD 0 0) else ns.getD 0 0)=hd at *;generalize ns.getD 0 0=z0 at *;generalize ns.getD 1 0=z1 at *;have I:=N1.inv;have hL1:=hL1.trans hL;have t1:=R5 (R (head:=hd) I.cnt.1) hL1 N1.at_ I (by decide) (by decide) z1;obtain⟨Z,M2,h2⟩:=Uu (R (head:=hd) I.cnt.1) (ns0:=some (.dat (lI ns))) z1 none more hL1 N1.at_ I (by omega) (by omega) none none none;rw[hL]at h1;refine⟨M2,?_⟩;generalize cI c=k at *;simp[TV,adV,h0,cell0,cell1,hcl2,hml2,hhd,h1,t1,h2]
theorem U0(M:Mo)(c:aM)(g:Int):sS M [kY c,.int g]=.ok (.bool (decide (Vg c g))):=by by_cases h:1<=g<;>simp[sS,Bf,h,Vg]
theorem adt(M:Mo)(x0:Option Cell):∀(l:List Int) (x1:Option Cell),if l.all (λd=>decide (0<=d)&&decide (d<=9))=true then ∃y1,dX (aF 1) pq (l.map PyData.int) M [x0,x1]=.next [x0,y1] M else dX (aF 1) pq (l.map PyData.int) M [x0,x1]=.ret (.bool false) M
 |[],x1=>by
  rw[au5 (by simp)];exact⟨x1,rfl⟩
 |d::l,x1=>by
  have hw:=Pq M d;have ih:=adt M x0 l (some (.dat (.int d)));by_cases h0:0<=d
  .by_cases h9:d<=9
   .have hb:pq M [x0,some (.dat (.int d))]=.next [x0,some (.dat (.int d))] M:=by simp[pq,hw,h0,h9]
    have e:(d::l).all (λd=>decide (0<=d)&&decide (d<=9))=l.all (λd=>decide (0<=d)&&decide (d<=9)):=by simp[h0,h9]
    rw[e,atE,fD (Z1:=[x0,some (.dat (.int d))]) (by simp) hb];exact ih
   .rw[au6 (by simp[h0,h9]),atE,dX];simp[pq,hw,h0,h9]
  .rw[au6 (by simp[h0]),atE,dX];simp[pq,hw,h0]
theorem abU(M:Mo)(x:List Int)(hx:x.length<=1000):tK M [aH x]=.ok (.bool (cW x)):=by
 have k:=adt M (some (.dat (aH x))) x none;unfold cW;by_cases h6:x.length=6
 .have h6':((x.length:Int)==6)=true:=by simp[h6]
  cases e:x.all (λd=>decide (0<=d)&&decide (d<=9)) with
  |true=>
   rw[e,au5 rfl]at k;obtain⟨y1,k⟩:=k;simp[tK,zP,wY,yK,h6,k]
  |false=>
   rw[e,au6 (by simp)]at k;simp[tK,zP,wY,yK,h6,k]
 .have h6':¬(x.length:Int)=6:=by omega
  simp[tK,zP,wY,yK,h6,h6']
theorem agl(M:Mo)(m:List Int)(hm:m.length=6)(x:Int):∃e:List Int,e.length<=1000/\nH M [aH m,.int x]=.ok (aH e):=by
 obtain⟨y,hy⟩:=ae2 M x;have c5:Rf.cutD (m.map PyData.int) none (some 5)=(m.take 5).map PyData.int:=by rw[show(5:Int)=((5:Nat):Int) from rfl,Rj,List.map_take]
 have c3:Rf.cutD (m.map PyData.int) none (some 3)=(m.take 3).map PyData.int:=by rw[show(3:Int)=((3:Nat):Int) from rfl,Rj,List.map_take]
 have c4:Rf.cutD (m.map PyData.int) (some 4) none=(m.drop 4).map PyData.int:=by rw[show(4:Int)=((4:Nat):Int) from rfl,Kh,List.map_drop]
 have c1:Rf.cutD (m.map PyData.int) (some 1) none=(m.drop 1).map PyData.int:=by rw[show(1:Int)=((1:Nat):Int) from rfl,Kh,List.map_drop]
 by_cases h0:x%17=0
 .exact⟨m.take 5,by simp;omega,by simp[nH,qZ,h0,c5]⟩
 by_cases h1:x%17=1
 .exact⟨m++[0],by simp[hm],by simp[nH,qZ,h1,hm]⟩
 by_cases h2:x%17=2
 .exact⟨m.take 3++[10]++m.drop 4,by simp;omega,by simp[nH,qZ,h2,c3,c4,hm]⟩
 by_cases h3:x%17=3
 .exact⟨[-1]++m.drop 1,by simp;omega,by simp[nH,qZ,h3,c1,hm]⟩
 by_cases h4:x%17=4
 .exact⟨[0,0,0,0,0,0],by simp,by simp[nH,qZ,h4]⟩
 by_cases h5:x%17=5
 .exact⟨[],by simp,by simp[nH,qZ,h5]⟩
 by_cases h6:x%17=6
 .exact⟨m.take 5++[y],by simp;omega,by simp[nH,qZ,h6,c5,hy,hm]⟩
 .exact⟨m,by omega,by simp[nH,qZ,h0,h1,h2,h3,h4,h5,h6]⟩
@[simp]theorem aq4 (b:dB):aN (dW b) (.int 0)=.ok (.int b.sd.o):=rfl
@[simp]theorem asp (b:dB):aN (dW b) (.int 1)=.ok (.int b.sd.g):=rfl
@[simp]theorem arf (b:dB):aN (dW b) (.int 2)=.ok (mF b.sd.due):=rfl
@[simp]theorem arA (b:dB):aN (dW b) (.int 3)=.ok (aH b.sd.ear):=rfl
@[simp]theorem arC (b:dB):aN (dW b) (.int 4)=.ok (.bool b.sd.al):=rfl
@[simp]theorem asQ (b:dB):aN (dW b) (.int 5)=.ok (.int b.mo):=rfl
@[simp]theorem asi (b:dB):aN (dW b) (.int 6)=.ok (.tuple (b.fi.dat::b.en.map En.dat)):=rfl
theorem adD{c:aM}{x:Int}(h:Vg c x):atI ((List.range c.al.length).map (Xh c)) (x-1)=some (.tuple [.int (m9 c x),aH (aJ c x)]):=by obtain⟨k,hk,rfl⟩:=uH h;rw[show(k:Int)+1-1=(k:Int) by omega,ahM];simp[hk,Xh]
theorem af5(neg:Bool)(y:Int)(l:List Int)(h:l.length<=1000):inD neg (.int y) (aH l)=.ok (.bool (neg ^^ decide (y∈l))):=by
 have:=any_ints y l;have h2:(Mj (PyData.int y)&&l.all (Mj ∘ PyData.int))=true:=by simp[Mj,at5]
 simp[inD,inB,this,h2]
theorem aeh(M:Mo)(c:aM)(i:dG c)(x:Int)(h:Vg c x):Cz M [kY c,.int x]=.ok (.int (roomOf c x)):=by
 have h1:=adD h;have hc:=i.at h;have hl:(aJ c x).length<=50000:=by have:=i.clen hc;omega
 have hne:(aJ c x).map (m9 c)≠[]:=λz=>by
  have:=i.self h;rw[List.map_eq_nil_iff.mp z]at this;cases this
 have key:=fG (tg:=aF 2) (te:=aA aN (aA aN (aA aN (ao 0) (qC (.int 1))) (aA mH (ao 2) (qC (.int 1)))) (qC (.int 0))) (M:=M) (Z:=[some (.dat (kY c)),some (.dat (.int x)),none]) PyData.int (λy=>.int (m9 c y)) (aJ c x) λy hy=>⟨[some (.dat (kY c)),some (.dat (.int x)),some (.dat (.int y))],by simp,by
  have:=adD (i.mem _ _ hc y hy);simp[this]⟩
 have hm:=maxD_ints hne;rw[aua]at hm;simp[at5]at hm;simp[Cz,N6,h1,key,hl,hm,roomOf]
theorem up_eq:∀{S T:List Rw},Ear.Fv S->Ear.Fv T->(∀r,r∈S↔r∈T)->S=T
 |[],[],_,_,_=>rfl
 |[],t::T,_,_,m=>by have:=(m t).mpr atD;cases this
 |s::S,[],_,_,m=>by have:=(m s).mp atD;cases this
 |s::S,t::T,hs,ht,m=>by
  have hs':=List.pairwise_cons.mp hs;have ht':=List.pairwise_cons.mp ht;have e:s=t:=by
   rcases atO.mp ((m s).mp atD) with h1|h1
   .exact h1
   rcases atO.mp ((m t).mpr atD) with h2|h2
   .exact h2.symm
   exact absurd (List.lt_trans (ht'.1 s h1) (hs'.1 t h2)) (List.lt_irrefl _)
  subst e;congr 1;refine up_eq hs'.2 ht'.2 λr=>⟨λh=>?_,λh=>?_⟩
  .rcases atO.mp ((m r).mp (atA _ h)) with z|z
   .subst z;exact absurd (hs'.1 _ h) (List.lt_irrefl _)
   .exact z
  .rcases atO.mp ((m r).mpr (atA _ h)) with z|z
   .subst z;exact absurd (ht'.1 _ h) (List.lt_irrefl _)
   .exact z
theorem ale(r s:Rw):vX (Ear.rD r) (Ear.rD s)=.ok (.bool (!decide (r=s))):=by
 have e:PyData.eqv (Ear.rD r) (Ear.rD s)=decide (r=s):=by rw[auI];simp[Ear.rD,Ear.dT,Prod.ext_iff]
 have:eqB (Ear.rD r) (Ear.rD s)=.ok (decide (r=s)):=by show Out.when (okd 12 (Ear.rD r)&&okd 12 (Ear.rD s)) (.ok (PyData.eqv (Ear.rD r) (Ear.rD s)))=_;rw[Oj 10,Oj 10,e];rfl
 unfold vX;rw[this];rfl
theorem atI_last{α:Type}(l:List α)(a:α):atI (l++[a]) (-1)=some a:=by
 unfold atI ixN;have:(-1+((l.length:Int)+1)).toNat=l.length:=by omega
 have h2:(1:Int)<=l.length+1:=by omega
 simp[this,h2]
def uw(acc:List Rw)(r:Rw):List Rw:=if acc.getLast?=some r then acc else acc++[r]
theorem agh(M:Mo)(x0:Option Cell)(acc:List Rw)(r:Rw)(h:acc.length<=5000):Aj M [x0,some (.mut (acc.map Ear.rD)),some (.dat (Ear.rD r))]=.next [x0,some (.mut ((uw acc r).map Ear.rD)),some (.dat (Ear.rD r))] M:=by
 have h1:=(eq_nil (acc.map Ear.rD) (adq 9 acc)).1;have h0:acc.length<100000:=by omega
 rcases List.eq_nil_or_concat acc with rfl|⟨l,a,rfl⟩
 .simp at h1;simp[Aj,h1,uw]
 .have h2:((l++[a]).map Ear.rD).isEmpty=false:=by simp
  rw[List.concat_eq_append]at *;rw[h2]at h1;rw[List.map_append]at h1 |-
  have h3:=ale a r;have h4:=atI_last (l.map Ear.rD) (Ear.rD a);simp at h0;by_cases e:a=r
  .subst e;simp at h1 h4 h3;simp[Aj,h1,h4,h3,uw]
  .simp[e]at h1 h4 h3;simp[Aj,h1,h4,h3,uw,e,h0]
theorem Yd(M:Mo)(x0:Option Cell):∀(R acc:List Rw) (x2:Option Cell),acc.length+R.length<=5000->∃y2,dX (aF 2) Aj (R.map Ear.rD) M [x0,some (.mut (acc.map Ear.rD)),x2]=.next [x0,some (.mut ((R.foldl uw acc).map Ear.rD)),y2] M
 |[],acc,x2,_=>⟨x2,rfl⟩
 |r::R,acc,x2,h=>by
  rw[atQ]at h;have hl:(uw acc r).length<=acc.length+1:=by
   unfold uw
   split<;>simp
  obtain⟨y2,h2⟩:=Yd M x0 R (uw acc r) (some (.dat (Ear.rD r))) (by omega);exact⟨y2,by rw[atE,fD (Z1:=[x0,some (.mut (acc.map Ear.rD)),some (.dat (Ear.rD r))]) (by simp) (agh M x0 acc r (by omega))];exact h2⟩
theorem Vp:∀(R acc:List Rw),Ear.Fv acc->R.Pairwise (λa b=>Ear.rk a<=Ear.rk b)->(∀a∈acc,∀r∈R,Ear.rk a<=Ear.rk r)->Ear.Fv (R.foldl uw acc)/\∀x,x∈R.foldl uw acc↔x∈acc\/x∈R
 |[],acc,ha,_,_=>⟨ha,by simp⟩
 |r::R,acc,ha,hR,hb=>by
  have hR':=List.pairwise_cons.mp hR;rw[auJ];by_cases e:acc.getLast?=some r
  .have e1:uw acc r=acc:=by rw[uw,au5 e]
   rw[e1];obtain⟨k1,k2⟩:=Vp R acc ha hR'.2 λa m x hx=>hb a m x (atA _ hx);have mr:r∈acc:=List.mem_of_getLast? e;refine⟨k1,λx=>?_⟩;rw[k2,atO];constructor
   .rintro(h|h)
    .exact .inl h
    .exact .inr (.inr h)
   .rintro(h|h|h)
    .exact .inl h
    .subst h;exact .inl mr
    .exact .inr h
  .have e1:uw acc r=acc++[r]:=by rw[uw,au6 e]
   rw[e1];have hup:Ear.Fv (acc++[r]):=by
    rcases List.eq_nil_or_concat acc with rfl|⟨l,a,rfl⟩
    .exact List.pairwise_singleton _ _
    .rw[List.concat_eq_append]at *;have ne:a≠r:=λz=>e (by simp[z]);have lt:Ear.rk a<Ear.rk r:=by
      have:=hb a (by simp) r atD;by_cases c:Ear.rk a<Ear.rk r
      .exact c
      .exact absurd (Ear.Zx (List.le_antisymm this (List.not_lt.mp c))) ne
     refine List.pairwise_append.mpr ⟨ha,List.pairwise_singleton _ _,λx hx y hy=>?_⟩;rw[atF.mp hy];rcases atL.mp hx with hx|hx
     .exact List.lt_trans ((List.pairwise_append.mp ha).2.2 x hx a (by simp)) lt
     .rw[atF.mp hx];exact lt
   obtain⟨k1,k2⟩:=Vp R (acc++[r]) hup hR'.2 λa m x hx=>by
    rcases atL.mp m with m|m
    .exact hb a m x (atA _ hx)
    .rw[atF.mp m];exact hR'.1 x hx
   refine⟨k1,λx=>?_⟩;rw[k2,atL,atF,atO,or_assoc]
theorem ahH(R:List Rw):(rG R).Pairwise λa b=>Ear.rk a<=Ear.rk b:=by unfold rG;have srt:=auu (le:=λa b:Ear.Rw=>decide (Ear.rk a<=Ear.rk b)) (λa b c k1 k2=>by rw[au1]at *;exact List.le_trans k1 k2) (λa b=>by rw[auB,au1,au1];exact List.le_total _ _) R;exact srt.imp λh=>by simpa using h
theorem adH(R:List Rw):Bw (.list (R.map Ear.rD))=.ok (.list ((rG R).map Ear.rD)):=by
 cases R with
 |nil=>simp[Bw,intsOf,sortI,rG]
 |cons r R=>
  have h1:intsOf ((r::R).map Ear.rD)=none:=by simp[intsOf,Ear.rD]
  show(match intsOf ((r::R).map Ear.rD) with
   |some l=>Out.ok (PyData.list ((sortI l).map PyData.int))
   |none=>match DR ((r::R).map Ear.rD) with
    |some R=>.ok (.list ((rG R).map Ear.rD))
    |none=>.bad)=_
  rw[h1,Nb]
theorem ajh(M:Mo)(R:List Rw)(h:R.length<=5000):Nq M [.list (R.map Ear.rD)]=.ok (.list ((bf R).map Ear.rD)):=by
 have hl:(rG R).length=R.length:=by simp[rG]
 obtain⟨y2,h1⟩:=Yd M (some (.dat (.list (R.map Ear.rD)))) (rG R) [] none (by simp;omega);have h2:=Vp (rG R) [] List.Pairwise.nil (ahH R) (by simp);have e:(rG R).foldl uw []=bf R:=up_eq h2.1 (Ln R) λx=>by
  rw[h2.2,fV];simp[rG]
 rw[e]at h1;simp only[auG]at h1;simp[Nq,aaz,adH,h1]
theorem agJ(M:Mo)(x0 x2:Option Cell)(x6 x7 x8:Option Cell)(nD:Dat)(near:List Int)(hn:∀y,inD false (.int y) nD=.ok (.bool (decide (y∈near))))(lo:Int)(acc:List Rw)(i:Int)(b:dB)(h:acc.length<=5000) :
  oK M [x0,some (.dat nD),some (.dat (.int lo)),some (.mut (acc.map Ear.rD)),some (.dat (.int i)),some (.dat (dW b)),x6,x7,x8]=.next [x0,some (.dat nD),some (.dat (.int lo)),some (.mut ((acc++if (b.sd.due.isSome&&!((i+1)==lo))&&(decide (b.sd.g∈near)&&b.sd.al) then[(b.sd.o,b.sd.due.getD [])] else[]).map Ear.rD)),some (.dat (.int i)),some (.dat (dW b)),x6,x7,x8] M:=by
 have h0:acc.length<100000:=by omega
 have h1:=hn b.sd.g;cases e1:b.sd.al with
 |false=>simp[oK,e1]
 |true=>
  cases e2:b.sd.due with
  |none=>simp[oK,e1,e2,mF,jE]
  |some e=>
   by_cases e3:b.sd.g∈near
   .by_cases e4:i+1=lo
    .simp[oK,e1,e2,mF,jE,h1,e3,e4]
    .simp[oK,e1,e2,mF,jE,h1,e3,e4,h0,Ear.rD,Ear.dT]
   .simp[oK,e1,e2,mF,jE,h1,e3]
theorem XH(M:Mo)(x0:Option Cell)(x6 x7 x8:Option Cell)(nD:Dat)(near:List Int)(hn:∀y,inD false (.int y) nD=.ok (.bool (decide (y∈near))))(lo:Int):∀(xs:List (Nat×dB)) (acc:List Rw) (x4 x5:Option Cell),acc.length+xs.length<=5000->∃y4 y5,
  dX (bB [4,5]) oK (xs.map λx=>.tuple [.int (x.1:Int),dW x.2]) M [x0,some (.dat nD),some (.dat (.int lo)),some (.mut (acc.map Ear.rD)),x4,x5,x6,x7,x8]=.next [x0,some (.dat nD),some (.dat (.int lo)),some (.mut ((acc++((xs.filter λx=>(x.2.sd.due.isSome&&!(((x.1:Int)+1)==lo))&&(decide (x.2.sd.g∈near)&&x.2.sd.al)).map λx=>(x.2.sd.o,x.2.sd.due.getD []))).map Ear.rD)),y4,y5,x6,x7,x8] M
 |[],acc,x4,x5,_=>⟨x4,x5,by simp[dX]⟩
 |x::xs,acc,x4,x5,h=>by
  rw[atQ]at h;have hs:=agJ M x0 (some (.dat (.int lo))) x6 x7 x8 nD near hn lo acc (x.1:Int) x.2 (by omega);generalize hz:(if (x.2.sd.due.isSome&&!(((x.1:Int)+1)==lo))&&(decide (x.2.sd.g∈near)&&x.2.sd.al) then[(x.2.sd.o,x.2.sd.due.getD [])] else[])=z at hs;have hl:z.length<=1:=by rw[<-hz];split<;>simp
  obtain⟨y4,y5,h2⟩:=XH M x0 x6 x7 x8 nD near hn lo xs (acc++z) (some (.dat (.int x.1))) (some (.dat (dW x.2))) (by rw[auj];omega);refine⟨y4,y5,?_⟩;rw[atE,fD (Z1:=[x0,some (.dat nD),some (.dat (.int lo)),some (.mut (acc.map Ear.rD)),some (.dat (.int x.1)),some (.dat (dW x.2)),x6,x7,x8]) (by simp) hs,h2,<-hz];congr 6;rw[auq]
  split<;>simp
theorem afY(c:aM):pJ 0 (c.bs.map dW)=(c.bs.mapIdx λi b=>(i,b)).map λx=>.tuple [.int (x.1:Int),dW x.2]:=by unfold pJ;apply at9;intro j;simp only[atR,aup];cases c.bs[j]?<;>simp
theorem aez(M:Mo)(c:aM)(hh:c.held.length<=2000)(hb:c.bs.length<=2000)(nD:Dat)(near:List Int)(hn:∀y,inD false (.int y) nD=.ok (.bool (decide (y∈near))))(lo:Int):Cu M [kY c,nD,.int lo]=.ok (.list ((bf (inR c near++Fw c lo near)).map Ear.rD)):=by
 have k1:=gQ (tg:=bB [6,7,8]) (tt:=aW (aA (inD false) (ao 7) (ao 1))) (te:=bD (aj (aq 6) (aj (aq 8) au))) (M:=M) (Z:=[some (.dat (kY c)),some (.dat nD),some (.dat (.int lo)),none,none,none,none,none,none]) iI (λr=>decide (r.2.1∈near)) (λr=>Ear.rD (r.1,r.2.2)) c.held λr _=>⟨[some (.dat (kY c)),some (.dat nD),some (.dat (.int lo)),none,none,none,some (.dat (.int r.1)),some (.dat (.int r.2.1)),some (.dat (aH r.2.2))],by simp[iI],by simp[hn],λ_=>by simp[Ear.rD,Ear.dT]⟩;have e1:((c.held.filter λr=>decide (r.2.1∈near)).map λr=>Ear.rD (r.1,r.2.2))=(inR c near).map Ear.rD:=by simp[inR,at5]
 rw[e1]at k1;have l1:(inR c near).length<=2000:=by unfold inR;rw[atJ];exact at3 (atU _ _) hh
 obtain⟨y4,y5,k2⟩:=XH M (some (.dat (kY c))) none none none nD near hn lo (c.bs.mapIdx λi b=>(i,b)) (inR c near) none none (by simp;omega);rw[<-afY]at k2;have e2:((c.bs.mapIdx λi b=>(i,b)).filter λx=>(x.2.sd.due.isSome&&!(((x.1:Int)+1)==lo))&&(decide (x.2.sd.g∈near)&&x.2.sd.al)).map (λx=>(x.2.sd.o,x.2.sd.due.getD []))=Fw c lo near:=rfl;rw[e2]at k2;have l2:(Fw c lo near).length<=2000:=by unfold Fw;rw[atJ];exact at3 (atU _ _) (by simp;omega)
 have k3:=ajh M (inR c near++Fw c lo near) (by simp;omega);have h5:c.held.length<=50000:=by omega
 simp[-List.map_append,Cu,Ny,k1,h5,k2,k3]
theorem Yg:∀(l:List (Int×Int)),(l.map λp=>if p.2-p.1>0 then p.2-p.1 else 0).sum=((l.filter λp=>decide (p.1<p.2)).map λp=>p.2-p.1).sum
 |[]=>rfl
 |p::l=>by
  rw[atE,List.sum_cons,Yg l,auq];by_cases h:p.1<p.2
  .rw[au5 (by omega),au5 (by simpa using h),atE,List.sum_cons]
  .rw[au6 (by omega),au6 (by simpa using h)];omega
theorem ahU(M:Mo)(x y:List Int)(h:x.length<=1000):Jv M [aH x,aH y]=.ok (.int (jm x y)):=by
 have key:=fG (tg:=bB [2,3]) (te:=aA u9 (qC (.int 0)) (aA mH (ao 3) (ao 2))) (M:=M) (Z:=[some (.dat (aH x)),some (.dat (aH y)),none,none]) pD (λp=>.int (if p.2-p.1>0 then p.2-p.1 else 0)) (x.zip y) λp _=>⟨[some (.dat (aH x)),some (.dat (aH y)),some (.dat (.int p.1)),some (.dat (.int p.2))],by simp[pD],by simp⟩;have hs:=W8 ((x.zip y).map λp=>if p.2-p.1>0 then p.2-p.1 else 0);rw[Yg,aua]at hs;have hz2:min x.length y.length<=50000:=by omega
 simp[Jv,WK,vH,key,hz2];simp[at5]at hs;simp[hs,jm]
def rA(c:aM)(lo g:Int)(r:Rw):Prop:=(r.1,g,r.2)∈c.held\/∃(i:Nat) (b:dB),c.bs[i]?=some b/\b.sd.al=true/\b.sd.due=some r.2/\b.sd.o=r.1/\b.sd.g=g/\(i:Int)+1≠lo
theorem rA.all{c:aM}{lo g:Int}{r:Rw}(h:rA c lo g r):rA c 0 g r:=h.imp id λ⟨i,b,h1,h2,h3,h4,h5,_⟩=>⟨i,b,h1,h2,h3,h4,h5,by omega⟩
theorem agP{c:aM}{lo:Int}{near:List Int}{r:Rw}:r∈inR c near++Fw c lo near↔∃g∈near,rA c lo g r:=by
 constructor
 .intro h;rcases atL.mp h with h|h
  .obtain⟨g,h1,h2⟩:=W0 h;exact⟨g,h2,.inl h1⟩
  .obtain⟨i,b,h1,h2,h3,h4,h5,h6⟩:=RM h;exact⟨b.sd.g,h5,.inr ⟨i,b,h1,h4,h3,h2,rfl,h6⟩⟩
 .rintro⟨g,hg,h|⟨i,b,h1,h2,h3,h4,h5,h6⟩⟩
  .exact aui _ (atM.mpr ⟨_,at4.mpr ⟨h,by simpa using hg⟩,rfl⟩)
  .refine aul _ (atM.mpr ⟨(i,b),at4.mpr ⟨?_,?_⟩,?_⟩)
   .obtain⟨hi,e⟩:=aty.mp h1;exact List.mem_mapIdx.mpr ⟨i,hi,by rw[e]⟩
   .have h6':((i:Int)+1==lo)=false:=by simpa using h6
    subst h5;simp[h3,h2,hg,h6']
   .simp[h3,h4]
theorem M9{c:aM}{lo x:Int}{r:Rw}:r∈bU c lo x↔∃g∈aJ c x,rA c lo g r:=agP
def NM(c:aM):Prop:=∀x,Vg c x->∀g∈aJ c x,∀h∈aJ c x,∀r s,rA c 0 g r->rA c 0 h s->r.1≠s.1->roomOf c x<jc r.2 s.2
theorem NM.map{c c':aM}(N:NM c)(h1:c'.al=c.al)(h2:c'.ci=c.ci)(f:Int->Int)(h:∀g r,rA c' 0 g r->∃o,rA c 0 g (o,r.2)/\r.1=f o):NM c':=λx hx g hg k hk r s hr hs ne=>by
 have e1:aJ c' x=aJ c x:=by simp[aJ,h2]
 have e0:m9 c'=m9 c:=by funext y;simp[m9,h1]
 have e2:roomOf c' x=roomOf c x:=by unfold roomOf;rw[e1,e0]
 have hx:Vg c x:=by unfold Vg at *;rw[<-h1];exact hx
 rw[e1]at hg hk;obtain⟨o,a1,a2⟩:=h g r hr;obtain⟨p,b1,b2⟩:=h k s hs;rw[e2];exact N x hx g hg k hk (o,r.2) (p,s.2) a1 b1 λz=>ne (by rw[a2,b2];exact congrArg f z)
theorem NM.sub{c c':aM}(N:NM c)(h1:c'.al=c.al)(h2:c'.ci=c.ci)(h:∀g r,rA c' 0 g r->rA c 0 g r):NM c':=N.map h1 h2 id λg r hr=>⟨r.1,h g r hr,rfl⟩
theorem NM.add{c c':aM}(N:NM c)(i:dG c)(h1:c'.al=c.al)(h2:c'.ci=c.ci){lo g0 o:Int}{m:List Int}(hg0:Vg c g0)(h:∀g r,rA c' 0 g r->rA c lo g r\/(g=g0/\r=(o,m)))(hb:∀r∈bU c lo g0,r.1≠o->roomOf c g0<jc m r.2):NM c':=λx hx g hg k hk r s hr hs ne=>by
 have e1:aJ c' x=aJ c x:=by simp[aJ,h2]
 have e0:m9 c'=m9 c:=by funext y;simp[m9,h1]
 have e2:roomOf c' x=roomOf c x:=by unfold roomOf;rw[e1,e0]
 have hx:Vg c x:=by unfold Vg at *;rw[<-h1];exact hx
 rw[e1]at hg hk;rw[e2];have one:∀k,k∈aJ c x->g0∈aJ c x->∀s:Rw,rA c lo k s->s.1≠o->roomOf c x<jc m s.2:=λk hk hg0 s hs ne=>by
  have e:=i.eq hx hg0;have e3:roomOf c x=roomOf c g0:=by unfold roomOf;rw[e]
  rw[e3];exact hb s (M9.mpr ⟨k,by rw[e];exact hk,hs⟩) ne
 rcases h g r hr with a|⟨rfl,rfl⟩
 .rcases h k s hs with b|⟨rfl,rfl⟩
  .exact N x hx g hg k hk r s a.all b.all ne
  .rw[T8];exact one g hg hk r a ne
 .rcases h k s hs with b|⟨_,rfl⟩
  .exact one k hk hg s b λz=>ne z.symm
  .exact absurd rfl ne
theorem Lz{o:Int}{e:List Int}{R:List Rw}{room:Int}(h:yF o e (bf R) room=[]):∀r∈R,r.1≠o->room<jc e r.2:=λr hr ne=>by
 unfold yF at h;have:=List.filter_eq_nil_iff.mp h r (fV.mpr (fV.mpr hr));simp[ne]at this;exact this
theorem K7{o room:Int}{e:List Int}{R:List Rw}{x:Res}{d:Dat}{c':aM}(h:yG o e R room x=.ok d c'):yF o e (bf R) room=[]:=by
 unfold yG at h;split at h
 .assumption
 .cases h
theorem ajV{l:List Int}{m:Int}(hne:l≠[])(h:∀a∈l,a<=m):aes l<=m:=by
 cases l with
 |nil=>exact absurd rfl hne
 |cons n ns=>exact h _ (Ho ns n).1
theorem ai8{l:List Int}{a:Int}(h:a∈l):a<=aes l:=by
 cases l with
 |nil=>cases h
 |cons n ns=>exact(Ho ns n).2 a h
theorem acS{c:aM}{x m:Int}(hx:x∈aJ c x)(h:∀y∈aJ c x,m9 c y<=m):roomOf c x<=m:=ajV (λz=>by rw[List.map_eq_nil_iff.mp z]at hx;cases hx) λa ha=>by
 obtain⟨y,hy,rfl⟩:=atM.mp ha;exact h y hy
theorem aiH{c:aM}{x y:Int}(hy:y∈aJ c x):m9 c y<=roomOf c x:=ai8 (atM.mpr ⟨y,hy,rfl⟩)
theorem NM.finer{c c':aM}(N:NM c)(h1:c'.al=c.al)(hh:c'.held=c.held)(hbs:c'.bs=c.bs)(hs:∀x,Vg c x->x∈aJ c' x/\∀y∈aJ c' x,y∈aJ c x):NM c':=λx hx g hg k hk r s hr hs' ne=>by
 have hx:Vg c x:=by unfold Vg at *;rw[<-h1];exact hx
 obtain⟨a,b⟩:=hs x hx;have e:∀g r,rA c' 0 g r->rA c 0 g r:=λg r h=>by unfold rA at *;rw[<-hh,<-hbs];exact h
 have:=N x hx g (b g hg) k (b k hk) r s (e g r hr) (e k s hs') ne;have:roomOf c' x<=roomOf c x:=acS a λy hy=>by
  have e2:m9 c' y=m9 c y:=by simp[m9,h1]
  rw[e2];exact aiH (b y hy)
 omega
theorem Xu{T:List Rw}{room:Int}(h:kh T room=[]):∀(i j:Nat) (r s:Rw),i<j->T[i]?=some r->T[j]?=some s->r.1≠s.1->room<jc r.2 s.2:=λi j r s lt hr hs ne=>by
 unfold kh at h;rw[List.flatMap_eq_nil_iff]at h;obtain⟨hi,e⟩:=aty.mp hr;have h1:=h (i,r) (List.mem_mapIdx.mpr ⟨i,hi,by rw[e]⟩);have h2:=List.filter_eq_nil_iff.mp (List.map_eq_nil_iff.mp h1) s (atG (i:=j-(i+1)) (by rw[List.getElem?_drop,show i+1+(j-(i+1))=j by omega];exact hs));have ne':(r.1==s.1)=false:=by simpa using ne
 simp[ne']at h2;exact h2
theorem agG{T:List Rw}{room:Int}(h:kh T room=[]){r s:Rw}(hr:r∈T)(hs:s∈T)(ne:r.1≠s.1):room<jc r.2 s.2:=by
 obtain⟨i,hi⟩:=List.mem_iff_getElem?.mp hr;obtain⟨j,hj⟩:=List.mem_iff_getElem?.mp hs;rcases Nat.lt_trichotomy i j with lt|rfl|lt
 .exact Xu h i j r s lt hi hj ne
 .rw[hi]at hj;cases hj;exact absurd rfl ne
 .rw[T8];exact Xu h j i s r lt hj hi λz=>ne z.symm
theorem Jk{c:aM}{i:Nat}{e:En}{b0:dB}(hb:c.bs[i]?=some b0){g:Int}{r:Rw}(h:rA (fX c i e) 0 g r):rA c ((i:Int)+1) g r\/((go b0.sd e).al=true/\(go b0.sd e).due=some r.2/\(go b0.sd e).o=r.1/\(go b0.sd e).g=g):=by
 rcases h with h|⟨j,b,h1,h2,h3,h4,h5,_⟩
 .exact .inl (.inl h)
 .rw[yx]at h1;split at h1
  .next z=>
   subst z;rw[hb]at h1;cases h1;exact .inr ⟨h2,h3,h4,h5⟩
  .next z=>exact .inl (.inr ⟨j,b,h1,h2,h3,h4,h5,by omega⟩)
theorem U3{c:aM}{k o g':Int}{lo g:Int}{r:Rw}(h:rA (yV c k o g') lo g r):rA c lo g r:=by
 rcases h with h|⟨j,b,h1,h2,h3,h4,h5,h6⟩
 .exact .inl h
 .have h1:(c.bs.map λx=>if wg k x&&x.sd.al then o7 x (.followed o g') else x)[j]?=some b:=h1;rw[atR]at h1;obtain⟨x,hx,rfl⟩:=aun.mp h1;cases q:(wg k x&&x.sd.al) with
  |true=>
   rw[q]at h3;have h3:x.sd.due=some r.2:=h3;simp[wg,h3]at q
  |false=>
   rw[q]at h2 h3 h4 h5;exact .inr ⟨j,x,hx,h2,h3,h4,h5,h6⟩
theorem ajc{n s:Nat}{c c':aM}{d:bx}{r:Dat}(I:Inv n s c)(hn:n<=199)(N:NM c)(h:cO c d=.ok r c'):NM c':=by
 have A0:=I.al;have gv:∀{g:Int} {r:Rw} {lo:Int},rA c lo g r->Vg c g:=λh=>by
  rcases h with h|⟨j,b,h1,h2,_,_,h5,_⟩
  .exact(I.hE _ h).2.1
  .rw[<-h5];exact(I.alive (atG h1) h2).2.1
 have nobs:∀{f:Fi},(beg f).due=none->∀g (r:Rw),rA { c with bs:=c.bs++[Bm f] } 0 g r->rA c 0 g r:=λhf g r h=>by
  rcases h with h|⟨j,b,h1,h2,h3,h4,h5,h6⟩
  .exact .inl h
  .by_cases hj:j<c.bs.length
   .rw[atN hj]at h1;exact .inr ⟨j,b,h1,h2,h3,h4,h5,h6⟩
   .rw[atZ (by omega)]at h1;cases hz:j-c.bs.length with
    |zero=>
     rw[hz]at h1;cases h1;have h3:(beg _).due=some r.2:=h3;rw[hf]at h3;cases h3
    |succ q=>
     rw[hz]at h1;simp at h1
 cases d with
 |owner=>
  cases h;exact N.sub rfl rfl λ_ _ h=>h
 |ground x=>
  obtain⟨hx,h⟩:=wL h;cases h;have hl:=I.gr.len;have e1:∀y,Vg c y->aJ { c with al:=c.al++[x],ci:=c.ci++[[(c.al.length:Int)+1]] } y=aJ c y:=λy hy=>by
   obtain⟨k,hk,rfl⟩:=uH hy;simp[aJ,atN (show k<c.ci.length by omega)]
  have e2:∀y,Vg c y->m9 { c with al:=c.al++[x],ci:=c.ci++[[(c.al.length:Int)+1]] } y=m9 c y:=λy hy=>by
   obtain⟨k,hk,rfl⟩:=uH hy;simp[m9,atN hk]
  intro y hy g hg k hk r s hr hs ne;have hy:1<=y/\y<=((c.al++[x]).length:Int):=hy;simp at hy;by_cases hv:Vg c y
  .rw[e1 y hv]at hg hk;have:roomOf { c with al:=c.al++[x],ci:=c.ci++[[(c.al.length:Int)+1]] } y=roomOf c y:=by
    unfold roomOf;rw[e1 y hv];congr 1;exact List.map_congr_left λz hz=>e2 z (I.gr.mem _ _ (I.gr.at hv) z hz)
   rw[this];exact N y hv g hg k hk r s hr hs ne
  .have ey:y=(c.al.length:Int)+1:=by unfold Vg at hv;omega
   subst ey;have:aJ { c with al:=c.al++[x],ci:=c.ci++[[(c.al.length:Int)+1]] } ((c.al.length:Int)+1)=[(c.al.length:Int)+1]:=by simp[aJ,<-hl]
   rw[this]at hg;rw[atF.mp hg]at hr;have hr:rA c 0 ((c.al.length:Int)+1) r:=hr;exact absurd (gv hr) hv
 |enrol o g m=>
  obtain⟨h1,h⟩:=gM h;obtain⟨h2,h⟩:=gY h;obtain⟨h3,h⟩:=Ed h;obtain⟨h4,h⟩:=fK h;obtain⟨h5,h⟩:=fK h;have hb:=Lz (K7 h);have h:=qu h;cases h;refine N.add I.gr rfl rfl h2 (λk r hr=>?_) hb;rcases hr with hr|hr
  .rcases atL.mp hr with hr|hr
   .exact .inl (.inl hr)
   .have:=atF.mp hr;obtain⟨r1,r2⟩:=r;cases this;exact .inr ⟨rfl,rfl⟩
  .exact .inl (.inr hr)
 |leave o g=>
  obtain⟨h1,h⟩:=gM h;obtain⟨h2,h⟩:=gY h;obtain⟨h3,h⟩:=iH h;obtain⟨h4,h⟩:=fK h;cases h;exact N.sub rfl rfl λk r hr=>hr.imp (λz=>(at4.mp z).1) id
 |bring o g e=>
  obtain⟨h1,h⟩:=gM h;obtain⟨h2,h⟩:=gY h;obtain⟨h3,h⟩:=Ed h;obtain⟨h4,h⟩:=iH h;cases h;exact N.sub rfl rfl (nobs rfl)
 |bear k=>
  obtain⟨b0,e0,h1,h2,h3,h⟩:=tO h;cases h;exact N.sub rfl rfl (nobs rfl)
 |cut k=>
  obtain⟨b0,h1,h2,h⟩:=uO h;have hb:=Lz (K7 h);have h:=qu h;cases h;obtain⟨q1,q2,q3⟩:=jP h1;refine N.add I.gr rfl rfl (I.alive (atG q1) h2).2.1 (λg r hr=>?_) hb;rcases Jk q1 hr with z|⟨_,z2,z3,z4⟩
  .exact .inl z.all
  .obtain⟨r1,r2⟩:=r;exact .inr ⟨z4.symm,Prod.ext z3.symm (atY z2).symm⟩
 |tear k p=>
  obtain⟨b0,h1,h2,h⟩:=uO h;obtain⟨h3,h⟩:=wL h;obtain⟨h4,h⟩:=fK h;cases h;obtain⟨q1,q2,q3⟩:=jP h1;refine N.sub rfl rfl λg r hr=>?_;rcases Jk q1 hr with z|⟨z1,z2,z3,z4⟩
  .exact z.all
  .exact .inr ⟨_,b0,q1,z1,z2,z3,z4,by omega⟩
 |sell k o=>
  obtain⟨b0,e0,h1,h2,h3,h⟩:=tO h;obtain⟨h4,h⟩:=gM h;obtain⟨h5,h⟩:=fK h;obtain⟨h6,h⟩:=iH h;have hb:=Lz (K7 h);have h:=qu h;cases h;obtain⟨q1,q2,q3⟩:=jP h1;refine N.add I.gr rfl rfl (I.alive (atG q1) h2).2.1 (λg r hr=>?_) hb;rcases Jk q1 (U3 hr) with z|⟨_,z2,z3,z4⟩
  .rw[show(((k-1).toNat:Nat):Int)+1=k by omega]at z;exact .inl z
  .obtain⟨r1,r2⟩:=r;exact .inr ⟨z4.symm,Prod.ext z3.symm (atY z2).symm⟩
 |move k g=>
  obtain⟨b0,e0,h1,h2,h3,h⟩:=tO h;obtain⟨h4,h⟩:=gY h;obtain⟨h5,h⟩:=fK h;obtain⟨h6,h⟩:=iH h;have hb:=Lz (K7 h);have h:=qu h;cases h;obtain⟨q1,q2,q3⟩:=jP h1;refine N.add I.gr rfl rfl h4 (λg' r hr=>?_) hb;rcases Jk q1 (U3 hr) with z|⟨_,z2,z3,z4⟩
  .exact .inl z.all
  .obtain⟨r1,r2⟩:=r;have z2:b0.sd.due=some r2:=z2;rw[h3]at z2;exact .inr ⟨z4.symm,Prod.ext z3.symm (atY z2).symm⟩
 |die k=>
  obtain⟨b0,h1,h2,h⟩:=uO h;cases h;obtain⟨q1,q2,q3⟩:=jP h1;refine N.sub rfl rfl λg r hr=>?_;rcases Jk q1 hr with z|⟨z1,_⟩
  .exact z.all
  .cases z1
 |wz x y=>
  obtain⟨hy,h⟩:=gY h;obtain⟨hx,h⟩:=gY h;obtain⟨hn',h⟩:=fK h;split at h
  .cases h
  next hcl=>
  cases h;have hm:∀z∈sortI (aJ c x++aJ c y),Vg c z:=λz hz=>by
   rcases atL.mp (Hh.mp hz) with hz|hz
   .exact I.gr.mem _ _ (I.gr.at hx) z hz
   .exact I.gr.mem _ _ (I.gr.at hy) z hz
  intro z hz g hg k hk r s hr hs ne;have hz:Vg c z:=hz;have ez:aJ { c with ci:=encl c.ci (sortI (aJ c x++aJ c y)) } z=if z∈sortI (aJ c x++aJ c y) then sortI (aJ c x++aJ c y) else aJ c z:=by
   obtain⟨j,hj,rfl⟩:=uH hz;have h1:=Ar c.ci (sortI (aJ c x++aJ c y)) j (λy hy=>(hm y hy).1);have hj':j<c.ci.length:=by rw[I.gr.len];exact hj
   have e:aJ { c with ci:=encl c.ci (sortI (aJ c x++aJ c y)) } ((j:Int)+1)=((encl c.ci (sortI (aJ c x++aJ c y)))[j]?).getD []:=by simp[aJ]
   rw[e,h1];by_cases q:(j:Int)+1∈sortI (aJ c x++aJ c y)
   .rw[au5 ⟨q,hj'⟩,au5 q];rfl
   .rw[au6 (λz=>q z.1),au6 q];simp[aJ]
  have hr:rA c 0 g r:=hr;have hs:rA c 0 k s:=hs;by_cases q:z∈sortI (aJ c x++aJ c y)
  .rw[au5 q]at ez;have hle:roomOf { c with ci:=encl c.ci (sortI (aJ c x++aJ c y)) } z<=tG c x y:=acS (by rw[ez];exact q) λw hw=>by
    have e2:m9 { c with ci:=encl c.ci (sortI (aJ c x++aJ c y)) } w=m9 c w:=rfl;rw[ez]at hw;rw[e2];unfold tG;rcases atL.mp (Hh.mp hw) with hw|hw<;>(have:=aiH hw;split<;>omega)
   rw[ez]at hg hk;have mem:∀{g:Int} {r:Rw},g∈sortI (aJ c x++aJ c y)->rA c 0 g r->r∈bf (DP c x y):=λhg hr=>by
    rw[fV];unfold DP;rcases atL.mp (Hh.mp hg) with hg|hg
    .exact aui _ (fV.mpr (M9.mpr ⟨_,hg,hr⟩))
    .exact aul _ (fV.mpr (M9.mpr ⟨_,hg,hr⟩))
   have:=agG hcl (mem hg hr) (mem hk hs) ne;omega
  .rw[au6 q]at ez;have:roomOf { c with ci:=encl c.ci (sortI (aJ c x++aJ c y)) } z=roomOf c z:=by
    unfold roomOf;rw[ez];rfl
   rw[this];rw[ez]at hg hk;exact N z hz g hg k hk r s hr hs ne
 |part x=>
  obtain⟨hx,h⟩:=gY h;obtain⟨h1,h⟩:=fK h;cases h;have hl:∀y∈oA c x,y∈aJ c x:=λy hy=>(at4.mp hy).1;have hv:∀y∈oA c x,1<=y:=λy hy=>(I.gr.mem _ _ (I.gr.at hx) y (hl y hy)).1;refine N.finer rfl rfl rfl λz hz=>?_;have hself:=I.gr.self hz;obtain⟨j,hj,rfl⟩:=uH hz;have hj':j<c.ci.length:=by rw[I.gr.len];exact hj
  have e:aJ { c with ci:=encl (encl c.ci [x]) (oA c x) } ((j:Int)+1)=((encl (encl c.ci [x]) (oA c x))[j]?).getD []:=by simp[aJ]
  have e1:(encl c.ci [x]).length=c.ci.length:=yC [x] [x] c.ci;rw[e,Ar _ _ j hv,Ar c.ci [x] j (λy hy=>by rw[atF.mp hy];exact hx.1),e1];by_cases q:(j:Int)+1∈oA c x
  .rw[au5 ⟨q,hj'⟩];refine⟨q,λy hy=>?_⟩;rw[I.gr.eq hx (hl _ q)];exact hl y hy
  .rw[au6 λz=>q z.1];by_cases q2:(j:Int)+1=x
   .rw[au5 ⟨by simp[q2],hj'⟩];refine⟨by simp[q2],λy hy=>?_⟩;have hy:y=x:=by simpa using hy
    rw[hy,<-q2];exact hself
   .rw[au6 λz=>q2 (by simpa using z.1)];have:(c.ci[j]?).getD []=aJ c ((j:Int)+1):=by simp[aJ]
    rw[this];exact⟨hself,λy hy=>hy⟩
 |pass e h'=>
  obtain⟨h1,h⟩:=gM h;obtain⟨h2,h⟩:=gM h;obtain⟨h3,h⟩:=fK h;cases h;refine N.map rfl rfl (λo=>if o=e then h' else o) λg r hr=>?_;rcases hr with hr|⟨j,b,k1,k2,k3,k4,k5,_⟩
  .have hr:(r.1,g,r.2)∈handed c e h':=hr;unfold handed at hr;rcases(KZ _ _).mp hr with z|z
   .cases z
   .obtain⟨w,hw,hw2⟩:=atM.mp z;obtain⟨w1,w2,w3⟩:=w;unfold BK at hw2;simp only[Prod.mk.injEq]at hw2;obtain⟨z1,z2,z3⟩:=hw2;subst z2 z3;exact⟨w1,.inl hw,z1.symm⟩
  .have k1:(c.bs.map λb=>if (b.sd.o==e)&&b.sd.al then o7 b (.passed h') else b)[j]?=some b:=k1;rw[atR]at k1;obtain⟨x,hx,rfl⟩:=aun.mp k1;cases q:((x.sd.o==e)&&x.sd.al) with
   |true=>
    rw[q]at k2 k3 k4 k5;have q':x.sd.o=e:=by rw[atx]at q;exact au8 q.1
    have k4:h'=r.1:=k4;exact⟨x.sd.o,.inr ⟨j,x,hx,k2,k3,rfl,k5,by omega⟩,by rw[au5 q',k4]⟩
   |false=>
    rw[q]at k2 k3 k4 k5;have k2:x.sd.al=true:=k2;have q':¬x.sd.o=e:=λz=>by simp[z,k2]at q
    have k4:x.sd.o=r.1:=k4;exact⟨x.sd.o,.inr ⟨j,x,hx,k2,k3,rfl,k5,by omega⟩,by rw[au6 q',k4]⟩
 |heir e g x=>
  obtain⟨h1,h⟩:=gM h;obtain⟨h2,h⟩:=gY h;obtain⟨h3,h⟩:=wL h;obtain⟨h4,h⟩:=iH h;split at h
  .next mk hf=>
   cases h;have hfr:=List.find?_some hf;refine N.add I.gr rfl rfl (lo:=0) (o:=c.count+1) (m:=mk) h2 (λk r hr=>?_) λr hr _=>?_
   .rcases hr with hr|hr
    .rcases atL.mp hr with hr|hr
     .exact .inl (.inl hr)
     .have:=atF.mp hr;obtain⟨r1,r2⟩:=r;cases this;exact .inr ⟨rfl,rfl⟩
    .exact .inl (.inr hr)
   .unfold BX at hfr;rw[atV,List.any_eq_false]at hfr;have:=hfr r (fV.mpr hr);simpa using this
  .cases h
theorem nmZ:NM VG:=λx hx=>by
 have h:1<=x/\x<=((0:Nat):Int):=hx;omega
theorem Mg.ok{n:Nat}{c:aM}(h:Mg n c):n<=200->Inv n n c/\NM c:=by
 induction h with
 |nil=>exact λ_=>⟨ali,nmZ⟩
 | @step n c d r hf ih=>
  intro hn;obtain⟨I,N⟩:=ih (by omega);refine⟨(Lh I d (by omega)).mono (at6 _) (by have:=DY d;omega),?_⟩;unfold pW;cases e:cO c d with
  |ok _ c'=>exact ajc I (by omega) N e
  |no _=>exact N
 |le _ h ih=>
  intro hn;obtain⟨I,N⟩:=ih (by omega);exact⟨I.mono h h,N⟩
def EvG(n:Int):En->Prop
 |.torn p=>p<6
 |.cut e=>e.length=6
 |.sold _ e=>e.length=6
 |.moved g=>1<=g/\g<=n
 |.followed _ g=>1<=g/\g<=n
 |_=>True
def FiG(n:Int):Fi->Prop
 |.brought _ g e=>(1<=g/\g<=n)/\e.length=6
 |.born _ _ g=>1<=g/\g<=n
structure Ksd(P:Int->dB->Prop):Prop where
 mono:∀{n m:Int} {b:dB},P n b->n<=m->P m b
 new:∀{n:Int} {f:Fi},FiG n f->P n (Bm f)
 o7:∀{n:Int} {b:dB} {e:En},P n b->EvG n e->P n (o7 b e)
section
variable{P:Int->dB->Prop}(K:Ksd P)
include K
theorem Ksd.one{n:Int}{c:aM}{i:Nat}{e:En}(h:∀b∈c.bs,P n b)(he:EvG n e):∀b∈(fX c i e).bs,P n b:=λb hb=>by
 rcases Rm hb with z|⟨b0,z,rfl⟩
 .exact h b z
 .exact K.o7 (h b0 (atG z)) he
theorem Ksd.many{n:Int}{c:aM}{p:dB->Bool}{e:En}(h:∀b∈c.bs,P n b)(he:EvG n e):∀b∈(pK p e c).bs,P n b:=λb hb=>by
 obtain⟨b0,h1,rfl⟩:=atM.mp hb;split
 .exact K.o7 (h b0 h1) he
 .exact h b0 h1
theorem Ksd.more{n:Int}{c:aM}{f:Fi}(h:∀b∈c.bs,P n b)(hf:FiG n f):∀b∈c.bs++[Bm f],P n b:=λb hb=>by
 rcases atL.mp hb with z|z
 .exact h b z
 .rw[atF.mp z];exact K.new hf
theorem Ksd.step{n s:Nat}{c c':aM}{d:bx}{r:Dat}(I:Inv n s c)(h:∀b∈c.bs,P c.al.length b)(e:cO c d=.ok r c'):∀b∈c'.bs,P c'.al.length b:=by
 cases d with
 |owner=>
  cases e;exact h
 |ground x=>
  obtain⟨_,e⟩:=wL e;cases e;exact λb hb=>K.mono (h b hb) (by simp;omega)
 |enrol o g m=>
  obtain⟨_,e⟩:=gM e;obtain⟨_,e⟩:=gY e;obtain⟨_,e⟩:=Ed e;obtain⟨_,e⟩:=fK e;obtain⟨_,e⟩:=fK e;have e:=qu e;cases e;exact h
 |leave o g=>
  obtain⟨_,e⟩:=gM e;obtain⟨_,e⟩:=gY e;obtain⟨_,e⟩:=iH e;obtain⟨_,e⟩:=fK e;cases e;exact h
 |bring o g m=>
  obtain⟨_,e⟩:=gM e;obtain⟨hg,e⟩:=gY e;obtain⟨he,e⟩:=Ed e;obtain⟨_,e⟩:=iH e;cases e;exact K.more h ⟨hg,dJ he⟩
 |bear k=>
  obtain⟨b0,e0,h1,h2,h3,e⟩:=tO e;cases e;exact K.more h (I.alive (atG (jP h1).1) h2).2.1
 |cut k=>
  obtain⟨b0,h1,h2,e⟩:=uO e;have e:=qu e;cases e;have hm:=atG (jP h1).1;obtain⟨r,q4,q5⟩:=I.mk1 (I.alive hm h2).1;exact K.one h (dJ (yS (I.ear b0 hm) q5))
 |tear k p=>
  obtain⟨b0,h1,h2,e⟩:=uO e;obtain⟨hp,e⟩:=wL e;obtain⟨_,e⟩:=fK e;cases e;exact K.one h (show p.toNat<6 by omega)
 |sell k o=>
  obtain⟨b0,e0,h1,h2,h3,e⟩:=tO e;obtain⟨_,e⟩:=gM e;obtain⟨_,e⟩:=fK e;obtain⟨h6,e⟩:=iH e;have e:=qu e;cases e;have hm:=atG (jP h1).1;obtain⟨r,q4,q5⟩:=I.mk1 h6;exact K.many (c:=fX c _ _) (K.one h (dJ (yS (I.ear b0 hm) q5))) (I.alive (atG (jP h1).1) h2).2.1
 |move k g=>
  obtain⟨b0,e0,h1,h2,h3,e⟩:=tO e;obtain⟨hg,e⟩:=gY e;obtain⟨_,e⟩:=fK e;obtain⟨_,e⟩:=iH e;have e:=qu e;cases e;exact K.many (c:=fX c _ _) (K.one h hg) hg
 |die k=>
  obtain⟨b0,h1,h2,e⟩:=uO e;cases e;exact K.one h trivial
 |wz x y=>
  obtain⟨_,e⟩:=gY e;obtain⟨_,e⟩:=gY e;obtain⟨_,e⟩:=fK e;split at e
  .cases e
  .cases e;exact h
 |part x=>
  obtain⟨_,e⟩:=gY e;obtain⟨_,e⟩:=fK e;cases e;exact h
 |pass x y=>
  obtain⟨_,e⟩:=gM e;obtain⟨_,e⟩:=gM e;obtain⟨_,e⟩:=fK e;cases e;exact K.many h trivial
 |heir x g m=>
  obtain⟨_,e⟩:=gM e;obtain⟨_,e⟩:=gY e;obtain⟨_,e⟩:=wL e;obtain⟨_,e⟩:=iH e;split at e
  .cases e;exact h
  .cases e
theorem Mg.all{n:Nat}{c:aM}(h:Mg n c):n<=200->∀b∈c.bs,P c.al.length b:=by
 induction h with
 |nil=>exact λ_ b hb=>nomatch hb
 | @step n c d r hf ih=>
  intro hn;have I:=(r.ok (by omega)).1;have ih:=ih (by omega);unfold pW;cases e:cO c d with
  |ok _ c'=>exact K.step I ih e
  |no _=>exact ih
 |le _ h ih=>exact λhn=>ih (by omega)
end
def pN(x y:List Int):Bool:=(x.zip y).all λp=>decide (p.1<=p.2)
def iQ(e:List Int)(R:List Rw)(room:Int):List Int:=Bs ((R.filter λr=>pN r.2 e&&decide (jm r.2 e<=room)).map (·.1))
theorem agD(M:Mo)(x y:List Int)(h:x.length<=1000):Ax M [aH x,aH y]=.ok (.bool (pN x y)):=by
 have key:=fG (tg:=bB [2,3]) (te:=aA qP (ao 2) (ao 3)) (M:=M) (Z:=[some (.dat (aH x)),some (.dat (aH y)),none,none]) pD (λp=>.bool (decide (p.1<=p.2))) (x.zip y) λp _=>⟨[some (.dat (aH x)),some (.dat (aH y)),some (.dat (.int p.1)),some (.dat (.int p.2))],by simp[pD],by simp⟩;have hz2:min x.length y.length<=50000:=by omega
 have hb:KH (.list ((x.zip y).map λp=>PyData.bool (decide (p.1<=p.2))))=.ok (.bool (pN x y)):=by
  have:=CQ ((x.zip y).map λp=>decide (p.1<=p.2));rw[aua]at this
  show(match tY ((x.zip y).map λp=>PyData.bool (decide (p.1<=p.2))) with
   |some bs=>Out.ok (PyData.bool (bs.all id))
   |none=>.bad)=_
  have this:tY ((x.zip y).map λp=>PyData.bool (decide (p.1<=p.2)))=_:=this;rw[this];simp[pN,List.all_map,at5]
 simp[Ax,RK,vH,key,hz2,hb]
theorem Pa(M:Mo)(e:List Int)(R:List Rw)(room:Int)(he:e.length<=1000)(hR:rF R)(hl:R.length<=1000):oN M [aH e,.list (R.map Ear.rD),.int room]=.ok (aH (iQ e R room)):=by
 have key:=gQ (tg:=bB [3,4]) (tt:=gH (fB (aR Ax (aj (aq 4) (aj (aq 0) au)))) (aW (aA qP (aR qd (aj (aq 4) (aj (aq 0) au))) (ao 2)))) (te:=aq 3) (M:=M) (Z:=[some (.dat (aH e)),some (.dat (.list (R.map Ear.rD))),some (.dat (.int room)),none,none]) Ear.rD (λr=>pN r.2 e&&decide (jm r.2 e<=room)) (λr=>.int r.1) R λr hr=>by
  have h1:=agD M r.2 e (by rw[hR r hr];decide);have h2:=JZ M r.2 e (by rw[hR r hr];decide);have hd:(bB [3,4]) (Ear.rD r) [some (.dat (aH e)),some (.dat (.list (R.map Ear.rD))),some (.dat (.int room)),none,none]=some [some (.dat (aH e)),some (.dat (.list (R.map Ear.rD))),some (.dat (.int room)),some (.dat (.int r.1)),some (.dat (aH r.2))]:=rfl;refine⟨_,hd,?_,λ_=>by simp⟩;cases hq:pN r.2 e with
  |true=>
   rw[hq]at h1;simp[h1,h2]
  |false=>
   rw[hq]at h1;simp[h1]
 have hi:intsOf ((R.filter λr=>pN r.2 e&&decide (jm r.2 e<=room)).map λr=>PyData.int r.1)=some ((R.filter λr=>pN r.2 e&&decide (jm r.2 e<=room)).map (·.1)):=by have:=nR ((R.filter λr=>pN r.2 e&&decide (jm r.2 e<=room)).map (·.1));rw[aua]at this;exact this
 have hl2:(R.filter λr=>pN r.2 e&&decide (jm r.2 e<=room)).length<=4000:=at3 (atU _ _) (by omega);have hl3:R.length<=50000:=by omega
 simp[oN,Ig,key,hi,hl2,hl3,iQ]
theorem ady{e:List Int}{R:List Rw}{room o:Int}:o∈iQ e R room↔∃m,(o,m)∈R/\pN m e=true/\jm m e<=room:=by
 unfold iQ;rw[Xd,atM];constructor
 .rintro⟨r,h,rfl⟩;obtain⟨h1,h2⟩:=at4.mp h;simp only[atx,au1]at h2;exact⟨r.2,h1,h2⟩
 .rintro⟨m,h1,h2,h3⟩;exact⟨(o,m),at4.mpr ⟨h1,by simp[h2,h3]⟩,rfl⟩
def pU(c:aM)(x:Int)(p:Nat×dB):Dat:=.tuple [.int ((p.1:Int)+1),aH p.2.sd.ear,match p.2.sd.due with
 |none=>.none
 |some _=>aH (iQ p.2.sd.ear (bf (bU c 0 x)) (roomOf c x))]
def Bt(c:aM)(x:Int):List (Nat×dB):=(c.bs.mapIdx λi b=>(i,b)).filter λp=>decide (p.2.sd.g∈aJ c x)&&p.2.sd.al
theorem agk{M:Mo}{L:Lay}{n s:Nat}{c:aM}(a:At M L c)(I:Inv n s c)(hs:s<=76)(x:Int)(hx:Vg c x):lG M [ob L.c,.int x]=.ok (.list ((Bt c x).map (pU c x))):=by
 have f0:=I.hL;have hc:=a.hc;obtain⟨nh,hh⟩:=a.hh;have h3:=qY a I.gr (by omega) (by omega) x (by rw[gR a];exact at3 (I.few λr hr=>iw hr) hs);rw[au5 hx,gR a]at h3;have h4:=vB a I.gr x;rw[au5 hx]at h4;have h5:=xX a I.gr x;rw[au5 hx]at h5;have h6:=Lq a (by omega) (aJ c x);have hlT:(bf (bU c 0 x)).length<=1000:=by rw[lX];exact at3 (I.few λr hr=>iw hr) (by omega)
 have key:=fG (tg:=bB [4,5]) (te:=bD (aj (aq 4) (aj (gq "ear" (ao 5)) (aj (O2 (aW (vP false .none (bL "due" (ao 5)))) (qC .none) (aR oN (aj (gq "ear" (ao 5)) (aj (aq 2) (aj (aq 3) au))))) au)))) (M:=M) (Z:=[some (.dat (ob L.c)),some (.dat (.int x)),some (.dat (.list ((bf (bU c 0 x)).map Ear.rD))),some (.dat (.int (roomOf c x))),none,none]) nb (λp=>pU c x (p.1,p.2.2)) ((cA L c).filter λx_1=>decide (x_1.2.2.sd.g∈aJ c x)&&x_1.2.2.sd.al) λp hp=>by
  obtain⟨hp1,_⟩:=at4.mp hp;obtain⟨nb',hb⟩:=a.hb' hp1;have hel:=dJ (I.ear _ (atG (CG hp1).2));refine⟨[some (.dat (ob L.c)),some (.dat (.int x)),some (.dat (.list ((bf (bU c 0 x)).map Ear.rD))),some (.dat (.int (roomOf c x))),some (.dat (.int ((p.1:Int)+1))),some (.dat (ob p.2.1))],by simp[nb],?_⟩;have ho:=Pa M p.2.2.sd.ear (bf (bU c 0 x)) (roomOf c x) (by omega) (qK I.Fe) hlT;cases hd:p.2.2.sd.due with
  |none=>simp[hb,hd,mF,jE,pU]
  |some d=>simp[hb,hd,mF,jE,pU,ho]
 have e:((cA L c).filter λx_1=>decide (x_1.2.2.sd.g∈aJ c x)&&x_1.2.2.sd.al).map (λp=>pU c x (p.1,p.2.2))=(Bt c x).map (pU c x):=by unfold Bt;rw[<-Hr a,List.filter_map,aua];rfl
 rw[e]at key;have hl:((cA L c).filter λx_1=>decide (x_1.2.2.sd.g∈aJ c x)&&x_1.2.2.sd.al).length<=50000:=at3 (atU _ _) (by rw[a.len'];omega);simp[lG,tH,hc,aO,bH,bQ,bT,fQ,h3,h4,h5,hh,dY,h6,key,hl]
theorem aj5{c c':aM}{d:bx}{r:Dat}(e:cO c d=.ok r c')(h:∀a∈c.al,0<=a):∀a∈c'.al,0<=a:=by
 cases d<;>simp only[cO,uQ,yW,Kf,pA,yG,yu,markB]at e<;>(repeat' split at e)<;>cases e<;>first | exact h | skip
 rename_i hx;intro a ha;rcases atL.mp ha with z|z
 .exact h a z
 .rw[atF.mp z];exact hx.1
theorem Mg.al{n:Nat}{c:aM}(h:Mg n c):∀a∈c.al,0<=a:=by
 induction h with
 |nil=>exact λ_ b=>nomatch b
 | @step n c d r hf ih=>
  unfold pW;cases e:cO c d with
  |ok _ c'=>exact aj5 e ih
  |no _=>exact ih
 |le _ h ih=>exact ih
theorem ahB{M:Mo}{L:Lay}{n s:Nat}{c:aM}(a:At M L c)(I:Inv n s c)(hs:s<=76)(x:Int)(hx:Vg c x)(e:List Int)(he:cW e=true):jg M [ob L.c,.int x,aH e]=.ok (aH (iQ e (bf (bU c 0 x)) (roomOf c x))):=by
 have f0:=I.hL;have hc:=a.hc;obtain⟨n1,m1,hg⟩:=a.hg;have hel:=dJ he;have h1:=rK a x;rw[au5 hx]at h1;have h2:=Bv M e (by omega);rw[au5 he]at h2;have h3:=qY a I.gr (by omega) (by omega) x (by rw[gR a];exact at3 (I.few λr hr=>iw hr) hs);rw[au5 hx,gR a]at h3;have h4:=vB a I.gr x;rw[au5 hx]at h4;have hlT:(bf (bU c 0 x)).length<=1000:=by rw[lX];exact at3 (I.few λr hr=>iw hr) (by omega)
 have h5:=Pa M e (bf (bU c 0 x)) (roomOf c x) (by omega) (qK I.Fe) hlT;simp[jg,qQ,hc,aO,hg,dD,aG,h1,h2,bH,h3,bQ,h4,h5]
theorem TY(M:Mo)(x0 x1:Option Cell):∀(ps:List (Int×Int)) (x2 x3:Option Cell),∃Z,dX (bB [2,3]) yN (ps.map pD) M [x0,x1,x2,x3]=if (ps.all λp=>decide (p.1<=p.2))=true then .next Z M else .ret (.bool false) M
 |[],x2,x3=>⟨[x0,x1,x2,x3],by simp[dX]⟩
 |p::ps,x2,x3=>by
  by_cases q:p.1<=p.2
  .have q2:¬p.1>p.2:=by omega
   obtain⟨Z,h⟩:=TY M x0 x1 ps (some (.dat (.int p.1))) (some (.dat (.int p.2)));refine⟨Z,?_⟩;have hb:yN M [x0,x1,some (.dat (.int p.1)),some (.dat (.int p.2))]=.next [x0,x1,some (.dat (.int p.1)),some (.dat (.int p.2))] M:=by simp[yN,q2]
   rw[atE,fD (Z1:=[x0,x1,some (.dat (.int p.1)),some (.dat (.int p.2))]) (by simp[pD]) hb,h,auk,decide_eq_true q,Bool.true_and]
  .have q2:p.1>p.2:=by omega
   refine⟨[],?_⟩;have hb:yN M [x0,x1,some (.dat (.int p.1)),some (.dat (.int p.2))]=.ret (.bool false) M:=by simp[yN,q2]
   have hp:(bB [2,3]) (pD p) [x0,x1,x2,x3]=some [x0,x1,some (.dat (.int p.1)),some (.dat (.int p.2))]:=by simp[pD]
   simp[dX,hp,hb,q]
theorem agZ(M:Mo)(x y:List Int)(h:x.length<=1000):El M [aH x,aH y]=.ok (.bool (pN x y)):=by
 obtain⟨Z,h1⟩:=TY M (some (.dat (aH x))) (some (.dat (aH y))) (x.zip y) none none;have h2:pN x y=(x.zip y).all λp=>decide (p.1<=p.2):=rfl;rw[<-h2]at h1;cases q:pN x y with
 |true=>
  rw[q,au5 rfl]at h1;simp[El,Qo,vH,h1]
 |false=>
  rw[q,au6 (by decide)]at h1;simp[El,Qo,vH,h1]
def Lr(e:List Int)(room:Int)(r:Rw)(acc:List Int):List Int:=if (pN r.2 e&&decide (jm r.2 e<=room))=true/\r.1∉acc then acc++[r.1] else acc
def RN(e:List Int)(room:Int):List Rw->List Int->List Int
 |[],acc=>acc
 |r::R,acc=>RN e room R (Lr e room r acc)
theorem aal(M:Mo)(x0:Option Cell)(room:Int)(e:List Int):∀(R:List Rw) (acc:List Int) (x4 x5:Option Cell),rF R->acc.length+R.length<=1000->∃y4 y5,dX (bB [4,5]) uh (R.map Ear.rD) M [x0,some (.dat (.int room)),some (.dat (aH e)),some (.mut (acc.map PyData.int)),x4,x5]=.next [x0,some (.dat (.int room)),some (.dat (aH e)),some (.mut ((RN e room R acc).map PyData.int)),y4,y5] M
 |[],acc,x4,x5,_,_=>⟨x4,x5,rfl⟩
 |r::R,acc,x4,x5,hR,hl=>by
  rw[atQ]at hl;have hr:=hR r atD;have h1:=agZ M r.2 e (by omega);have h2:=ahU M r.2 e (by omega);have h3:inD true (.int r.1) (.list (acc.map PyData.int))=_:=Eb true r.1 acc;have h0:acc.length<100000:=by omega
  have key:∀acc',acc'=(Lr e room r acc)->uh M [x0,some (.dat (.int room)),some (.dat (aH e)),some (.mut (acc.map PyData.int)),some (.dat (.int r.1)),some (.dat (aH r.2))]=.next [x0,some (.dat (.int room)),some (.dat (aH e)),some (.mut (acc'.map PyData.int)),some (.dat (.int r.1)),some (.dat (aH r.2))] M:=λacc' ea=>by
   unfold Lr at ea;cases q1:pN r.2 e with
   |false=>
    rw[q1]at ea h1;simp at ea;simp[uh,h1,ea]
   |true=>
    rw[q1]at ea h1;by_cases q2:jm r.2 e<=room
    .by_cases q3:r.1∈acc
     .rw[decide_eq_true q3]at h3;simp[q2,q3]at ea;simp at h3;simp[uh,h1,h2,q2,h3,ea]
     .rw[decide_eq_false q3]at h3;simp[q2,q3]at ea;simp at h3;simp[uh,h1,h2,q2,h3,ea,h0]
    .simp[q2]at ea;simp[uh,h1,h2,q2,ea]
  obtain⟨y4,y5,ih⟩:=aal M x0 room e R (Lr e room r acc) (some (.dat (.int r.1))) (some (.dat (aH r.2))) (λs hs=>hR s (atA _ hs)) (by unfold Lr;split<;>(try rw[auj,List.length_singleton])<;>omega);exact⟨y4,y5,by rw[atE,fD (Z1:=[x0,some (.dat (.int room)),some (.dat (aH e)),some (.mut (acc.map PyData.int)),some (.dat (.int r.1)),some (.dat (aH r.2))]) (by rfl) (key _ rfl)];exact ih⟩
theorem akA{a b:Rw}(h:Ear.rk a<Ear.rk b):a.1<=b.1:=by unfold Ear.rk at h;rcases List.cons_lt_cons_iff.mp h with h|⟨h,_⟩<;>omega
theorem af3(e:List Int)(room:Int):∀(R:List Rw) (acc:List Int),Ear.Fv R->acc.Pairwise (· < ·)->(∀a∈acc,∀r∈R,a<=r.1)->(RN e room R acc).Pairwise (· < ·)/\∀o,o∈RN e room R acc↔o∈acc\/∃m,(o,m)∈R/\pN m e=true/\jm m e<=room
 |[],acc,_,h2,_=>⟨h2,λo=>by simp[RN]⟩
 |r::R,acc,h1,h2,h3=>by
  obtain⟨h4,h5⟩:=List.pairwise_cons.mp h1;have hacc:(Lr e room r acc).Pairwise (· < ·)/\(∀a∈(Lr e room r acc),∀s∈R,a<=s.1)/\∀o,o∈(Lr e room r acc)↔o∈acc\/(o=r.1/\pN r.2 e=true/\jm r.2 e<=room):=by
   unfold Lr;split
   .next q=>
    simp only[atx,au1]at q;refine⟨List.pairwise_append.mpr ⟨h2,List.pairwise_singleton _ _,λa ha b hb=>?_⟩,λa ha s hs=>?_,λo=>?_⟩
    .rw[atF.mp hb];have:=h3 a ha r atD;have:a≠r.1:=λz=>q.2 (z ▸ ha);omega
    .rcases atL.mp ha with z|z
     .exact h3 a z s (atA _ hs)
     .rw[atF.mp z];exact akA (h4 s hs)
    .rw[atL,atF];exact or_congr Iff.rfl ⟨λz=>⟨z,q.1⟩,λz=>z.1⟩
   .next q=>
    simp only[atx,au1]at q;refine⟨h2,λa ha s hs=>h3 a ha s (atA _ hs),λo=>⟨.inl,?_⟩⟩
    rintro(z|⟨rfl,z⟩)
    .exact z
    .exact Classical.byContradiction λy=>q ⟨z,y⟩
  obtain⟨a1,a2,a3⟩:=hacc;obtain⟨b1,b2⟩:=af3 e room R _ h5 a1 a2;refine⟨b1,λo=>?_⟩;show o∈RN e room R _↔_;rw[b2 o,a3 o];constructor
  .rintro((z|⟨rfl,z1,z2⟩)|⟨m,z1,z2⟩)
   .exact .inl z
   .exact .inr ⟨r.2,atD,z1,z2⟩
   .exact .inr ⟨m,atA _ z1,z2⟩
  .rintro(z|⟨m,z1,z2,z3⟩)
   .exact .inl (.inl z)
   .rcases atO.mp z1 with y|y
    .exact .inl (.inr (by rw[<-y];exact⟨rfl,z2,z3⟩))
    .exact .inr ⟨m,y,z2,z3⟩
theorem amr(e:List Int)(room:Int){R:List Rw}(h:Ear.Fv R):RN e room R []=iQ e R room:=by obtain⟨h1,h2⟩:=af3 e room R [] h List.Pairwise.nil (λ_ z=>nomatch z);refine adl h1 (Z0 _) λo=>?_;rw[h2 o];have h3:o∈iQ e R room↔_:=ady;show _↔o∈iQ e R room;rw[h3];simp
theorem Yp(M:Mo)(room:Int)(e:List Int)(S:List Rw)(hS:rF (bf S))(hl:(bf S).length<=1000):Ai M [.list ((bf S).map Ear.rD),.int room,aH e]=.ok (aH (iQ e (bf S) room)):=by obtain⟨y4,y5,h⟩:=aal M (some (.dat (.list ((bf S).map Ear.rD)))) room e (bf S) [] none none hS (by simp;omega);rw[amr e room (Ln S)]at h;generalize iQ e (bf S) room=l at *;simp at h;simp[Ai,Rz,h]
section
variable{M:Mo}{L:Lay}{n s:Nat}{c:aM}(hL:L.c=0)(a:At M L c)(I:Inv n s c)(hs:s<=76)
include hL a I hs
theorem Y0(g:Int)(e:List Int)(he:e.length<=1000):mD M [ob 0,.int g,aH e]=.ok (if Vg c g then(if cW e=true then .tuple [.str "",aH (iQ e (bf (bU c 0 g)) (roomOf c g))] else .tuple [.str "BadEar",.none]) else .tuple [.str "NoGround",.none]):=by
 have hc:=a.hc;rw[hL]at hc;by_cases v:Vg c g
 .rw[au5 v];by_cases q:cW e=true
  .rw[au5 q];have h1:=ahB a I hs g v e q;rw[hL]at h1;generalize iQ e (bf (bU c 0 g)) (roomOf c g)=l at *;simp[mD,vR,hc,aO,pC,h1]
  .rw[au6 q];obtain⟨n1,m1,hg⟩:=a.hg;have h1:=rK a g;rw[au5 v]at h1;have h2:=Bv M e he;rw[au6 q]at h2;have h3:jg M [ob 0,.int g,aH e]=.exc ⟨"BadEar",[]⟩:=by
    simp[jg,qQ,hc,aO,hg,dD,aG,h1,h2]
   simp[mD,vR,hc,aO,pC,h3,uL,HW]
 .rw[au6 v];obtain⟨n1,m1,hg⟩:=a.hg;have h1:=rK a g;rw[au6 v]at h1;have h3:jg M [ob 0,.int g,aH e]=.exc ⟨"NoGround",[]⟩:=by
   simp[jg,qQ,hc,aO,hg,dD,aG,h1]
  simp[mD,vR,hc,aO,pC,h3,uL,HW]
theorem Wb(g:Int):nu M [ob 0,.int g]=.ok (if Vg c g then .tuple [.str "",.list ((Bt c g).map (pU c g))] else .tuple [.str "NoGround",.none]):=by
 have hc:=a.hc;rw[hL]at hc;by_cases v:Vg c g
 .rw[au5 v];have h1:=agk a I hs g v;rw[hL]at h1;generalize (Bt c g).map (pU c g)=l at *;simp[nu,xZ,hc,aO,rH,h1]
 .rw[au6 v];have f0:=I.hL;have h1:=qY a I.gr (by omega) (by omega) g (by rw[gR a];exact at3 (I.few λr hr=>iw hr) hs);rw[au6 v,hL]at h1;have h3:lG M [ob 0,.int g]=.exc ⟨"NoGround",[]⟩:=by
   simp[lG,tH,hc,aO,bH,h1]
  simp[nu,xZ,hc,aO,rH,h3,uL]
omit hL a in
theorem Yi(g:Int)(v:Vg c g)(x0 x1 x2 x3 x4 x5 x6 x7 x8:Option Cell):∀(xs:List (Nat×dB)) (acc:List Dat) (x13 x14:Option Cell),(∀x∈xs,x.2∈c.bs)->acc.length+xs.length<=1000->∃y13 y14,dX (bB [13,14]) vC (xs.map λx=>.tuple [.int (x.1:Int),dW x.2]) M [x0,x1,x2,x3,x4,x5,x6,x7,x8,some (.dat (aH (aJ c g))),some (.dat (.list ((bf (bU c 0 g)).map Ear.rD))),some (.dat (.int (roomOf c g))),some (.mut acc),x13,x14]=.next [x0,x1,x2,x3,x4,x5,x6,x7,x8,some (.dat (aH (aJ c g))),some (.dat (.list ((bf (bU c 0 g)).map Ear.rD))),some (.dat (.int (roomOf c g))),some (.mut (acc++(xs.filter λp=>decide (p.2.sd.g∈aJ c g)&&p.2.sd.al).map (pU c g))),y13,y14] M
 |[],acc,x13,x14,_,_=>⟨x13,x14,by simp[dX]⟩
 |x::xs,acc,x13,x14,hx,hl=>by
  rw[atQ]at hl;have hc:=I.gr.at v;have hcl:(aJ c g).length<=1000:=by have:=I.gr.clen hc;omega
  have h1:=af5 false x.2.sd.g _ hcl;have hel:=dJ (I.ear _ (hx x atD));have hlT:(bf (bU c 0 g)).length<=1000:=by rw[lX];exact at3 (I.few λr hr=>iw hr) (by omega)
  have h2:=Yp M (roomOf c g) x.2.sd.ear (bU c 0 g) (qK I.Fe) hlT;have h0:acc.length<100000:=by omega
  have e1:pU c g x=.tuple [.int ((x.1:Int)+1),aH x.2.sd.ear,match x.2.sd.due with
   |none=>.none
   |some _=>aH (iQ x.2.sd.ear (bf (bU c 0 g)) (roomOf c g))]:=rfl
  have step:vC M [x0,x1,x2,x3,x4,x5,x6,x7,x8,some (.dat (aH (aJ c g))),some (.dat (.list ((bf (bU c 0 g)).map Ear.rD))),some (.dat (.int (roomOf c g))),some (.mut acc),some (.dat (.int (x.1:Int))),some (.dat (dW x.2))]=.next [x0,x1,x2,x3,x4,x5,x6,x7,x8,some (.dat (aH (aJ c g))),some (.dat (.list ((bf (bU c 0 g)).map Ear.rD))),some (.dat (.int (roomOf c g))),some (.mut (acc++([x].filter λp=>decide (p.2.sd.g∈aJ c g)&&p.2.sd.al).map (pU c g))),some (.dat (.int (x.1:Int))),some (.dat (dW x.2))] M:=by
   generalize (bf (bU c 0 g)).map Ear.rD=R at *;generalize iQ x.2.sd.ear (bf (bU c 0 g)) (roomOf c g)=O at *;cases q1:x.2.sd.al with
   |false=>simp[vC,q1]
   |true=>
    by_cases q2:x.2.sd.g∈aJ c g
    .rw[decide_eq_true q2]at h1;simp at h1;cases q3:x.2.sd.due with
     |none=>
      rw[q3]at e1;simp at e1;simp[vC,q1,h1,q2,q3,mF,jE,h0,e1]
     |some d=>
      rw[q3]at e1;simp at e1;simp[vC,q1,h1,q2,q3,mF,jE,h0,e1,h2]
    .rw[decide_eq_false q2]at h1;simp at h1;simp[vC,q1,h1,q2]
  obtain⟨y13,y14,ih⟩:=Yi g v x0 x1 x2 x3 x4 x5 x6 x7 x8 xs (acc++([x].filter λp=>decide (p.2.sd.g∈aJ c g)&&p.2.sd.al).map (pU c g)) (some (.dat (.int (x.1:Int)))) (some (.dat (dW x.2))) (λy hy=>hx y (atA _ hy)) (by
   have:([x].filter λp=>decide (p.2.sd.g∈aJ c g)&&p.2.sd.al).length<=1:=atU _ _;rw[auj,atJ]
   omega)
  refine⟨y13,y14,?_⟩;rw[atE,fD (Z1:=[x0,x1,x2,x3,x4,x5,x6,x7,x8,some (.dat (aH (aJ c g))),some (.dat (.list ((bf (bU c 0 g)).map Ear.rD))),some (.dat (.int (roomOf c g))),some (.mut acc),some (.dat (.int (x.1:Int))),some (.dat (dW x.2))]) (by rfl) step,ih,List.append_assoc,<-List.map_append,<-List.filter_append];rfl
end
theorem aiZ(c:aM)(g:Int)(p:Nat×dB)(k:Nat):lk (k+2) (pU c g p)=true:=by
 unfold pU;rw[lk,uM];intro d hd;simp only[atO,auc,or_false]at hd;rcases hd with rfl|rfl|rfl
 .rfl
 .exact Ur _ _
 .cases p.2.sd.due with
  |none=>simp[lk]
  |some _=>exact Ur _ _
theorem ama{α:Type}(f:α->Dat)(l:List α)(h:l≠[])(z:Int):0<l.length/\∃a∈l,atI (l.map f) (z%(l.length:Int))=some (f a):=by
 have h0:0<(l.length:Int):=by have:=List.length_pos_iff.mpr h;omega
 refine⟨by omega,?_⟩;have h1:=Int.emod_nonneg z (b:=(l.length:Int)) (by omega);have h2:=Int.emod_lt_of_pos z h0;obtain⟨j,hj⟩:∃j:Nat,z%(l.length:Int)=j:=⟨(z%(l.length:Int)).toNat,by omega⟩;have hj2:j<l.length:=by omega
 exact⟨l[j],aum hj2,by rw[hj];exact atI_nat (by rw[atR,atz hj2];rfl)⟩
theorem ahC{c0:aM}{head:Int}(h0:0<=c0.count){M:Mo}{L:Lay}{n s:Nat}{c:aM}(hL:L.c=0)(a:At M L c)(I:Inv n s c)(hs:s<=76)(hn:n<=199)(x:Int):wH M [ob 0,.int x,cI c0,.int head]=.ok (.bool true):=by
 have f0:=I.hL;obtain⟨a1,b1,e1,he1,q1⟩:=abO M c0 h0 x head;obtain⟨g,q2⟩:=alR M b1 x 4;obtain⟨m0,hm0,q3⟩:=agl M e1 (dJ he1) x;have l1:=aiY a I (by omega);have hc:=a.hc;rw[hL]at l1 hc;have hd5:∀z,decide (CDiv z 5)=true:=λz=>decide_eq_true ⟨by decide,by decide⟩;have n1:=(eq_nil (c.bs.map dW) (Bh.mpr λd hd=>by
  obtain⟨r,_,rfl⟩:=atM.mp hd;exact ah3 7 r)).2
 have sel:∃e:List Int,e.length<=1000/\∀x4,bF (gH (aW (aA bR (aA jy (ao 1) (qC (.int 5))) (qC (.int 1)))) (aW (aA vX (aA aN (ao 7) (qC (.int 3))) (xg au)))) (aZ (aF 6) (gOf (aA aN (aA aN (aA aN (ao 7) (qC (.int 3))) (aA jy (aA zW (ao 1) (qC (.int 5))) (eE ou (aA aN (ao 7) (qC (.int 3)))))) (qC (.int 3))))) aK M [some (.dat (ob 0)),some (.dat (.int x)),some (.dat (cI c0)),some (.dat (.int head)),x4,some (.dat (.int g)),some (.dat (aH m0)),some (.dat (kY c)),none,none,none,none,none,none,none]=.next [some (.dat (ob 0)),some (.dat (.int x)),some (.dat (cI c0)),some (.dat (.int head)),x4,some (.dat (.int g)),some (.dat (aH e)),some (.dat (kY c)),none,none,none,none,none,none,none] M:=by
  by_cases q4:x%5=1
  .by_cases q5:c.bs=[]
   .rw[q5]at n1;simp at n1;exact⟨m0,hm0,λx4=>by simp[q4,q5,n1]⟩
   .obtain⟨p,b,mb,tb⟩:=ama dW c.bs q5 (x/5);have e0:(c.bs.map dW).isEmpty=false:=by simp[q5]
    rw[e0]at n1;refine⟨b.sd.ear,by rw[dJ (I.ear b mb)];decide,λx4=>?_⟩;have hlm:(c.bs.map dW).length=c.bs.length:=by simp
    have hll:=afh c;generalize c.bs.map dW=B at *;simp[-afh,hll,q4,n1,hlm,p,tb,hd5]
  .exact⟨m0,hm0,λx4=>by simp[q4]⟩
 obtain⟨e,he,sel⟩:=sel;have h2:=U0 M c g;have h3:=Y0 hL a I hs g e he;have h4:=Wb hL a I hs g;have k2:=afF M c;by_cases v:Vg c g;rotate_left
 .rw[decide_eq_false v]at h2;rw[au6 v]at h3 h4;have k1:jx 10 M [.tuple [.str "NoGround",.none],.tuple [.str "NoGround",.none]]=.ok (.bool true):=JV M 9 _ (by simp[lk,xJ])
  generalize cI c0=k at *;simp only[wH,Jh];simp[-Rf.ev_if,q1,q2,q3,hc,aO,jf,l1,sel];simp[h2,h3,h4,k1]
 rw[decide_eq_true v]at h2;rw[au5 v]at h3 h4;have hci:=I.gr.at v;have hcl:(aJ c g).length<=1000:=by have:=I.gr.clen hci;omega
 have r1:=adD v;have r2:=aez M c (by omega) (by omega) (aH (aJ c g)) (aJ c g) (λy=>by have:=af5 false y _ hcl;simpa using this) 0;have es:inR c (aJ c g)++Fw c 0 (aJ c g)=bU c 0 g:=rfl;rw[es]at r2;have r3:=aeh M c I.gr g v;have r4:=abU M e he;have hlT:(bf (bU c 0 g)).length<=1000:=by rw[lX];exact at3 (I.few λr hr=>iw hr) (by omega)
 have r5:=Yp M (roomOf c g) e (bU c 0 g) (qK I.Fe) hlT;have hen:pJ 0 (c.bs.map dW)=(c.bs.mapIdx λi b=>(i,b)).map λx=>.tuple [.int (x.1:Int),dW x.2]:=by unfold pJ;apply at9;intro j;simp only[atR,aup];cases c.bs[j]?<;>simp
 have lp:=λ(x4 x8:Option Cell)=>Yi (M:=M) I hs g v (some (.dat (ob 0))) (some (.dat (.int x))) (some (.dat (cI c0))) (some (.dat (.int head))) x4 (some (.dat (.int g))) (some (.dat (aH e))) (some (.dat (kY c))) x8 (c.bs.mapIdx λi b=>(i,b)) [] none none (λy hy=>by
  obtain⟨i,hi,rfl⟩:=List.mem_mapIdx.mp hy;exact aum hi) (by simp;omega)
 rw[<-hen]at lp;have k3:jx 10 M [.tuple [.str "",.list ((Bt c g).map (pU c g))],.tuple [.str "",.list ((Bt c g).map (pU c g))]]=.ok (.bool true):=JV M 9 _ (by
  simp only[lk,xJ,Bool.true_and,Bool.and_true];rw[uM];intro d hd;obtain⟨p,_,rfl⟩:=atM.mp hd;exact aiZ c g p 5)
 have eg:(c.bs.mapIdx λi b=>(i,b)).filter (λp=>decide (p.2.sd.g∈aJ c g)&&p.2.sd.al)=Bt c g:=rfl;rw[eg]at lp;simp only[List.nil_append]at lp;cases q:cW e with
 |true=>
  rw[q]at r4;rw[au5 q]at h3;have k1:jx 10 M [.tuple [.str "",aH (iQ e (bf (bU c 0 g)) (roomOf c g))],.tuple [.str "",aH (iQ e (bf (bU c 0 g)) (roomOf c g))]]=.ok (.bool true):=JV M 9 _ (by
   simp only[lk,xJ,Bool.true_and,Bool.and_true];exact Ur 7 _)
  obtain⟨y13,y14,lp⟩:=lp (some (.dat (.tuple [.str "enrol",.int a1,.int b1,aH e1]))) (some (.dat (.tuple [.str "",aH (iQ e (bf (bU c 0 g)) (roomOf c g))])))
  generalize (bf (bU c 0 g)).map Ear.rD=T at *;generalize iQ e (bf (bU c 0 g)) (roomOf c g)=O at *;generalize (Bt c g).map (pU c g)=G at *;generalize cI c0=k at *;simp only[wH,Jh];simp[-Rf.ev_if,q1,q2,q3,hc,aO,jf,l1,sel];simp[h2,r1,r2,r3,r4,r5,h3,k1,lp,h4,k3,hc,aO,jf,l1,k2]
 |false=>
  rw[q]at r4;rw[au6 (by rw[q];decide)]at h3;have k1:jx 10 M [.tuple [.str "BadEar",.none],.tuple [.str "BadEar",.none]]=.ok (.bool true):=JV M 9 _ (by simp[lk,xJ])
  obtain⟨y13,y14,lp⟩:=lp (some (.dat (.tuple [.str "enrol",.int a1,.int b1,aH e1]))) (some (.dat (.tuple [.str "BadEar",.none])))
  generalize (bf (bU c 0 g)).map Ear.rD=T at *;generalize (Bt c g).map (pU c g)=G at *;generalize cI c0=k at *;simp only[wH,Jh];simp[-Rf.ev_if,q1,q2,q3,hc,aO,jf,l1,sel];simp[h2,r1,r2,r3,r4,h3,k1,lp,h4,k3,hc,aO,jf,l1,k2]
theorem agR(ns:List Int)(h:ns.length<=63):∃M,TV [] [.list (ns.map PyData.int)]=.ok (.bool true) M:=afk (λh0 _ _ _ _ _ hL a I hs hn x=>ahC h0 hL a I hs hn x) ns h
end Pr
open PySem PySem.W PySem.Calls PyProof.Rows
set_option maxHeartbeats 0 in
theorem PySem.Challenge.cw_earmarks_k48_seen_and_gathered_holds : PySem.Challenge.rw_earmarks_k48_seen_and_gathered.Holds := by
 w_on;o_law
 refine HandSHeadRun.head_any (r:=OpenLaw.row PySem.Challenge.rw_earmarks_k48_seen_and_gathered) (q:=view (OpenLaw.row PySem.Challenge.rw_earmarks_k48_seen_and_gathered).prog [100]) (H:=Pr.hkE) (ob:=Pr.obE) (M:=40000) (loose:=Pr.nm) (d:=HandSHeadRun.topDef (OpenLaw.row PySem.Challenge.rw_earmarks_k48_seen_and_gathered).prog 100) (kwd:=[]) Pr.amR (by kernel_rfl) (λs=>by kernel_rfl) Pr.run (by kernel_rfl) (by kernel_rfl) (by kernel_rfl) (by rfl) (by first | assumption | decide +kernel) (by decide +kernel) ⟨rfl,rfl,rfl,rfl,rfl,by decide +kernel⟩ ?hw ?hc
 case hw=>w_witness2
 case hc=>
  refine L2.walk_ofE (l:=PySem.Challenge.rw_earmarks_k48_seen_and_gathered) (n:=63) (k:=15) (x:="_law_script") (CX:=L2.CX0) rfl (by decide) (by kernel_rfl) ⟨rfl,by decide,by decide⟩ ?F (λ_ _ _ _ z=>z)
  intro w mg fa h Y G hmg0;obtain⟨K,KX,c⟩:=Y;have hmg:mg ("law" : PySem.Str)=some (.ref fa):=by
   have e:(HandSHeadRun.topDef (OpenLaw.row PySem.Challenge.rw_earmarks_k48_seen_and_gathered).prog 100).name=("law" : PySem.Str):=by kernel_rfl
   rw[<-e];exact hmg0
  have T:Pr.Top w K mg:=⟨⟨h,KX,G⟩,c⟩;have e:=hmg.symm.trans (T.glo 116);cases e;obtain⟨fd,F⟩:=T.c.Xw 116;have b:=L2.FunD.bindsA (ps:=["_law_script"]) F λ_ _ _ _ _ _ us hl=>match us,hl with|[_],_=>rfl
  exact⟨K,fd,λvs H Q _=>Rf.Mv K (Pr.ak w K) 1 Pr.TV vs H Q λ_ _ _=>False,KX,λs v=>b s [v] rfl,λH a ns hl _ hS=>(Pr.agR ns hl).elim λ_ z=>Rf.aok rfl hS z,λbase _ _=>Rf.adU (Pr.anM T F)⟩

import PyProof.Rows.All
import HandS.ForMost
import HandS.Evl
import HandS.Walk
import HandS.Zip
import HandS.IsInst
import HandS.Style
import HandS.FStr
import HandS.StrSplit
import HandS.RaiseFrom
import HandS.SuiteRaise
import HandS.Strs
import HandS.TupAny
import HandS.Deep
import HandS.WordsExc
import KE.DataMinMax
import KE.DataFind
import KE.SortData
import HandS.SortKw
import HandS.TupSets
import HandS.SetBool
import HandS.DictComp
import HandS.Conv
import KE.KDictKeyed
import HandS.ExcField
import HandS.ExcInit
import HandS.ExcIs
import HandS.HeadHook4
import HandS.HeadEnd
import HandS.Head2
import HandS.Flow
import KE.GoesEnumKw
import PySem.Challenge.RW_earmarks_k45_deeds_done_by_tuples
set_option Elab.async false
set_option linter.all false
set_option maxRecDepth 100000
set_option maxHeartbeats 2000000
def atV:True:=trivial
abbrev atX:=@False.elim
abbrev atY:=@decide_eq_true_eq
abbrev atZ:=@of_decide_eq_true
def asu:=@Option.bind_eq_some_iff
def asv:=@PySem.W.Frag
def asw:=@Bool.and_eq_true
def asx:=@List.getElem?_eq_some_iff
def asy:=@List.map_cons
def asz:=@List.getElem?_eq_getElem
def asB:=@List.mem_cons_of_mem
def asC:=@List.mem_cons_self
def asF:=@List.mem_singleton
def asH:=@List.mem_of_getElem?
def asI:=@List.getElem?_set_ne
def asJ:=@List.mem_map
def asK:=@List.length_map
def asM:=@List.getElem?_append_left
def asN:=@List.mem_cons
def asO:=@Bool.not_eq_true'
def asQ:=@List.length_cons
def asR:=@List.mem_append
def asS:=@List.getElem?_map
def asT:=@List.getElem?_set_self
def asU:=@List.getElem?_append_right
def asV:=@List.all_eq_true
def asW:=@List.length_filter_le
def asY:=@List.lookup_cons
def asZ:=@Option.some.inj
def as3:=@List.mem_filter
def as4:=@Function.comp_def
def as5:=@List.length_set
def as6:=@Nat.le_refl
def as7:=@Bool.false_eq_true
def as8:=@List.map_append
def as9:=@Nat.le_trans
def ata:=@List.ext_getElem?
def atb:=@List.getElem?_eq_none
def atc:=@List.all_cons
def atd:=@List.map_map
def ate:=@List.not_mem_nil
def atf:=@List.mem_append_left
def atg:=@Nat.ne_of_lt
def ath:=@Array.length_toList
def ati:=@List.length_append
def atj:=@List.zip_cons_cons
def atk:=@Nat.zero_le
def atl:=@Array.getElem?_toList
def atm:=@List.getElem_mem
def atn:=@List.mem_of_mem_take
def ato:=@List.nodup_append
def atp:=@List.append_nil
def atq:=@List.filter_cons
def atr:=@Option.map_eq_some_iff
def atu:=@List.drop_eq_getElem_cons
def atv:=@List.getElem?_zip_eq_some
def atw:=@List.getElem?_mapIdx
def atx:=@List.getElem?_set
def aty:=@List.any_cons
def atz:=@List.drop_length
def atA:=@List.map_nil
def atD:=@List.mem_append_right
def atE:=@Nat.lt_succ_of_lt
def atF:=@Bool.eq_iff_iff
def atG:=@List.foldl_cons
def atH:=@List.filter_filter
def atJ:=@List.any_map
def atL:=@List.length_drop
def atM:=@Nat.add_sub_cancel'
def atN:=@Nat.add_left_cancel
def atO:=@List.nodup_cons
def atQ:=@Bool.or_eq_true
def atR:=@Nat.succ.inj
def atU:=@List.drop_zero
namespace Rf
open PySem PySem.Spec PyProof.Rows L2 HandSHeadRun
def at3:=@wpAny_bind
def at4:=@wpAny_pure
def at5:=@if_pos
def at6:=@if_neg
def at7:=@upd_same
def at8:=@eq_of_beq
abbrev Dat:=PyData
abbrev Ft:=List (Str×List Str)
structure OD(fa:List He.Fa)(fn:List He.DefD)(tb:List He.Tab)(ex:asv->Bool)(w:World)(K:asv):Prop where
 t:He.SaysT fa fn tb w K
 more:ex K=true
def ado(as:List Addr)(fa:List He.Fa)(fn:List He.DefD)(tb:List He.Tab)(ex:asv->Bool)(g:Addr->Option Obj):He.AlX:=(He.obsT fa fn tb (He.frG g as),ex (He.frG g as))
def ac5(as:List Addr)(fa:List He.Fa)(fn:List He.DefD)(tb:List He.Tab)(ex:asv->Bool):PySem.W.Hook where
 α:=He.AlX
 obs:=λs=>ado as fa fn tb ex s.heap.get?
 val:=λw=>He.valX fn tb w
 says:=λw h=>∃K:asv,K.In h/\OD fa fn tb ex w K
 of:=λw s e=>⟨_,He.frG_in,⟨congrArg (λz:He.AlX=>z.1) e,congrArg (λz:He.AlX=>z.2) e⟩⟩
 keeps:=λ_ _ _ ⟨K,hK,c⟩ k=>⟨K,PySem.W.Frag.In.keeps hK k,c⟩
theorem ajj{as:List Addr}{fa:List He.Fa}{fn:List He.DefD}{tb:List He.Tab}{ex:asv->Bool}{g:Addr->Option Obj}{s:Shared}(h:∀a,g a=s.heap.get? a):ado as fa fn tb ex g=(ac5 as fa fn tb ex).obs s:=by rw[show g=s.heap.get? from funext h];rfl
def Nu(K:asv)(ft:Ft):Bool:=ft.all λp=>(He.Fa.cls p.1).ok K&&p.2.all λf=>(He.Fa.noat p.1 f).ok K
def xmB(K:asv)(xm:List (Str×List (Str×Bool))):Bool:=xm.all λp=>p.2.all λq=>(He.Fa.exm q.1 p.1 q.2).ok K
def Yl(K:asv)(a:Addr):Bool:=match K.lookup a with
 |some o=>(match o.cls with
  |.type c=>decide (c="tuple")
  |_=>false)&&o.dict.isNone
 |none=>false
def alB(K:asv)(C:Addr):Bool:=(match K.lookup C with
 |some ⟨.type t,_,.cls cd,sl⟩=>decide (t="type")&&(match cd.mro,sl.toList with
  |.ref C'::bm,[_,_,_,_,some (.builtin n),_]=>decide (C'=C)&&(decide (n="ValueError.__new__")&&(!cd.hasDel&&(cd.hasDict&&PySem.HandSPX.refsVE bm)))
  |_,_=>false)
 |_=>false)&&(He.eqO (PySem.W.findIn K (.ref C) "__setattr__") (some (some (.builtin "object.__setattr__")))&&(decide (PySem.W.subIn K (.ref C) (.type "BaseException")=some true)&&(decide (PySem.W.typeIn K (.ref C)=some (.type "type"))&&PySem.W.keepIn K (.ref C))))
def Uo(K:asv)(x:Str)(fs:List Str):Bool:=alB K (He.ga K x)&&(He.eqO (PySem.W.findIn K (.ref (He.ga K x)) "__init__") (some (some (.ref (He.ma K (He.ga K x) "__init__"))))&&(decide (PySem.W.typeIn K (.ref (He.ma K (He.ga K x) "__init__"))=some (.type "function"))&&(xfB K (He.ga K x)&&fs.all λf=>He.eqO (PySem.W.findIn K (.ref (He.ga K x)) f) (some none))))
def Ye(K:asv)(a:Addr)(xs:List Str):Bool:=match K.lookup a with
 |some ⟨.type c,_,.seq its _,_⟩=>decide (c="tuple")&&(decide (its.size<=sizeLine)&&He.relAll (xs.map V.str) its.toList)
 |_=>false
def ahh(K:asv)(x:Str)(kvs:List (Str×List Str)):Bool:=(match K.lookup (He.ga K x) with
 |some ⟨_,_,.dict es _,_⟩=>es.toList.all (λe=>(match e.key with
   |.str y _=>(kvs.map (·.1)).contains y
   |_=>false)&&!e.refKey)
 |_=>false)&&(decide ((kvs.map (·.1)).Nodup)&&kvs.all λq=>match PySem.W.nsIn K (He.ga K x) q.1 with
  |some (some (.ref a))=>Ye K a q.2
  |_=>false)
section
open PySem.W PySem.Calls
noncomputable abbrev alN (r:PySem.W.OpenRow) (M:Nat) (w:World) (os:PySem.OsState):Option PySem.W.SharedT:=endF (stepQ (denQ tabQ) r.prog w) M r.prog w os
def agY(r:PySem.W.OpenRow)(q:Program)(as:List Addr)(ex:asv->Bool)(M:Nat)(loose:List Str)(w:World):Prop:=∀os,(alN r M w os).map (λs=>(looksF r.prog (boot_heap w.params) s.abs,HandSHeadRun.seenQ q loose (importedModules r.prog.main.body) (λs=>PySem.W.xlAt q [] s&&PySem.W.recOk r.toRowW.records s) s.abs,ex (He.frG (getT s) as)))=some (true,PySem.W.openGood q loose,true)
def ahb(r:PySem.W.OpenRow)(as:List Addr)(fa:List He.Fa)(fn:List He.DefD)(tb:List He.Tab)(M:Nat)(w:World):Prop:=∀os,(alN r M w os).map (λs=>He.obsT fa fn tb (He.frG (getT s) as))=some (He.valT fn tb w)
theorem WR{r:PySem.W.OpenRow}{q:Program}{as:List Addr}{fa:List He.Fa}{fn:List He.DefD}{i:List He.Tab}{e:asv->Bool}{M:Nat}{b:List Str}{w:World}(a:agY r q as e M b w)(c:ahb r as [] fn i M w)(z:ahb r as fa [] [] M w):RunEq r q (ac5 as fa fn i e) (λs=>ado as fa fn i e (getT s)) M b w:=λos=>by
 obtain⟨s,j,f⟩:=Option.map_eq_some_iff.mp (a os);obtain⟨f,g⟩:=Prod.mk.inj f;obtain⟨g,k⟩:=Prod.mk.inj g;have d:=c os;have l:=z os;have h:endF (stepQ (denQ tabQ) r.prog w) M r.prog w os=some s:=j;rw[j,Option.map_some]at d l;have l:=(He.ba (Prod.mk.inj (Prod.mk.inj (Option.some.inj l)).1).1).1
 have o:He.obsT fa fn i (He.frG (getT s) as)=He.valT fn i w:=by
  show ((fa.all (λf=>f.ok _)&&_,_),_)=_
  rw[l];exact Option.some.inj d
 rw[h,Option.map_some];exact congrArg some (Prod.ext f (Prod.ext g (Prod.ext o k)))
end
end Rf
namespace Pr
open PySem PySem.Spec PyProof.Rows L2 Evl Rf
def cX:Dat:=.int 9
def jE:Dat:=.int 1
def mD:Dat:=.int 3
def iI:Dat:=.int 9
def eE:Dat:=.tuple [.str "lt",.str "lf",.str "lh",.str "rt",.str "rf",.str "rh"]
def jX:Dat:=.tuple [.int 0,.int 0,.int 0,.int 0,.int 0,.int 0]
def dR:Dat:=.int 999999999
def uQ:List (Str×List Str):=[("owner",[]),("ground",["number"]),("enrol",["number","number","ear"]),("leave",["number","number"]),("bring",["number","number","ear"]),("bear",["number"]),("cut",["number"]),("tear",["number","place"]),("sell",["number","number"]),("move",["number","number"]),("die",["number"]),("unite",["number","number"]),("part",["number"]),("pass",["number","number"]),("heir",["number","number","number"])]
def lF:Ft:=[("Beast",["story","mother","owner","ground","due","ear","alive"]),("Herd",["beasts"]),("Grounds",["allowances","circles"]),("Rights",["held"]),("Commons",["owner_count","holders","grounds","rights","herd"])]
def kcH:List Str:=["BadEar","Bare","BadAllowance","BadExtra","NoPlace","Deepest","NoOwner","NoGround","NoBeast","NoRight","HasRight","StillThere","Dead","Unmarked","SameOwner","SameGround","Together","Alone","NoneFree","BadDeed","BadLine","NoStand","Clash"]
def ktH:List Str:=["NoGround","NoOwner","NoRight","HasRight","NoneFree","BadExtra","BadAllowance","Clash","BadEar","Bare","StillThere","NoBeast","Dead","Unmarked","Deepest","NoPlace","SameOwner","SameGround","Together","Alone","BadDeed","BadLine","NoStand"]
def Ku:List (Str×Bool):=[("NoGround",false),("NoOwner",false),("NoRight",false),("HasRight",false),("NoneFree",false),("BadExtra",false),("BadAllowance",false),("Clash",false),("BadEar",false),("Bare",false),("StillThere",false),("NoBeast",false),("Dead",false),("Unmarked",false),("Deepest",false),("NoPlace",false),("SameOwner",false),("SameGround",false),("Together",false),("Alone",false),("BadDeed",true),("BadLine",false),("NoStand",false)]
def jJ:List (Str×Bool):=[("NoGround",true),("NoOwner",true),("NoRight",true),("HasRight",true),("NoneFree",true),("BadExtra",true),("BadAllowance",true),("Clash",true),("BadEar",true),("Bare",true),("StillThere",true),("NoBeast",true),("Dead",true),("Unmarked",true),("Deepest",true),("NoPlace",true),("SameOwner",true),("SameGround",true),("Together",true),("Alone",true),("BadDeed",true),("BadLine",true),("NoStand",true)]
def xmH:List (Str×List (Str×Bool)):=[("BadDeed",Ku),("CommonError",jJ)]
def dfH:List (Str×Bool):=[("held",true),("holders",false)]
def Xh:List (Str×List Str):=[("Clash",["ones","others","ear"])]
def aZ(i:Nat):Stmt:=PySem.Challenge.pw_earmarks_k45_deeds_done_by_tuples.main.body.getD i (.Pass ⟨0,0,0,0⟩)
abbrev Io:Stmt:=inClass (aZ 52) 0
abbrev KC:Stmt:=inClass (aZ 57) 0
abbrev PL:Stmt:=inClass (aZ 37) 0
abbrev Ij:Stmt:=inClass (aZ 68) 0
abbrev KZ:Stmt:=inClass (aZ 36) 2
abbrev Mq:Stmt:=inClass (aZ 36) 4
abbrev Du:Stmt:=inClass (aZ 68) 17
abbrev Cj:Stmt:=inClass (aZ 57) 1
abbrev Hv:Stmt:=inClass (aZ 52) 3
abbrev KD:Stmt:=inClass (aZ 52) 2
abbrev Iv:Stmt:=inClass (aZ 52) 4
abbrev yW:Stmt:=inClass (aZ 52) 5
abbrev Am:Stmt:=inClass (aZ 52) 6
abbrev Bm:Stmt:=inClass (aZ 68) 19
abbrev Ie:Stmt:=inClass (aZ 68) 32
abbrev s_row:Stmt:=aZ 73
abbrev Zx:Stmt:=aZ 74
abbrev ahG:Stmt:=aZ 75
abbrev PB:Stmt:=aZ 76
abbrev Wk:Stmt:=aZ 77
abbrev aeK:Stmt:=aZ 78
abbrev Wt:Stmt:=aZ 79
abbrev ahv:Stmt:=aZ 80
abbrev aeG:Stmt:=aZ 81
abbrev afn:Stmt:=aZ 82
abbrev adZ:Stmt:=aZ 72
abbrev abe:Stmt:=aZ 85
abbrev adA:Stmt:=aZ 88
abbrev ahm:Stmt:=aZ 86
abbrev YQ:Stmt:=aZ 87
abbrev Kz:Stmt:=aZ 89
abbrev abu:Stmt:=aZ 83
abbrev Uc:Stmt:=aZ 84
abbrev S9:Stmt:=aZ 90
abbrev abJ:Stmt:=aZ 91
abbrev yD:Stmt:=inClass (aZ 68) 33
abbrev HD:Stmt:=inClass (aZ 57) 3
abbrev Av:Stmt:=inClass (aZ 57) 4
abbrev yt:Stmt:=inClass (aZ 68) 34
abbrev za:Stmt:=inClass (aZ 68) 1
abbrev Ba:Stmt:=inClass (aZ 57) 2
abbrev adW:Stmt:=aZ 49
abbrev abw:Stmt:=aZ 46
abbrev Pu:Stmt:=aZ 54
abbrev ab1:Stmt:=aZ 47
abbrev afs:Stmt:=aZ 48
abbrev Nk:Stmt:=aZ 55
abbrev yS:Stmt:=inClass (aZ 68) 35
abbrev YJ:Stmt:=aZ 59
abbrev Cu:Stmt:=inClass (aZ 37) 5
abbrev Hr:Stmt:=inClass (aZ 37) 6
abbrev yV:Stmt:=inClass (aZ 57) 7
abbrev wj:Stmt:=inClass (aZ 68) 22
abbrev Bf:Stmt:=inClass (aZ 68) 21
abbrev Hu:Stmt:=inClass (aZ 52) 7
abbrev HJ:Stmt:=inClass (aZ 68) 18
abbrev Bu:Stmt:=inClass (aZ 68) 15
abbrev yO:Stmt:=inClass (aZ 52) 1
abbrev yj:Stmt:=inClass (aZ 68) 2
abbrev Wv:Stmt:=aZ 60
abbrev abg:Stmt:=aZ 45
abbrev R5:Stmt:=aZ 61
abbrev yx:Stmt:=inClass (aZ 68) 36
abbrev Yu:Stmt:=aZ 30
abbrev Ro:Stmt:=aZ 67
abbrev Fj:Stmt:=inClass (aZ 68) 3
abbrev K7:Stmt:=inClass (aZ 57) 5
abbrev FT:Stmt:=inClass (aZ 68) 4
abbrev Dy:Stmt:=inClass (aZ 36) 1
abbrev abz:Stmt:=aZ 32
abbrev Lj:Stmt:=inClass (aZ 36) 0
abbrev Eu:Stmt:=inClass (aZ 37) 1
abbrev Gx:Stmt:=inClass (aZ 68) 5
abbrev N8:Stmt:=inClass (aZ 37) 2
abbrev KJ:Stmt:=inClass (aZ 37) 3
abbrev KR:Stmt:=inClass (aZ 37) 4
abbrev HX:Stmt:=inClass (aZ 68) 6
abbrev Tw:Stmt:=aZ 34
abbrev Xg:Stmt:=aZ 33
abbrev HS:Stmt:=inClass (aZ 36) 3
abbrev Kv:Stmt:=inClass (aZ 68) 7
abbrev Iz:Stmt:=inClass (aZ 68) 8
abbrev Kw:Stmt:=inClass (aZ 37) 8
abbrev Bl:Stmt:=inClass (aZ 37) 9
abbrev Jc:Stmt:=inClass (aZ 68) 9
abbrev Iw:Stmt:=inClass (aZ 68) 10
abbrev KY:Stmt:=inClass (aZ 68) 11
abbrev RP:Stmt:=aZ 62
abbrev Bq:Stmt:=inClass (aZ 68) 24
abbrev Cp:Stmt:=inClass (aZ 52) 10
abbrev Gz:Stmt:=inClass (aZ 52) 8
abbrev Fl:Stmt:=inClass (aZ 68) 12
abbrev IK:Stmt:=inClass (aZ 52) 9
abbrev Jg:Stmt:=inClass (aZ 68) 13
abbrev Ax:Stmt:=inClass (aZ 57) 6
abbrev MP:Stmt:=inClass (aZ 37) 7
abbrev Ck:Stmt:=inClass (aZ 68) 14
abbrev Pn:Stmt:=aZ 42
abbrev adP:Stmt:=aZ 41
abbrev LC:Stmt:=inClass (aZ 68) 16
abbrev ahy:Stmt:=aZ 94
abbrev Lk:Stmt:=aZ 70
abbrev Sy:Stmt:=aZ 92
abbrev abC:Stmt:=aZ 71
abbrev Xi:Stmt:=aZ 93
abbrev Om:Stmt:=aZ 95
abbrev MN:Stmt:=inClass (aZ 25) 0
abbrev dM(c m q:Str)(s:Stmt):He.DefD:=⟨(c,some m),m,q,defArgs s,defBody s,defScope s,[],[]⟩
abbrev dF(x:Str)(s:Stmt):He.DefD:=⟨(x,none),x,x,defArgs s,defBody s,defScope s,[],[]⟩
def Yy:List Str:=["Grounds","Rights","Herd","Commons","Beast","NoGround","NoOwner","NoRight","HasRight","NoneFree","BadExtra","BadAllowance","Clash","BadEar","Bare","StillThere","NoBeast","Dead","Unmarked","Deepest","NoPlace","SameOwner","SameGround","Together","Alone","BadDeed","BadLine","NoStand","CommonError"]
def tbs:List He.Tab:=[(λK=>He.ga K "SHAPES",["owner","ground","enrol","leave","bring","bear","cut","tear","sell","move","die","unite","part","pass","heir"])]
def nm0:List PySem.Str:=["_wall","CommonError","BadEar","Bare","BadAllowance","BadExtra","NoPlace","Deepest","NoOwner","NoGround","NoBeast","NoRight"]
def nm1:List PySem.Str:=["HasRight","StillThere","Dead","Unmarked","SameOwner","SameGround","Together","Alone","NoneFree","BadDeed","BadLine","NoStand"]
def nm2:List PySem.Str:=["Clash","PLACES","GREATEST_DEPTH","BARE_EAR","is_ear","begun","gone_on","deepened","Beast","Herd","SHAPES","GREATEST_PART"]
def nm3:List PySem.Str:=["fits","part_fits","deeper","joint","lacks","apart","meet","torn","GREATEST_ALLOWANCE","Grounds","offspring","first_free"]
def nm4:List PySem.Str:=["Rights","tidied","barring","ask_room","clashing","owners_of","FEWEST_EXTRA","MOST_EXTRA","need_ear","Commons","_law_kind_of","_law_named"]
def nm5:List PySem.Str:=["_law_cell","_law_row","_law_ear_by","_law_ear","_law_begun","_law_word_by","_law_near","_law_mark_by","_law_ref","_law_deed","_law_plan","_law_whole"]
def nm6:List PySem.Str:=["_law_like","_law_tuple","_law_cut","_law_spoilt","_law_word","_law_spoilt_deed","_law_ear_kind","_law_fault","_law_by_tuple","_law_by_name","_law_bad"]
def nm:List PySem.Str:=nm0++nm1++nm2++nm3++nm4++nm5++nm6
def fa0:List He.Fa:=[.mkr "Grounds",.mkr "Rights",.mkr "Herd",.mkr "Commons",.meth "Beast" "stand",.meth "Beast" "told",.meth "Commons" "owners",.meth "Rights" "all_rows",.meth "Grounds" "many",.meth "Grounds" "has",.meth "Grounds" "need",.meth "Grounds" "allowance"]
def fa1:List He.Fa:=[.meth "Grounds" "together",.meth "Commons" "together",.meth "Commons" "look",.glo "_law_row",.glo "_law_ear_by",.glo "_law_ear",.glo "_law_begun",.glo "_law_word_by",.glo "_law_near",.glo "_law_mark_by",.glo "_law_ref",.glo "_law_deed"]
def fa2:List He.Fa:=[.glo "_law_plan",.glo "_law_cell",.glo "_law_tuple",.glo "_law_word",.glo "_law_cut",.glo "_law_spoilt",.glo "_law_spoilt_deed",.glo "_law_whole",.glo "_law_like",.glo "_law_ear_kind",.glo "_law_fault",.meth "Commons" "need_owner"]
def fa3:List He.Fa:=[.meth "Rights" "marks",.meth "Rights" "has_right",.meth "Commons" "need_right",.meth "Commons" "new_owner",.meth "Rights" "add_right",.glo "torn",.glo "lacks",.glo "offspring",.glo "apart",.glo "meet",.glo "first_free",.meth "Commons" "first_mark"]
def fa4:List He.Fa:=[.glo "tidied",.meth "Herd" "all_living",.meth "Herd" "grazing",.meth "Rights" "in_grounds",.meth "Commons" "standing_but",.meth "Commons" "standing",.meth "Grounds" "room",.meth "Commons" "room",.meth "Commons" "new_heir",.meth "Grounds" "add_ground",.meth "Commons" "new_ground",.glo "barring"]
def fa5:List He.Fa:=[.glo "joint",.glo "ask_room",.meth "Commons" "ask_ground",.glo "is_ear",.glo "need_ear",.meth "Commons" "enrol",.meth "Rights" "drop",.meth "Commons" "leave",.meth "Beast" "stand_so",.glo "begun",.mkr "Beast",.meth "Herd" "add_beast"]
def fa6:List He.Fa:=[.meth "Commons" "bring",.meth "Herd" "known",.meth "Herd" "living",.meth "Herd" "marked",.meth "Commons" "bear",.glo "deepened",.glo "gone_on",.meth "Beast" "befall",.meth "Commons" "cut",.meth "Commons" "tear",.meth "Herd" "calves",.meth "Herd" "lead_calves"]
def fa7:List He.Fa:=[.meth "Commons" "sell",.meth "Commons" "move",.meth "Commons" "die",.glo "clashing",.meth "Commons" "quarrels",.meth "Grounds" "enclose",.meth "Grounds" "unite",.meth "Commons" "unite",.meth "Grounds" "part",.meth "Commons" "part",.meth "Rights" "hand_over",.meth "Herd" "owned"]
def fa8:List He.Fa:=[.meth "Commons" "pass_on",.glo "part_fits",.glo "fits",.meth "Commons" "do",.glo "_law_bad",.glo "_law_kind_of",.glo "_law_by_tuple",.glo "_law_named",.glo "_law_by_name",.glo "law",.glo "Grounds",.glo "Rights"]
def fa9:List He.Fa:=[.glo "Herd",.glo "Commons",.glo "Beast",.glo "NoGround",.exc "NoGround",.glo "NoOwner",.exc "NoOwner",.glo "NoRight",.exc "NoRight",.glo "HasRight",.exc "HasRight",.glo "NoneFree"]
def aoR:List He.Fa:=[.exc "NoneFree",.glo "BadExtra",.exc "BadExtra",.glo "BadAllowance",.exc "BadAllowance",.glo "Clash",.glo "BadEar",.exc "BadEar",.glo "Bare",.exc "Bare",.glo "StillThere",.exc "StillThere"]
def aoD:List He.Fa:=[.glo "NoBeast",.exc "NoBeast",.glo "Dead",.exc "Dead",.glo "Unmarked",.exc "Unmarked",.glo "Deepest",.exc "Deepest",.glo "NoPlace",.exc "NoPlace",.glo "SameOwner",.exc "SameOwner"]
def aoN:List He.Fa:=[.glo "SameGround",.exc "SameGround",.glo "Together",.exc "Together",.glo "Alone",.exc "Alone",.glo "BadDeed",.exc "BadDeed",.glo "BadLine",.exc "BadLine",.glo "NoStand",.exc "NoStand"]
def aog:List He.Fa:=[.glo "CommonError",.exc "CommonError",.glo "SHAPES",.int "GREATEST_DEPTH" 9,.int "FEWEST_EXTRA" 1,.int "MOST_EXTRA" 3,.int "GREATEST_ALLOWANCE" 9,.glo "PLACES",.glo "BARE_EAR",.int "GREATEST_PART" 999999999,.free "tuple",.free "list"]
def aoC:List He.Fa:=[.free "len",.free "range",.free "abs",.free "max",.free "zip",.free "min",.free "int",.free "enumerate",.free "isinstance",.free "bool",.free "str",.free "sum"]
def an4:List He.Fa:=[.free "any",.free "sorted",.free "set",.free "all"]
def fa:List He.Fa:=fa0++fa1++fa2++fa3++fa4++fa5++fa6++fa7++fa8++fa9++aoR++aoD++aoN++aog++aoC++an4
def fn0:List He.DefD:=[dM "Grounds" "__init__" "Grounds.__init__" Io,dM "Rights" "__init__" "Rights.__init__" KC,dM "Herd" "__init__" "Herd.__init__" PL,dM "Commons" "__init__" "Commons.__init__" Ij,dM "Beast" "stand" "Beast.stand" KZ,dM "Beast" "told" "Beast.told" Mq,dM "Commons" "owners" "Commons.owners" Du,dM "Rights" "all_rows" "Rights.all_rows" Cj,dM "Grounds" "many" "Grounds.many" Hv,dM "Grounds" "has" "Grounds.has" KD,dM "Grounds" "need" "Grounds.need" Iv,dM "Grounds" "allowance" "Grounds.allowance" yW]
def fn1:List He.DefD:=[dM "Grounds" "together" "Grounds.together" Am,dM "Commons" "together" "Commons.together" Bm,dM "Commons" "look" "Commons.look" Ie,dF "_law_row" s_row,dF "_law_ear_by" Zx,dF "_law_ear" ahG,dF "_law_begun" PB,dF "_law_word_by" Wk,dF "_law_near" aeK,dF "_law_mark_by" Wt,dF "_law_ref" ahv,dF "_law_deed" aeG]
def fn2:List He.DefD:=[dF "_law_plan" afn,dF "_law_cell" adZ,dF "_law_tuple" abe,dF "_law_word" adA,dF "_law_cut" ahm,dF "_law_spoilt" YQ,dF "_law_spoilt_deed" Kz,dF "_law_whole" abu,dF "_law_like" Uc,dF "_law_ear_kind" S9,dF "_law_fault" abJ,dM "Commons" "need_owner" "Commons.need_owner" yD]
def fn3:List He.DefD:=[dM "Rights" "marks" "Rights.marks" HD,dM "Rights" "has_right" "Rights.has_right" Av,dM "Commons" "need_right" "Commons.need_right" yt,dM "Commons" "new_owner" "Commons.new_owner" za,dM "Rights" "add_right" "Rights.add_right" Ba,dF "torn" adW,dF "lacks" abw,dF "offspring" Pu,dF "apart" ab1,dF "meet" afs,dF "first_free" Nk,dM "Commons" "first_mark" "Commons.first_mark" yS]
def fn4:List He.DefD:=[dF "tidied" YJ,dM "Herd" "all_living" "Herd.all_living" Cu,dM "Herd" "grazing" "Herd.grazing" Hr,dM "Rights" "in_grounds" "Rights.in_grounds" yV,dM "Commons" "standing_but" "Commons.standing_but" wj,dM "Commons" "standing" "Commons.standing" Bf,dM "Grounds" "room" "Grounds.room" Hu,dM "Commons" "room" "Commons.room" HJ,dM "Commons" "new_heir" "Commons.new_heir" Bu,dM "Grounds" "add_ground" "Grounds.add_ground" yO,dM "Commons" "new_ground" "Commons.new_ground" yj,dF "barring" Wv]
def fn5:List He.DefD:=[dF "joint" abg,dF "ask_room" R5,dM "Commons" "ask_ground" "Commons.ask_ground" yx,dF "is_ear" Yu,dF "need_ear" Ro,dM "Commons" "enrol" "Commons.enrol" Fj,dM "Rights" "drop" "Rights.drop" K7,dM "Commons" "leave" "Commons.leave" FT,dM "Beast" "stand_so" "Beast.stand_so" Dy,dF "begun" abz,dM "Beast" "__init__" "Beast.__init__" Lj,dM "Herd" "add_beast" "Herd.add_beast" Eu]
def fn6:List He.DefD:=[dM "Commons" "bring" "Commons.bring" Gx,dM "Herd" "known" "Herd.known" N8,dM "Herd" "living" "Herd.living" KJ,dM "Herd" "marked" "Herd.marked" KR,dM "Commons" "bear" "Commons.bear" HX,dF "deepened" Tw,dF "gone_on" Xg,dM "Beast" "befall" "Beast.befall" HS,dM "Commons" "cut" "Commons.cut" Kv,dM "Commons" "tear" "Commons.tear" Iz,dM "Herd" "calves" "Herd.calves" Kw,dM "Herd" "lead_calves" "Herd.lead_calves" Bl]
def fn7:List He.DefD:=[dM "Commons" "sell" "Commons.sell" Jc,dM "Commons" "move" "Commons.move" Iw,dM "Commons" "die" "Commons.die" KY,dF "clashing" RP,dM "Commons" "quarrels" "Commons.quarrels" Bq,dM "Grounds" "enclose" "Grounds.enclose" Cp,dM "Grounds" "unite" "Grounds.unite" Gz,dM "Commons" "unite" "Commons.unite" Fl,dM "Grounds" "part" "Grounds.part" IK,dM "Commons" "part" "Commons.part" Jg,dM "Rights" "hand_over" "Rights.hand_over" Ax,dM "Herd" "owned" "Herd.owned" MP]
def fn8:List He.DefD:=[dM "Commons" "pass_on" "Commons.pass_on" Ck,dF "part_fits" Pn,dF "fits" adP,dM "Commons" "do" "Commons.do" LC,dF "_law_bad" ahy,dF "_law_kind_of" Lk,dF "_law_by_tuple" Sy,dF "_law_named" abC,dF "_law_by_name" Xi,dF "law" Om,dM "Clash" "__init__" "Clash.__init__" MN]
def fn:List He.DefD:=fn0++fn1++fn2++fn3++fn4++fn5++fn6++fn7++fn8
def aoi(K:asv)(xs kc kt:List PySem.Str):Bool:=kt.all λn=>xs.contains n&&(decide (PySem.W.findIn K (.ref (He.ga K n)) "__getattribute__"=some (some (.builtin "BaseException.__getattribute__")))&&(decide (PySem.W.findIn K (.ref (He.ga K n)) "__getattr__"=some none)&&(decide (PySem.W.subIn K (.ref (He.ga K n)) (.type "BaseException")=some true)&&(PySem.W.hasDictIn K (He.ga K n)&&(decide (PySem.W.findIn K (.ref (He.ga K n)) "__class__"=some (some (.builtin "object.__class__")))&&(decide (PySem.W.specialIn K (.builtin "object.__class__") "__get__"=some (some (.builtin "getset_descriptor.__get__")))&&(decide (PySem.W.takesIn K (.builtin "object.__class__")=some true)&&(decide (PySem.W.mroIn K (He.ga K n) (.type "object")=some true)&&kc.all λc=>decide (PySem.W.kitOne K (.ref (He.ga K n)) (.ref (He.ga K c))=some (n==c))))))))))
def exB(K:asv):Bool:=true&&Nu K lF&&xmB K xmH&&(Xh.all λp=>Yy.contains p.1&&Uo K p.1 p.2)&&aoi K Yy kcH ktH&&ahh K "SHAPES" uQ&&He.tupB K "PLACES" [.str "lt",.str "lf",.str "lh",.str "rt",.str "rf",.str "rh"]&&Yl K (He.ga K "PLACES")&&He.tupB K "BARE_EAR" [.int 0,.int 0,.int 0,.int 0,.int 0,.int 0]&&Yl K (He.ga K "BARE_EAR")
def ad0:List Addr:=[3,31,44,56,68,80,92,104,116,128,140,152,164,176,188,200,212,224,236,248,260,272,284,296]
def ad1:List Addr:=[315,318,319,324,331,338,343,388,471,476,496,503,508,513,518,525,532,537,620,629,634,694,705,710]
def ad2:List Addr:=[717,722,727,734,993,1004,1011,1018,1025,1030,1037,1044,1051,1058,1065,1072,1079,1086,1093,1100,1107,1114,1121,1126]
def ad3:List Addr:=[1133,1140,1147,1154,1161,1168,1175,30,43,55,67,79,91,103,115,127,139,151,163,175,187,199,211,223]
def ad4:List Addr:=[235,247,259,271,283,295,314,323,330,337,342,387,470,477,478,479,480,481,482,483,484,485,486,487]
def ad5:List Addr:=[488,489,490,491,495,502,507,512,517,524,531,536,619,628,633,693,704,709,716,721,726,733,992,1003]
def ad6:List Addr:=[1010,1017,1024,1029,1036,1043,1050,1057,1064,1071,1078,1085,1092,1099,1106,1113,1120,1125,1132,1139,1146,1153,1160,1167]
def ad7:List Addr:=[1174,29,32,42,54,66,78,90,102,114,126,138,150,162,174,186,198,210,222,234,246,258,270,282]
def ad8:List Addr:=[294,312,313,357,364,371,378,385,386,389,390,406,413,420,427,434,439,444,449,454,461,468,469,472]
def ad9:List Addr:=[473,551,558,565,572,579,586,593,598,605,610,617,618,621,622,648,655,662,667,674,681,686,691,692]
def aoE:List Addr:=[695,696,748,755,762,769,774,781,788,795,802,809,816,823,830,837,842,849,856,863,870,877,884,891]
def aoP:List Addr:=[896,903,910,917,924,931,938,943,950,957,962,969,976,983,990,991,994,995,311,356,363,370,377,384]
def aok:List Addr:=[405,412,419,426,433,438,443,448,453,460,467,550,557,564,571,578,585,592,597,604,609,616,647,654]
def aon:List Addr:=[661,666,673,680,685,690,747,754,761,768,773,780,787,794,801,808,815,822,829,836,841,848,855,862]
def aol:List Addr:=[869,876,883,890,895,902,909,916,923,930,937,942,949,956,961,968,975,982,989]
def ad:List Addr:=ad0++ad1++ad2++ad3++ad4++ad5++ad6++ad7++ad8++ad9++aoE++aoP++aok++aon++aol
abbrev R:PySem.W.OpenRow:=PySem.W.OpenLaw.row PySem.Challenge.rw_earmarks_k45_deeds_done_by_tuples
abbrev hkE:PySem.W.Hook:=ac5 ad fa fn tbs exB
def obE(s:PySem.W.SharedT):He.AlX:=ado ad fa fn tbs exB (HandSHeadRun.getT s)
theorem akE(s:PySem.W.SharedT):obE s=hkE.obs s.abs:=ajj (HandSHeadRun.getT_eq s)
abbrev wR(w:World)(b:Bool):World:=w.withFollow "special-get-raises" b
theorem anm(w:World):agY R (PySem.W.view R.prog [95]) ad exB 40000 nm (wR w false):=λos=>by kernel_rfl
theorem amD(w:World):ahb R ad [] fn tbs 40000 (wR w false):=λos=>by kernel_rfl
theorem zzf(w:World):ahb R ad fa [] [] 40000 (wR w false):=λos=>by kernel_rfl
theorem runAt(w:World):agY R (PySem.W.view R.prog [95]) ad exB 40000 nm (wR w true):=λos=>by kernel_rfl
theorem am7(w:World):ahb R ad [] fn tbs 40000 (wR w true):=λos=>by kernel_rfl
theorem zzt(w:World):ahb R ad fa [] [] 40000 (wR w true):=λos=>by kernel_rfl
theorem run(w:World):HandSHeadRun.RunEq R (PySem.W.view R.prog [95]) hkE obE 40000 nm w:=PySem.W.byRow2 "special-get-raises" (P:=λw=>HandSHeadRun.RunEq R (PySem.W.view R.prog [95]) hkE obE 40000 nm w) (λw=>WR (anm w) (amD w) (zzf w)) (λw=>WR (runAt w) (am7 w) (zzt w)) w
end Pr
namespace Ear
open PySem PySem.Spec PyProof.Rows L2 Evl RZ
section
variable{X:Cx}{C:Addr}{bmB:List Value}{B newId initId:String}
theorem af8{x:Str}{p pos:Pos}(F:ExcBaseFacts B newId initId bmB)(q:PySem.W.excIn X.K C bmB newId=true)(gC:X.mg x=some (.ref C))(kC:PySem.W.keepIn X.K (.ref C)=true)(r:Raises X (.ref C))(hg:Gl X x)
  (hn:(x==("__debug__" : Str))=false:=by decide):PMk X (.Call (.Name x p) [] [] pos) (λ_ H Q=>Q (.ref C) none H):=by
 intro pins s σ H Q I h;refine wpAny_Call_Name_kw (ld_glob I hg gC ?_ hn);refine PySem.W.callWith_K0 I.kIn kC ?_;show wpAny _ _ (call (.ref C) []) _ _ _;obtain⟨bm,N,nm,qn,bs,hdct,sn,sub,ab,col,dd,k0,k1,k2,k3,k5,mN,hC,hN,hni,T⟩:=exc_obj I.kIn q;refine wpAny_call_exc_subT F T hC hN hni (λh' e hm=>?_) (atk _);exact mk_of I hm r h (I.hok.gone hm.new)
end
theorem exm_one{K:asv}{S:Addr}(h1:PySem.W.subIn K (.ref S) (.type "BaseException")=some true)(h2:PySem.W.isClsIn K S=true)(h3:PySem.W.typeIn K (.ref S)=some (.type "type"))(h4:PySem.W.subIn K (.ref S) (.ref S)=some true) :
  PySem.W.exmOne K (.ref S) (.ref S)=some true:=by
 have e1:(PySem.W.subIn K (.ref S) (.type "BaseException")==some true)=true:=by rw[h1]<;>rfl
 have e2:((PySem.W.clsIn K S).isSome&&PySem.W.typeIn K (.ref S)==some (.type "type"))=true:=by rw[h3,asw];exact⟨h2,rfl⟩
 show(if (PySem.W.subIn K (.ref S) (.type "BaseException")==some true)=true then(if ((PySem.W.clsIn K S).isSome&&PySem.W.typeIn K (.ref S)==some (.type "type"))=true then PySem.W.subIn K (.ref S) (.ref S) else none) else none)=some true
 rw[if_pos e1,if_pos e2];exact h4
def aot(xs:List Int):Prop:=xs.length=6/\∀x∈xs,0<=x/\x<=9
section
variable{K:asv}{σ:L2.St}{H:Hp}{te tl:TE}{tt:TT}{vs:List Nat}
def EvS(te:TE)(σ:L2.St)(H:Hp)(P:V->Hp->Prop):Prop:=∀H1,Ex H H1->∀Q:VK,(∀v H2,Ex H1 H2->P v H2->Q v H2)->te σ H1 Q
end
section
variable{K:asv}{σ:L2.St}{H H':Hp}{te ta tb:TE}{t:TT}{P R:V->Hp->Prop}{v:V}
theorem EvS.mono(e:Ex H H')(h:EvS te σ H P):EvS te σ H' P:=λH1 a Q q=>h H1 (e.trans a) Q q
theorem EvS.imp(h:EvS te σ H P)(k:∀v H',P v H'->R v H'):EvS te σ H R:=λH1 e Q q=>h H1 e Q λv H2 e2 p=>q v H2 e2 (k v H2 p)
end
end Ear
namespace Ear
open PySem PySem.Spec PyProof.Rows L2 Evl RZ
def fY{α:Type}(R:V->α->Prop)(ws:List V)(L:List α):Prop:=ws.length=L.length/\∀(i:Nat) (v:V) (x:α),ws[i]?=some v->L[i]?=some x->R v x
theorem fY.imp{α:Type}{R S:V->α->Prop}{ws:List V}{L:List α}(h:fY R ws L)(k:∀v x,R v x->S v x):fY S ws L:=⟨h.1,λi v x a b=>k v x (h.2 i v x a b)⟩
theorem fY.nil{α:Type}{R:V->α->Prop}:fY R [] []:=⟨rfl,λi v x a _=>by simp at a⟩
theorem fY.snoc{α:Type}{R:V->α->Prop}{ws:List V}{L:List α}{v:V}{x:α}(h:fY R ws L)(k:R v x):fY R (ws++[v]) (L++[x]):=by
 refine⟨by rw[ati,ati,h.1];rfl,λi u y a b=>?_⟩;by_cases hi:i<ws.length
 .rw[asM hi]at a;rw[asM (by rw[<-h.1];exact hi)]at b;exact h.2 i u y a b
 .rw[asU (by omega)]at a;rw[asU (by rw[<-h.1];omega),<-h.1]at b;have hj:i-ws.length=0:=by
   have:=(asx.mp a).1;simp only[asQ,List.length_nil]at this;omega
  rw[hj]at a b;cases a;cases b;exact k
def Jv(H:Hp)(v:V)(l:List Int):Prop:=∃h:Addr,v=.ref h/\H h=some (.tup (l.map V.int))
theorem Jv.mono{H H':Hp}(e:Ex H H'){v:V}{l:List Int}(h:Jv H v l):Jv H' v l:=by obtain⟨a,e1,h1⟩:=h;exact⟨a,e1,e _ _ h1⟩
theorem Jv.upd{H:Hp}{D:Addr}{acc:List V}{o:HO}(hD:H D=some (.lst acc)){v:V}{l:List Int}(h:Jv H v l):Jv (upd H D o) v l:=by obtain⟨a,e1,h1⟩:=h;refine⟨a,e1,?_⟩;rw[upd_ne (λz=>by rw[z,hD]at h1;cases h1)];exact h1
abbrev Rw:Type:=Int×List Int
def O7(H:Hp)(v:V)(r:Rw):Prop:=∃t m:Addr,v=.ref t/\H t=some (.tup [.int r.1,.ref m])/\H m=some (.tup (r.2.map V.int))
theorem O7.mono{H H':Hp}(e:Ex H H'){v:V}{r:Rw}(h:O7 H v r):O7 H' v r:=by obtain⟨t,m,e1,h1,h2⟩:=h;exact⟨t,m,e1,e _ _ h1,e _ _ h2⟩
theorem O7.upd{H:Hp}{D:Addr}{acc:List V}{o:HO}(hD:H D=some (.lst acc)){v:V}{r:Rw}(h:O7 H v r):O7 (upd H D o) v r:=by
 obtain⟨t,m,e1,h1,h2⟩:=h;refine⟨t,m,e1,?_,?_⟩
 .rw[upd_ne (λz=>by rw[z,hD]at h1;cases h1)];exact h1
 .rw[upd_ne (λz=>by rw[z,hD]at h2;cases h2)];exact h2
def ank(r:Rw):Prop:=1<=r.1/\aot r.2
structure Tab(R:List Rw):Prop where
 len:R.length<=128
 ok:∀r∈R,ank r
 few:∃D:List Rw,D.length<=64/\∀r∈R,r∈D
theorem Tab.sub{R S:List Rw}(h:Tab R)(hs:∀r∈S,r∈R)(hl:S.length<=128):Tab S:=by obtain⟨D,d1,d2⟩:=h.few;exact⟨hl,λr hr=>h.ok r (hs r hr),D,d1,λr hr=>d2 r (hs r hr)⟩
theorem fY.get{α:Type}{R:V->α->Prop}{ws:List V}{L:List α}(h:fY R ws L){i:Nat}{v:V}(g:ws[i]?=some v):∃x,L[i]?=some x/\R v x:=by
 have hi:=(asx.mp g).1;have hi':i<L.length:=by rw[<-h.1];exact hi
 exact⟨L[i],asz hi',h.2 i v _ g (asz hi')⟩
theorem fY.mem{α:Type}{R:V->α->Prop}{ws:List V}{L:List α}(h:fY R ws L){v:V}(m:v∈ws):∃x,x∈L/\R v x:=by obtain⟨i,hi,e⟩:=List.getElem_of_mem m;obtain⟨x,g,r⟩:=h.get (asx.mpr ⟨hi,e⟩);exact⟨x,asH g,r⟩
theorem fY.take{α:Type}{R:V->α->Prop}{ws:List V}{L:List α}(h:fY R ws L)(n:Nat):fY R (ws.take n) (L.take n):=by
 refine⟨by rw[List.length_take,List.length_take,h.1],λi v x a b=>?_⟩;rw[List.getElem?_take]at a b;by_cases c:i<n
 .rw[if_pos c]at a b;exact h.2 i v x a b
 .rw[if_neg c]at a;cases a
theorem fY.drop{α:Type}{R:V->α->Prop}{ws:List V}{L:List α}(h:fY R ws L)(n:Nat):fY R (ws.drop n) (L.drop n):=by refine⟨by rw[atL,atL,h.1],λi v x a b=>?_⟩;rw[List.getElem?_drop]at a b;exact h.2 _ v x a b
section
variable{X:Cx}
def ag1(xs:List V)(ds:List PyData)(x:V)(d:PyData):Prop:=∃i:Nat,xs[i]?=some x/\ds[i]?=some d
@[irreducible]def JD (K:asv):List V->Hp->VK->Prop:=λvs H Q=>∃(a:Addr) (xs:List V) (ds:List PyData),vs=[V.ref a]/\SqL K H a xs/\DpAll K H xs ds/\PySem.W.AllAlike ds/\PySem.W.Sortable ds/\(∀d∈ds,d.depth<=60)/\
 ∀(ys:List V) (p:Addr),fY (ag1 xs ds) ys (ds.mergeSort (PySem.W.dataLe false id))->H p=none->Q (.ref p) (upd H p (.lst ys))
theorem ZD:∀(xs:List V) (ds:List PyData) (its:List Value) (P:Value->PyData->Prop),Vals xs its->PySem.W.EachIs P its ds->
  PySem.W.EachIs (λv d=>∃(i:Nat) (x:V),RelV x v/\xs[i]?=some x/\ds[i]?=some d) its ds
 |[],_,_,_,.nil,.nil=>.nil
 |_::_,[],_,_,.cons _ _,k=>nomatch k
 |x::xs,d::ds,u::us,P,.cons r t,.cons _ k=>.cons ⟨0,x,r,rfl,rfl⟩ ((ZD xs ds us P t k).mono λv d ⟨i,y,a,b,c⟩=>⟨i+1,y,a,b,c⟩)
theorem Wb{xs:List V}{ds:List PyData}:∀(out:List Value) (L:List PyData),PySem.W.EachIs (λv d=>∃(i:Nat) (x:V),RelV x v/\xs[i]?=some x/\ds[i]?=some d) out L->∃ys,Vals ys out/\fY (ag1 xs ds) ys L
 |[],[],.nil=>⟨[],.nil,fY.nil⟩
 |v::out,d::L,.cons ⟨i,x,r,a,b⟩ k=>by
  obtain⟨ys,h1,h2⟩:=Wb out L k;refine⟨x::ys,.cons r h1,by rw[asQ,asQ,h2.1],λj u y g1 g2=>?_⟩;cases j with
  |zero=>
   cases g1;cases g2;exact⟨i,a,b⟩
  |succ j=>exact h2.2 j u y g1 g2
theorem adb(hu:X.A.units+65<cLine):CallR X (.builtin "sorted") (JD X.K):=by
 intro pins s σ H vs us Q I r h;unfold JD at h;obtain⟨a,xs,ds,rfl,hs,hd,hal,hk,hz,q⟩:=h;obtain⟨u,rfl,ru⟩:=vals1 r
 obtain rfl:u=Value.ref a:=ru
 obtain⟨its,rv,hl,hsz⟩:=I.list hs;obtain⟨as,hr⟩:=Dp.readsAll I ds xs its hd rv;have er:PySem.W.EachIs (λv d=>∃as,Reads s.heap v (id d) as) its ds:=PySem.W.readsAll_each id (by rw[List.map_id];exact hr);have hn:=SeqAt.ReadsAll.length ds its as hr;have hl2:=rv.length;refine PySem.W.sorted_data (enc:=id) hl.isList (ZD xs ds its _ rv er) er (by rw[List.map_id];exact hal) (by rw[List.map_id];exact hk) (by omega) (λd m=>?_) λout hlen hout=>?_
 .have:=hz d m;show X.A.units+2+d.depth<cLine;omega
 .obtain⟨ys,v1,v2⟩:=Wb out _ hout;obtain⟨ep,he'⟩:=PyProof.Rows.sortedAll_at s.heap its out.toArray;have hy:ys.length=ds.length:=by
   rw[v2.1,List.length_mergeSort]
  refine⟨.ref _,upd H (s.heap.objs.size+1) (.lst ys),I.laid (t':=s.toks) (λ_ _=>PyProof.Rows.sortedAll_old) (Nat.le_succ _) ⟨by omega,out,ep,v1,by simpa using he'⟩,rfl,q ys _ v2 (I.hok.fresh (Nat.le_succ _))⟩
end
@[irreducible]def SM (K:asv):R2:=λx y H Q=>∃d e:PyData,Dp K H x d/\Dp K H y e/\PySem.W.alike d e=true/\d≠.none/\d.depth<=60/\Q (.bl (PySem.W.dataLt d e)) H
theorem af4{X:Cx}(hu:X.A.units+65<cLine):OpR X (compareOp .Lt) (SM X.K):=by intro pins s σ H x y v u Q I rx ry h;unfold SM at h;obtain⟨d,e,hd,he,ha,hn,hz,q⟩:=h;obtain⟨as,r1⟩:=Dp.reads I d x v hd rx;obtain⟨bs,r2⟩:=Dp.reads I e y u he ry;exact PySem.W.lt_data r1 r2 ha hn (by omega) ⟨.bl _,H,I,rfl,q⟩
def EvR(te:TE)(σ:L2.St)(H:Hp)(P:List V->Hp->Prop):Prop:=∀H1,Ex H H1->∀Q:VK,(∀p H2 us,Ex H1 H2->H2 p=some (.lst us)->P us H2->Q (.ref p) H2)->te σ H1 Q
def EvM(te:TE)(σ:L2.St)(H:Hp)(P:List V->Hp->Prop):Prop:=∀H1,Ex H H1->∀Q:VK,(∀p H2 us,H1 p=none->Ex H1 H2->H2 p=some (.lst us)->P us H2->Q (.ref p) H2)->te σ H1 Q
structure akz{α:Type}(Rel:Hp->V->α->Prop):Prop where
 mono:∀{H H':Hp} {v:V} {x:α},Ex H H'->Rel H v x->Rel H' v x
 upd:∀{H:Hp} {D:Addr} {acc:List V} {o:HO} {v:V} {x:α},H D=some (.lst acc)->Rel H v x->Rel (upd H D o) v x
theorem fY.mono{α:Type}{Rel:Hp->V->α->Prop}(S:akz Rel){H H':Hp}(e:Ex H H'){ws:List V}{L:List α}(h:fY (Rel H) ws L):fY (Rel H') ws L:=h.imp λ_ _ r=>S.mono e r
theorem fY.upd{α:Type}{Rel:Hp->V->α->Prop}(S:akz Rel){H:Hp}{D:Addr}{acc:List V}{o:HO}(hD:H D=some (.lst acc)){ws:List V}{L:List α}(h:fY (Rel H) ws L):fY (Rel (upd H D o)) ws L:=h.imp λ_ _ r=>S.upd hD r
section
variable{K:asv}{σ:L2.St}{H:Hp}{te tl:TE}{tt:TT}{vs:List Nat}{α:Type}
theorem EvM.r{P:List V->Hp->Prop}(h:EvM te σ H P):EvR te σ H P:=λH1 e Q q=>h H1 e Q λp H2 us _ a b c=>q p H2 us a b c
theorem EvM.imp{P R:List V->Hp->Prop}(h:EvM te σ H P)(k:∀us H',P us H'->R us H'):EvM te σ H R:=λH1 e Q q=>h H1 e Q λp H2 us n a b c=>q p H2 us n a b (k us H2 c)
end
theorem Zt:∀a b:List Int,PyData.eqvAll (a.map PyData.int) (b.map PyData.int)=decide (a=b)
 |[],[]=>by rw[atA,PyData.eqvAll];rfl
 |[],y::ys=>by rw[atA,asy,PyData.eqvAll];rfl
 |x::xs,[]=>by rw[atA,asy,PyData.eqvAll];rfl
 |x::xs,y::ys=>by
  rw[asy,asy,PyData.eqvAll,Zt xs ys,PyData.eqv,atF];simp
def dT(l:List Int):PyData:=.tuple (l.map PyData.int)
theorem lay_ints:∀l:List Int,PyData.canLayAll0 (l.map PyData.int)=true/\PyData.depthAll (l.map PyData.int)=0
 |[]=>⟨by rw[atA,PyData.canLayAll0],by rw[atA,PyData.depthAll]⟩
 |x::xs=>by
  have ih:=lay_ints xs;refine⟨?_,?_⟩
  .rw[asy,PyData.canLayAll0,PyData.canLay0,ih.1];rfl
  .rw[asy,PyData.depthAll,PyData.depth,ih.2];rfl
def rD(r:Rw):PyData:=.tuple [.int r.1,dT r.2]
theorem adL(r:Rw):(rD r).canLay0=true/\(rD r).depth=2:=by
 have h:=lay_ints r.2;unfold rD dT;refine⟨?_,?_⟩
 .rw[PyData.canLay0,PyData.canLayAll0,PyData.canLayAll0,PyData.canLayAll0,PyData.canLay0,PyData.canLay0,h.1];rfl
 .rw[PyData.depth,PyData.depthAll,PyData.depthAll,PyData.depthAll,PyData.depth,PyData.depth,h.2];rfl
def rk(r:Rw):List Int:=r.1::r.2
theorem aev:PySem.W.rowLt [] []=false:=PyProof.Rows.lex_irrefl _
theorem aiv(l m:List Int):PySem.W.rowLt [dT l] [dT m]=decide (l<m):=by
 have al:PySem.W.alike (dT l) (dT m)=true:=by unfold dT;rw[PySem.W.alike];exact PySem.W.alike_ints l m
 have ev:PyData.eqv (dT l) (dT m)=decide (l=m):=by unfold dT;rw[PyData.eqv,Zt]
 have h:PySem.W.rowLt [dT l] [dT m]=if PyData.eqv (dT l) (dT m)=true then PySem.W.rowLt [] [] else PySem.W.dataLt (dT l) (dT m):=PySem.W.dataLt_cons al [] []
 rw[h,ev,aev];by_cases c:l=m
 .rw[if_pos (decide_eq_true c),c];exact(decide_eq_false (List.lt_irrefl _)).symm
 .rw[if_neg (by rw[atY];exact c)];show PySem.W.dataLt (.tuple (l.map PyData.int)) (.tuple (m.map PyData.int))=_;rw[PySem.W.dataLt_tuple];exact PySem.W.dataLt_ints l m
theorem aaT(x y:Int)(ds es:List PyData)(l m:List Int)(h:PySem.W.rowLt ds es=decide (l<m)):PySem.W.rowLt (.int x::ds) (.int y::es)=decide (x::l<y::m):=by
 have al:PySem.W.alike (.int x) (.int y)=true:=by rw[PySem.W.alike]
 have h2:PySem.W.rowLt (.int x::ds) (.int y::es)=if PyData.eqv (.int x) (.int y)=true then PySem.W.rowLt ds es else PySem.W.dataLt (.int x) (.int y):=PySem.W.dataLt_cons al ds es
 rw[h2,h,PySem.W.dataLt_int,PyData.eqv];by_cases c:x=y
 .subst c;rw[if_pos (by simp),atF,atY,atY,List.cons_lt_cons_iff];constructor
  .exact λk=>Or.inr ⟨rfl,k⟩
  .rintro(k|k)
   .omega
   .exact k.2
 .rw[if_neg (by simpa using c),atF,atY,atY,List.cons_lt_cons_iff];constructor
  .exact Or.inl
  .rintro(k|k)
   .exact k
   .exact absurd k.1 c
theorem ajS(a b:Rw):PySem.W.dataLt (rD a) (rD b)=decide (rk a<rk b):=by unfold rD;rw[PySem.W.dataLt_tuple];exact aaT _ _ _ _ _ _ (aiv a.2 b.2)
theorem WL(a b:Rw):PySem.W.alike (rD a) (rD b)=true:=by unfold rD dT;rw[PySem.W.alike,PySem.W.alikeAll,PySem.W.alikeAll,PySem.W.alike,PySem.W.alike,PySem.W.alike_ints,PySem.W.alikeAll];rfl
theorem fY.map{α β:Type}{P:V->β->Prop}(f:α->β){ws:List V}{L:List α}(h:fY (λv x=>P v (f x)) ws L):fY P ws (L.map f):=by refine⟨by rw[asK,h.1],λi v x a b=>?_⟩;rw[asS]at b;obtain⟨y,hy,e⟩:=atr.mp b;rw[<-e];exact h.2 i v y a hy
theorem aeN{a b:Rw}(h:rk a=rk b):a=b:=by unfold rk at h;injection h with h1 h2;exact Prod.ext h1 h2
def WD(S:List Rw):Prop:=S.Pairwise λa b=>rk a<rk b
theorem afO:∀{S T:List Rw},WD S->WD T->(∀r,r∈S↔r∈T)->S=T
 |[],[],_,_,_=>rfl
 |[],t::T,_,_,h=>absurd ((h t).mpr asC) (by simp)
 |s::S,[],_,_,h=>absurd ((h s).mp asC) (by simp)
 |s::S,t::T,hs,ht,h=>by
  obtain⟨hs1,hs2⟩:=List.pairwise_cons.mp hs;obtain⟨ht1,ht2⟩:=List.pairwise_cons.mp ht;have e:s=t:=by
   rcases asN.mp ((h s).mp asC) with e|m
   .exact e
   .rcases asN.mp ((h t).mpr asC) with e2|m2
    .exact e2.symm
    .exact absurd (ht1 s m) (List.lt_asymm (hs1 t m2))
  subst e;have hn:∀{L:List Rw},(∀r∈L,rk s<rk r)->s∉L:=λhL m=>List.lt_irrefl _ (hL s m);rw[afO hs2 ht2 λr=>?_];constructor
  .intro m;rcases asN.mp ((h r).mp (asB _ m)) with e|m2
   .rw[e]at m;exact absurd m (hn hs1)
   .exact m2
  .intro m;rcases asN.mp ((h r).mpr (asB _ m)) with e|m2
   .rw[e]at m;exact absurd m (hn ht1)
   .exact m2
theorem Mv(a b:Rw):PySem.W.dataLe false rD a b=decide (rk a<=rk b):=by
 show(!PySem.W.dataLt (rD b) (rD a))=_
 rw[ajS,atF,asO,decide_eq_false_iff_not,atY];exact List.not_lt
theorem aeU{α β:Type}{R:α->β->Prop}{as cs:List α}(p:as.Perm cs):∀{bs:List β},PySem.W.EachIs R as bs->∃ds,ds.Perm bs/\PySem.W.EachIs R cs ds:=by
 induction p with
 |nil=>
  intro bs h;cases h;exact⟨[],List.Perm.refl _,.nil⟩
 |cons x _ ih=>
  intro bs h;cases h with
  |cons r t=>
   obtain⟨ds,h1,h2⟩:=ih t;exact⟨_::ds,h1.cons _,.cons r h2⟩
 |swap x y l=>
  intro bs h;cases h with
  |cons r t=>
   cases t with
   |cons r2 t2=>exact⟨_,List.Perm.swap _ _ _,.cons r2 (.cons r t2)⟩
 |trans _ _ ih1 ih2=>
  intro bs h;obtain⟨ds,a1,a2⟩:=ih1 h;obtain⟨es,b1,b2⟩:=ih2 a2;exact⟨es,b1.trans a1,b2⟩
section
variable{P:Program}{w:World}{A:Around}{E:Value->Shared->Prop}{s:Shared}
theorem aaU{β:Type}{a:Addr}{es:Array (Int×Value)}{ep:Nat}{t:SetTable}{enc:β->PyData}{bs:List β}{R:Value->β->Prop}{Q:Value->Shared->Prop}(hh:A.handled=none)(ha:SetAt s.heap a es ep t)(hf:t.fits es.size=true)(hsz:es.size<scanBound)(hr:Ris t.place.toList)
  (hl:w.params.followText "set-order"=true\/t.led=true) (e:PySem.W.EachIs (λv b=>R v b/\∃as,Reads s.heap v (enc b) as) (es.toList.map (·.2)) bs) (hal:PySem.W.AllAlike (bs.map enc)) (hk:PySem.W.Sortable (bs.map enc)) (hu:∀b∈bs,A.units+2+(enc b).depth<cLine)
  (hQ:∀(s':Shared) (p:Addr) (out:List Value) (c:Nat) (cs:List β),(∀b o,s.heap.get? b=some o->s'.heap.get? b=some o)->s'.gens=s.gens->s'.os=s.os->s.heap.objs.size<=p->s'.heap.get? p=some (seqObj "list" out.toArray c)->
   cs.Perm bs->PySem.W.EachIs R out (cs.mergeSort (PySem.W.dataLe false enc))->Q (.ref p) s') :
  wpAny (model P w) A (call (.builtin "sorted") [.ref a]) Q E s:=by
 refine Calls.call_function_entry kind_sorted plain_sorted entry_sorted (args_sorted1 _) ?_;unfold Builtin.«sorted»;refine wpAny_bind (m:=checkCount "sorted" 1 1 _) (wpAny_pure ?_)
 refine wpAny_bind (collect_set (A:=A.in1) hh ha hf hsz hr hl λt1 vals kept grown g1 o1 pm=>?_);obtain⟨cs,pc,ec⟩:=aeU pm.symm e;have lc:vals.length=cs.length:=ec.length;have lb:cs.length=bs.length:=pc.length_eq;have lz:vals.length<=sizeLine:=by rw[pm.length_eq,asK,ath,sizeLine_eq];unfold scanBound at hsz;omega
 refine wpAny_bind (wpAny_newList ?_ lz);have here:(t1.heap.push (seqObj "list" vals.toArray 0)).get? t1.heap.objs.size=some (seqObj "list" vals.toArray 0):=Heap.get?_push_size _ rfl
 have stays:∀b o,s.heap.get? b=some o->(t1.heap.push (seqObj "list" vals.toArray 0)).get? b=some o:=λb o q=>Heap.get?_push_of_some _ (kept b o q)
 have al:PySem.W.AllAlike (cs.map enc):=λd hd d' hd'=>hal d ((pc.map enc).mem_iff.mp hd) d' ((pc.map enc).mem_iff.mp hd');have sk:PySem.W.Sortable (cs.map enc):=by
  rcases hk with k|k
  .exact .inl λd hd=>k d ((pc.map enc).mem_iff.mp hd)
  .exact .inr λd hd=>k d ((pc.map enc).mem_iff.mp hd)
 refine wpAny_bind (wpAny_holding (PySem.W.list_sort_data (s:={ t1 with heap:=t1.heap.push (seqObj "list" vals.toArray 0) }) (enc:=enc) here (ec.mono λv b h=>h.1) (ec.mono λv b ⟨_,as,r⟩=>⟨as,PySem.W.reads_keeps stays r,λm=>?rd⟩) al sk (by omega) (λb hb=>?un) λout lo eo=>?fin))
 case rd=>
  obtain⟨o,q⟩:=PyProof.On.reads_mem_get r _ m;have hlt:t1.heap.objs.size<s.heap.objs.size:=Heap.lt_size q;exact absurd grown (Nat.not_le_of_lt hlt)
 case fin=>
  obtain⟨c,hc⟩:=sortedHeap_at (vs:=vals) (out:=out.toArray) here;refine wpAny_pure ⟨_,rfl,hQ _ t1.heap.objs.size out c cs (λb o q=>?_) g1 o1 grown hc pc eo⟩;have hlt:=Heap.lt_size (kept b o q)
  show(sortedHeap (t1.heap.push (seqObj "list" vals.toArray 0)) t1.heap.objs.size vals out.toArray).get? b=some o
  rw[sortedHeap_old (atg hlt) (by rw[size_push'];exact atE hlt)];exact stays b o q
 case un=>
  have:=hu b (pc.mem_iff.mp hb);show A.in1.units+1+_<_;have e1:A.in1.units=A.units+1:=rfl;omega
def nk(r:Rw):NestedKey:=.tup [.num r.1,.tup (r.2.map .num)]
theorem Yt:∀a b:List Int,a.map NestedKey.num=b.map NestedKey.num->a=b
 |[],[],_=>rfl
 |[],_::_,h=>by cases h
 |_::_,[],h=>by cases h
 |x::a,y::b,h=>by
  rw[asy,asy]at h;injection h with h1 h2;injection h1 with h1;rw[h1,Yt a b h2]
theorem aeA{a b:Rw}(h:nk a=nk b):a=b:=by unfold nk at h;injection h with h;injection h with h1 h;injection h with h2 _;injection h1 with h1;injection h2 with h2;exact Prod.ext h1 (Yt _ _ h2)
theorem RQ:∀l:List Int,NestedKey.depthAll (l.map .num)=0
 |[]=>by rw[atA,NestedKey.depthAll]
 |x::l=>by
  rw[asy,NestedKey.depthAll,NestedKey.depth,RQ l];rfl
theorem agx(r:Rw):(nk r).depth=2:=by unfold nk;rw[NestedKey.depth,NestedKey.depthAll,NestedKey.depthAll,NestedKey.depthAll,NestedKey.depth,NestedKey.depth,RQ];rfl
def pN(P:Program)(w:World):HeapKind P w Rw where
 is:=λh r a=>(nestedKind P w).is h (nk r) a
 hash:=λr=>(nestedKind P w).hash (nk r)
 draws:=λr=>(nestedKind P w).draws (nk r)
 room:=(nestedKind P w).room
 inj:=λhx hy=>aeA ((nestedKind P w).inj hx hy)
 keeps:=λx ho hd hs=>(nestedKind P w).keeps x ho hd hs
 pyHash:=λhu hk h=>(nestedKind P w).pyHash hu hk h
 eqBool:=λ{A E s x y a b Q} hu hx hy h=>(nestedKind P w).eqBool hu hx hy (by
  have e:decide (nk x=nk y)=decide (x=y):=by rw[decide_eq_decide];exact⟨aeA,λh=>by rw[h]⟩
  rw[e];exact h)
 quiet:=λhk h=>(nestedKind P w).quiet hk h
abbrev RI(h:Heap)(r:Rw)(a:Addr):Prop:=NestedIs h (nk r) (.ref a)/\(nk r).depth<=8
theorem Vh{h h':Heap}{r:Rw}{a:Addr}(x:RI h r a)(k:∀c o,h.get? c=some o->h'.get? c=some o):RI h' r a:=⟨NestedIs.at (λb o _ _ e _=>k b o e) _ _ x.1,x.2⟩
theorem YZ{h h':Heap}{r:Rw}{a d:Addr}{o:Obj}{es:Array (Int×Value)}{ep:Nat}{t:SetTable}(x:RI h r a)(ho:h.get? d=some o)(hd:o.data=.set es ep t)(sb:Heap.SameBut d h h'):RI h' r a:=by
 refine⟨NestedIs.at (λb ob vs n hb hc=>(sb.2 b λe=>?_).trans hb) _ _ x.1,x.2⟩;subst e
 obtain rfl:ob=o:=asZ (hb.symm.trans ho)
 rw[hd]at hc;cases hc
theorem Jo{h:Heap}{i:Int}{v:Value}(x:NestedIs h (.num i) v)(n:Nat):ofAClassStatement n v=pure false/\hashByValue n v=pure true:=by
 cases x with
 |bool _=>cases n<;>exact⟨rfl,rfl⟩
 |int _ t=>cases n<;>exact⟨rfl,rfl⟩
theorem ZC{h:Heap}:∀(l:List Int) (vs:List Value),NestedAll h (l.map .num) vs->∀v∈vs,∃i,NestedIs h (.num i) v
 |[],_,x,v,hv=>by
  cases x;cases hv
 |i::l,_,x,v,hv=>by
  rw[asy]at x;cases x with
  |cons x1 x2=>
   rcases asN.mp hv with e|hv
   .exact⟨i,by rw[e];exact x1⟩
   .exact ZC l _ x2 v hv
theorem abm{n:Nat}{a:Addr}{o:Obj}{vs:Array Value}{m:Nat}(ho:s.heap.get? a=some o)(hc:o.cls=.type "tuple")(hd:o.data=.seq vs m)(hq:∀v∈vs.toList,∀(E:Value->Shared->Prop) (Q:Bool->Shared->Prop),Q false s->wpAny (model P w) A (ofAClassStatement n v) Q E s){Q:Bool->Shared->Prop}(q:Q false s) :
  wpAny (model P w) A (ofAClassStatement (n+1) (.ref a)) Q E s:=by
 have hT:s.TypeIs (.ref a) "tuple":=⟨o,ho,hc⟩
 unfold ofAClassStatement;refine wpAny_bind (wpAny_typeOf hT ?_)
 dsimp only
 have eq1:(("tuple" : String)=="tuple")=true:=by decide
 simp only[eq1,if_true,Bool.not_true,as7,if_false]
 try refine wpAny_bind (wpAny_pure ?_)
 try simp only[Bool.not_true,as7,if_false]
 refine wpAny_bind (wpAny_seqItems ho hd ?_)
 dsimp only
 refine wpAny_bind ?_;rw[<-Array.forIn_toList];refine wpAny_forIn_list _ (λleft r u=>r.1=none/\u=s/\∀v∈left,v∈vs.toList) _ ?_ ?_ _ _ ⟨rfl,rfl,λv hv=>hv⟩
 .rintro v left r u ⟨hr,rfl,hall⟩;refine wpAny_bind (hq v (hall v asC) _ _ ?_);simp only[as7,if_false];exact wpAny_pure ⟨rfl,rfl,λy hy=>hall y (asB _ hy)⟩
 .rintro⟨r1,r2⟩ u ⟨hr,rfl,_⟩;simp only at hr;subst hr;exact wpAny_pure q
theorem Z8{n:Nat}{a:Addr}{o:Obj}{vs:Array Value}{m:Nat}(ho:s.heap.get? a=some o)(hc:o.cls=.type "tuple")(hd:o.data=.seq vs m)(hq:∀v∈vs.toList,∀(E:Value->Shared->Prop) (Q:Bool->Shared->Prop),Q true s->wpAny (model P w) A (hashByValue n v) Q E s){Q:Bool->Shared->Prop}(q:Q true s) :
  wpAny (model P w) A (hashByValue (n+1) (.ref a)) Q E s:=by
 have hT:s.TypeIs (.ref a) "tuple":=⟨o,ho,hc⟩
 unfold hashByValue;refine wpAny_bind (wpAny_specialOf hT PySem.F.slot_tuple_hash.lookup ?_);show wpAny _ _ (seqItems? (.ref a) >>= _) _ _ s;refine wpAny_bind (wpAny_seqItems ho hd ?_);refine wpAny_bind ?_;show wpAny _ _ (forIn vs _ _) _ _ s;rw[<-Array.forIn_toList];refine wpAny_forIn_list _ (λleft r u=>r.1=none/\u=s/\∀v∈left,v∈vs.toList) _ ?_ ?_ _ _ ⟨rfl,rfl,λv hv=>hv⟩
 .rintro v left r u ⟨hr,rfl,hall⟩;refine wpAny_bind (hq v (hall v asC) _ _ ?_);simp only[Bool.not_true,as7,if_false];exact wpAny_pure ⟨rfl,rfl,λy hy=>hall y (asB _ hy)⟩
 .rintro⟨r1,r2⟩ u ⟨hr,rfl,_⟩;simp only at hr;subst hr;exact wpAny_pure q
theorem Jp{r:Rw}{a:Addr}(x:RI s.heap r a):(∀{Q:Bool->Shared->Prop},Q false s->wpAny (model P w) A (ofAClassStatement 8 (.ref a)) Q E s)/\∀{Q:Bool->Shared->Prop},Q true s->wpAny (model P w) A (hashByValue 8 (.ref a)) Q E s:=by
 obtain⟨x,_⟩:=x;unfold nk at x;cases x with
 | @tup _ o vs m _ ho hc hd x=>
  have items:∀v∈vs.toList,(∃i,NestedIs s.heap (.num i) v)\/∃b,v=.ref b/\∃o us k,s.heap.get? b=some o/\o.cls=.type "tuple"/\o.data=.seq us k/\∀u∈us.toList,∃i,NestedIs s.heap (.num i) u:=by
   generalize vs.toList=l at x;cases x with
   |cons x1 x=>
    cases x with
    |cons x2 x=>
     cases x;intro v hv;rcases asN.mp hv with e|hv
     .exact Or.inl ⟨_,by rw[e];exact x1⟩
     .have e:=asF.mp hv;cases x2 with
      |tup k1 k2 k3 k4=>exact Or.inr ⟨_,e,_,_,_,k1,k2,k3,ZC _ _ k4⟩
  refine⟨λq=>abm ho hc hd (λv hv E' Q' q'=>?_) q,λq=>Z8 ho hc hd (λv hv E' Q' q'=>?_) q⟩
  .rcases items v hv with⟨i,y⟩|⟨b,rfl,o',us,k,k1,k2,k3,k4⟩
   .rw[(Jo y 7).1];exact wpAny_pure q'
   .refine abm k1 k2 k3 (λu hu E2 Q2 q2=>?_) q';obtain⟨i,y⟩:=k4 u hu;rw[(Jo y 6).1];exact wpAny_pure q2
  .rcases items v hv with⟨i,y⟩|⟨b,rfl,o',us,k,k1,k2,k3,k4⟩
   .rw[(Jo y 7).2];exact wpAny_pure q'
   .refine Z8 k1 k2 k3 (λu hu E2 Q2 q2=>?_) q';obtain⟨i,y⟩:=k4 u hu;rw[(Jo y 6).2];exact wpAny_pure q2
end
abbrev Ent:Type:=Addr×Rw
section
variable{P:Program}{w:World}{A:Around}{E:Value->Shared->Prop}{s:Shared}
def ents(hf:Rw->Int)(L:List Ent):List (Int×Value):=L.map λp=>(hf p.2,Value.ref p.1)
structure rN(hf:Rw->Int)(w:World)(h:Heap)(a:Addr)(L:List Ent)(es:Array (Int×Value))(ep:Nat)(t:SetTable):Prop where
 ob:∃o,h.get? a=some o/\o.ExactSet/\o.data=.set es ep t
 en:es.toList=ents hf L
 tab:TabOk t (L.map λp=>hf p.2)
 nd:(L.map Prod.snd).Nodup
 ky:∀p∈L,RI h p.2 p.1
 pl:t.plain=true
 ld:w.params.followText "set-order"=true\/t.led=true
 free:L.length*5<t.mask*3
 few:L.length<=76
variable{hf:Rw->Int}{a:Addr}{L:List Ent}{es:Array (Int×Value)}{ep:Nat}{t:SetTable}
theorem zN(h:es.toList=ents hf L):es.size=L.length:=by rw[<-ath,h];exact asK _
theorem O2(h:es.toList=ents hf L){i:Nat}{p:Ent}(g:L[i]?=some p):es[i]?=some (hf p.2,Value.ref p.1):=by rw[<-atl,h];unfold ents;rw[asS,g];rfl
theorem fits_of(h1:t.place.size=es.size)(h2:t.dummies=#[])(h3:es.size<=t.mask):t.fits es.size=true:=by unfold SetTable.fits SetTable.fill;rw[h2,asw,beq_iff_eq,atY];exact⟨h1,by show t.place.size+0<=t.mask;omega⟩
theorem rN.fits(R:rN hf w s.heap a L es ep t):t.fits es.size=true:=by have l1:=zN R.en;have l2:=R.tab.sz;rw[asK]at l2;have l3:=R.free;exact fits_of (by omega) R.tab.dm (by omega)
theorem rN.sound(R:rN hf w s.heap a L es ep t):¬t.gaveWay=true:=by unfold SetTable.gaveWay;rw[mask_odd R.tab.mok];decide
theorem alM{r:Rw}{b:Addr}{Q:Bool->Shared->Prop}(hx:RI s.heap r b){ys:List Value}(hy:∀y∈ys,∃q c,y=Value.ref c/\RI s.heap q c)(q:Q false s):wpAny (model P w) A (searchCouldBeSeen (.ref b) ys) Q E s:=by
 unfold searchCouldBeSeen;refine wpAny_bind ?_;refine wpAny_forIn_list _ (λleft r u=>r.1=none/\u=s/\∀y∈left,∃q c,y=Value.ref c/\RI s.heap q c) _ ?_ ?_ _ _ ⟨rfl,rfl,hy⟩
 .rintro v left r u ⟨hr,rfl,hall⟩;obtain⟨q',c,rfl,hc⟩:=hall v asC;have more:∀y∈left,∃q c,y=Value.ref c/\RI u.heap q c:=λy m=>hall y (asB _ m)
  dsimp only
  by_cases hv:(b==c || (carriedByValue (.ref b)&&carriedByValue (.ref c)))=true
  .exact wp_if_pos hv (wpAny_pure ⟨rfl,rfl,more⟩)
  .refine wp_if_neg hv ?_;refine wpAny_bind ((pN P w).quiet hx ?_);simp only[Bool.not_true,as7,if_false];refine wpAny_bind ((pN P w).quiet hc ?_);simp only[Bool.not_true,as7,if_false];refine wpAny_bind ((Jp hx).1 ?_);simp only[as7,if_false];refine wpAny_bind ((Jp hc).1 ?_);simp only[as7,if_false];exact wpAny_pure ⟨rfl,rfl,more⟩
 .rintro⟨r1,r2⟩ u ⟨hr,rfl,_⟩;simp only at hr;subst hr;exact wpAny_pure q
abbrev vH(m:Nat)(h:Int)(c:Nat):SetTable.Probe:=nth m (runAt m (SetTable.bits h%(m+1)) (SetTable.bits h)) c
theorem aaZ(m:Nat)(h:Int)(c:Nat):(vH m h c).dummy=none:=by
 have all:∀(n:Nat) (p:SetTable.Probe),p.dummy=none->(nth m p n).dummy=none:=by
  intro n
  induction n with
  |zero=>exact λp k=>k
  |succ n ih=>
   intro p k;refine ih (adv m p) ?_;unfold adv
   split<;>exact k
 exact all c _ rfl
theorem WQ(m:Nat)(h:Int)(c d:Nat):nth m (vH m h c) d=vH m h (c+d):=(nth_add m c _ d).symm
theorem seek(R:rN hf w s.heap a L es ep t){x:Addr}{r:Rw}(hx:RI s.heap r x){h:Int}(hh:hf r=h)(hu:(pN P w).room A){N:Nat}(hN:N<10*SetTable.turns t.mask)(out:way t.mask (h) N∉t.place.toList)(inn:∀c,c<N->way t.mask (h) c∈t.place.toList){Q:SetFound->Shared->Prop}
  (yes:r∈L.map Prod.snd->Q (.there none) s) (no:r∉L.map Prod.snd->Q (.free (way t.mask (h) N) false) s) :
  ∀(f c:Nat) (st:Option SetTable.Probe),st.getD (t.probeStart (h))=vH t.mask (h) c->c<=N->N-c<f->
   (∀(i:Nat) (p:Ent),L[i]?=some p->p.2=r->∃d,c<=d/\d<N/\t.place.toList[i]?=some (way t.mask (h) d))->
   wpAny (model P w) A (setSearchFrom a (.ref x) (h) true f st) Q E s:=by
 intro f
 induction f with
 |zero=>exact λ_ _ _ _ hfl _=>absurd hfl (Nat.not_lt_zero _)
 |succ f ih=>
  intro c st hst hc hfl left;obtain⟨o,ho,hex,hd⟩:=R.ob;rw[setSearchFrom_succ];refine wpAny_bind (wpAny_setState_of ho hd R.fits ?_)
  dsimp only
  refine wp_if_neg R.sound ?_
  try refine wpAny_bind (wpAny_pure ?_)
  have jAt:∀d,(nth t.mask (vH t.mask h c) d).j=way t.mask h (c+d):=λd=>congrArg SetTable.Probe.j (WQ t.mask h c d);have hashOf:∀(i:Nat) (p:Ent),L[i]?=some p->(es[i]?.map (·.1)).getD 0=hf p.2:=λi p g=>by
   rw[O2 R.en g];rfl
  have spec:=go_spec t R.tab.ris R.tab.dm (λi=>(es[i]?.map (·.1)).getD 0) h (10*SetTable.turns t.mask) (N-c) (vH t.mask h c) (aaZ _ _ _) (by omega) (λd hdn=>by rw[jAt];exact inn (c+d) (by omega)) (by rw[jAt,atM hc];exact out);rcases spec with⟨d,i,hdn,hi,hhi,hno,hpr⟩|⟨hno,hpr⟩
  .have hpr':t.probe (λi=>(es[i]?.map (·.1)).getD 0) h (st.getD (t.probeStart h))=some (.candidate (way t.mask h (c+d)) i (vH t.mask h (c+(d+1)))):=by
    rw[hst,<-jAt,<-WQ];exact hpr
   rw[hpr']
   dsimp only
   rw[jAt]at hi;have hil:i<L.length:=by have k1:=(asx.mp hi).1;have k2:=R.tab.sz;rw[asK]at k2;rw[ath]at k1;omega
   obtain⟨p,hp⟩:∃p,L[i]?=some p:=⟨_,asz hil⟩;have pm:=asH hp;have go:wpAny (model P w) A (searchRest a (.ref x) h true f es t (way t.mask h (c+d)) i (vH t.mask h (c+(d+1)))) Q E s:=by
    unfold searchRest;rw[O2 R.en hp]
    dsimp only
    refine wpAny_bind (wpAny_holding ((pN P w).eqBool hu (R.ky p pm) hx ?_));refine wpAny_bind (wpAny_setState_of ho hd R.fits ?_)
    dsimp only
    by_cases same:p.2=r
    .exact wp_if_pos (by simp[same]) (wpAny_pure (yes (asJ.mpr ⟨p,pm,same⟩)))
    .refine wp_if_neg (by simp[same]) ?_
     try refine wpAny_bind (wpAny_pure ?_)
     rw[sameMem]
     dsimp only
     have live:t.slot (way t.mask h (c+d))=.live i:=slot_live R.tab.ris hi;simp only[if_true,live,O2 R.en hp];refine wpAny_bind (wpAny_isSame_ref_self (wpAny_bind (wpAny_pure ?_)));simp only[if_true];refine wp_if_neg (by simp[same]) ?_;refine ih (c+(d+1)) _ rfl (by omega) (by omega) λi0 p0 g0 e0=>?_;obtain⟨d0,a1,a2,a3⟩:=left i0 p0 g0 e0;refine⟨d0,?_,a2,a3⟩;by_cases c1:d0<c+d
     .exact absurd ((hashOf i0 p0 g0).trans ((congrArg hf e0).trans hh)) (hno (d0-c) i0 (by omega) (by rw[jAt,atM a1];exact a3))
     .by_cases c2:d0=c+d
      .rw[c2]at a3;have live0:=slot_live R.tab.ris a3;rw[live]at live0;injection live0 with ei;rw[<-ei,hp]at g0;exact absurd ((congrArg Prod.snd (asZ g0)).trans e0) same
      .omega
   by_cases hl:t.led=true
   .refine wp_if_neg (by simp[hl]) ?_
    try refine wpAny_bind (wpAny_pure ?_)
    exact go
   .refine wp_if_pos (by simp[hl]) ?_;refine wpAny_bind (alM hx (λy hy=>?_) ?_)
    .obtain⟨e,he,ee⟩:=asJ.mp hy;have h1:e∈es/\e.1=h:=by simpa using he
     have h2:e∈es.toList:=by simpa using h1.1
     rw[R.en]at h2;obtain⟨p2,hp2,e2⟩:=asJ.mp h2;exact⟨p2.2,p2.1,by rw[<-ee,<-e2],R.ky p2 hp2⟩
    .refine wp_if_neg (by decide) ?_
     try refine wpAny_bind (wpAny_pure ?_)
     exact go
  .have hpr':t.probe (λi=>(es[i]?.map (·.1)).getD 0) h (st.getD (t.probeStart h))=some (.empty (way t.mask h N) none):=by
    have e2:way t.mask h N=(nth t.mask (vH t.mask h c) (N-c)).j:=by rw[jAt,atM hc]
    rw[hst,e2];exact hpr
   rw[hpr']
   dsimp only
   refine wpAny_pure (no λhm=>?_);obtain⟨p0,m0,e0⟩:=asJ.mp hm;obtain⟨i0,hi0,e1⟩:=List.getElem_of_mem m0;have g0:L[i0]?=some p0:=by rw[asz hi0,e1]
   obtain⟨d0,a1,a2,a3⟩:=left i0 p0 g0 e0;exact hno (d0-c) i0 (by omega) (by rw[jAt,atM a1];exact a3) ((hashOf i0 p0 g0).trans ((congrArg hf e0).trans hh))
theorem look(R:rN hf w s.heap a L es ep t){x:Addr}{r:Rw}(hx:RI s.heap r x)(hu:(pN P w).room A){Q:SetFound->Shared->Prop}(yes:r∈L.map Prod.snd->Q (.there none) s)
  (no:∀N,r∉L.map Prod.snd->way t.mask (hf r) N∉t.place.toList->(∀c,c<N->way t.mask (hf r) c∈t.place.toList)->Q (.free (way t.mask (hf r) N) false) s):wpAny (model P w) A (setSearch a (.ref x) (hf r) true) Q E s:=by
 have hfree:=R.free;obtain⟨N,hN,out,inn⟩:=R.tab.first (by rw[asK];omega) (hf r);have small:N<100000:=by
  have:10*SetTable.turns t.mask<=1420:=by unfold SetTable.turns;rcases R.tab.mok with e|e|e<;>omega
  omega
 unfold setSearch;refine seek R hx rfl hu hN out inn yes (λhn=>no N hn out inn) 100000 0 none rfl (atk _) (by omega) λi p g e=>?_;have hi:(L.map λp=>hf p.2)[i]?=some (hf r):=by rw[asS,g,<-e];rfl
 have hil:i<t.place.toList.length:=by have k1:=(asx.mp g).1;have k2:=R.tab.sz;rw[asK]at k2;rw[ath];omega
 obtain⟨c,hc,ec⟩:=R.tab.before out hi (asz hil);exact⟨c,atk _,hc,by rw[asz hil,ec]⟩
end
section
variable{P:Program}{w:World}{A:Around}{E:Value->Shared->Prop}{s:Shared}{hf:Rw->Int}{a:Addr}{L:List Ent}{es:Array (Int×Value)}{ep:Nat}{t:SetTable}
theorem agZ(L:List Ent)(n:Nat)(x:Addr)(r:Rw):ents hf (L.take n++(x,r)::L.drop n)=(ents hf L).take n++(hf r,Value.ref x)::(ents hf L).drop n:=by unfold ents;rw[as8,asy,List.map_take,List.map_drop]
theorem range_all(L:List Ent):(List.range L.length).filterMap (λi=>L[i]?)=L:=by
 have part:∀n,n<=L.length->(List.range n).filterMap (λi=>L[i]?)=L.take n:=by
  intro n
  induction n with
  |zero=>exact λ_=>rfl
  |succ n ih=>
   intro hn;rw[List.range_succ,List.filterMap_append,ih (by omega),List.take_add_one,asz (show n<L.length by omega)];congr 1;rw[List.filterMap_cons_some (asz (show n<L.length by omega))];rfl
 rw[part _ (as6 _),List.take_length]
theorem aeY(h:es.toList=ents hf L){order:Array Nat}(hp:order.toList.Perm (List.range L.length)) :
  ∃M:List Ent,(order.filterMap (es[·]?)).toList=ents hf M/\M.Perm L/\(M.map λp=>hf p.2)=order.toList.map λi=>(es.map (·.1)).getD i 0:=by
 have inside:∀i∈order.toList,i<L.length:=λi hi=>List.mem_range.mp (hp.mem_iff.mp hi);refine⟨order.toList.filterMap (λi=>L[i]?),?_,?_,?_⟩
 .have e1:(order.filterMap (es[·]?)).toList=order.toList.filterMap (λi=>es[i]?):=by
   first | rw[Array.toList_filterMap] | simp
  rw[e1];unfold ents;rw[List.map_filterMap];congr 1;funext i;rw[<-atl,h];unfold ents;rw[asS]
 .have:=hp.filterMap (λi=>L[i]?);rw[range_all]at this;exact this
 .generalize order.toList=l at inside
  induction l with
  |nil=>rfl
  |cons i l ih=>
   have hi:=inside i asC;have e5:(es.map (·.1))[i]?=some (hf (L[i]).2):=by rw[Array.getElem?_map,O2 h (asz hi)];rfl
   rw[List.filterMap_cons_some (asz hi),asy,asy,ih λj hj=>inside j (asB _ hj),Array.getD_eq_getD_getElem?,e5];rfl
theorem anc{o:Obj}(ho:s.heap.get? a=some o)(hex:o.ExactSet)(hd:o.data=.set es ep t)(he:es.toList=ents hf L)(hsz:t.place.size=es.size)(hdm:t.dummies=#[])(hfl:es.size<=t.mask)(nd:(L.map Prod.snd).Nodup)(ky:∀p∈L,RI s.heap p.2 p.1)(pl:t.plain=true)
  (ld:w.params.followText "set-order"=true\/t.led=true) (few:L.length<=76) {wanted M:Nat} (hw:SetTable.sizeAbove wanted-1=M) (hM:MaskOk M) (hw2:SetTable.sizeAbove wanted<=128) (hn:L.length*5<M*3) {Q:Unit->Shared->Prop}
  (q:∀h' K es' ep' t',Heap.SameBut a s.heap h'->rN hf w h' a K es' ep' t'->K.Perm L->Q () { s with heap:=h' }):wpAny (model P w) A (setRelay a wanted) Q E s:=by
 have len:=zN he;obtain⟨t',order,e,hp,T,em,el,epl,ed⟩:=relaid_ok t (hs:=es.map (·.1)) (wanted:=wanted) hw hM (by rw[Array.size_map,len];omega);rw[Array.size_map,len]at hp;obtain⟨K,k1,k2,k3⟩:=aeY he hp;rw[<-k3]at T;have ks:(order.filterMap (es[·]?)).size=es.size:=by rw[zN k1,k2.length_eq,len]
 rw[setRelay_eq];refine wpAny_bind (wpAny_setState_of ho hd (fits_of hsz hdm hfl) ?_)
 dsimp only
 refine wp_if_neg (by rw[sizeLine_eq];omega) ?_
 try refine wpAny_bind (wpAny_pure ?_)
 rw[e]
 dsimp only
 refine wpAny_bind ?_;refine wp_if_neg (by rw[ks];simp) ?_
 try refine wpAny_bind (wpAny_pure ?_)
 refine wpAny_pure ?_
 dsimp only
 refine wpAny_storeSet_of ho hd ?_ (by rw[ks,len,sizeLine_eq];omega);have sb:Heap.SameBut a s.heap (s.heap.update a (Obj.putSet (order.filterMap (es[·]?)) t')):=Heap.SameBut.update ..;refine q _ K (order.filterMap (es[·]?)) (ep+1) t' sb ⟨⟨_,store_at ho hd,⟨hex.1,hex.2.1,hex.2.2⟩,rfl⟩,k1,T,(k2.map Prod.snd).nodup_iff.mpr nd,λp hp=>YZ (ky p (k2.mem_iff.mp hp)) ho hd sb,by rw[epl];exact pl,by rw[el];exact ld,?_,by rw[k2.length_eq];exact few⟩ k2;rw[k2.length_eq,em];exact hn
theorem ajN(R:rN hf w s.heap a L es ep t){x:Addr}{r:Rw}(hx:RI s.heap r x)(hu:(pN P w).room A)(hfew:r∉L.map Prod.snd->L.length+1<=76){Q:Bool->Shared->Prop}
  (q:∀b h' K es' ep' t',Heap.SameBut a s.heap h'->rN hf w h' a K es' ep' t'->(r∈L.map Prod.snd->K=L)->(r∉L.map Prod.snd->K.Perm ((x,r)::L))->Q b { s with heap:=h' }):wpAny (model P w) A (setAddHashed a (.ref x) (hf r)) Q E s:=by
 obtain⟨o,ho,hex,hd⟩:=R.ob;have len:=zN R.en;have hfree:=R.free;unfold setAddHashed;refine wpAny_holding ?_;rw[show(100000:Nat)=99999+1 from rfl,setAddHashedIn_succ];refine wpAny_bind (wpAny_setState_of ho hd R.fits ?_)
 dsimp only
 refine wp_if_neg (by simp[byScan,Value.scannable]) ?_
 try refine wpAny_bind (wpAny_pure ?_)
 refine wpAny_bind (look R hx hu (λhm=>?_) λN hm out inn=>?_)
 .dsimp only
  exact wpAny_pure (q false s.heap L es ep t (Heap.SameBut.refl a s.heap) R (λ_=>rfl) λz=>absurd hm z)
 have few1:=hfew hm
 dsimp only
 refine wpAny_bind (wpAny_setState_of ho hd R.fits ?_)
 dsimp only
 obtain⟨q1,q2,q3,q4,q5,q6,q7,q8,q9⟩:=R.tab.put out inn;have pl1:(t.put (way t.mask (hf r) N)).1.plain=true:=by rw[q6];exact R.pl
 generalize hpt:t.put (way t.mask (hf r) N)=pt at q1 q3 q4 q5 q6 q7 q8 q9 pl1 |-
 obtain⟨t1,n⟩:=pt
 dsimp only at q1 q3 q4 q5 q6 q7 q8 q9 pl1 |-
 subst q1
 first
  |(refine wpAny_bind ?_;refine wp_if_pos pl1 ?_;refine(Jp hx).2 ?_)
  |refine wp_if_pos pl1 (wpAny_bind ((Jp hx).2 ?_))
 simp only[if_true];have ein:(SetTable.insertAt es (SetTable.below t.place (way t.mask (hf r) N)) (hf r,Value.ref x)).toList=ents hf (L.take (SetTable.below t.place (way t.mask (hf r) N))++(x,r)::L.drop (SetTable.below t.place (way t.mask (hf r) N))):=by rw[SetTable.toList_insertAt,agZ,R.en]
 generalize hnn:SetTable.below t.place (way t.mask (hf r) N)=n at q2 q3 ein |-
 have pm:=put_perm L n (x,r);have hs1:(L.take n++(x,r)::L.drop n).map (λp=>hf p.2)=(L.map λp=>hf p.2).take n++hf r::(L.map λp=>hf p.2).drop n:=by rw[as8,asy,List.map_take,List.map_drop]
 rw[<-hs1]at q3;have nd1:((L.take n++(x,r)::L.drop n).map Prod.snd).Nodup:=by refine(pm.map Prod.snd).nodup_iff.mpr ?_;rw[asy];exact atO.mpr ⟨hm,R.nd⟩
 have len1:(SetTable.insertAt es n (hf r,Value.ref x)).size=L.length+1:=by rw[zN ein,pm.length_eq];rfl
 generalize SetTable.insertAt es n (hf r,Value.ref x)=es1 at ein len1 |-
 have lenM:(L.take n++(x,r)::L.drop n).length=L.length+1:=pm.length_eq;generalize L.take n++(x,r)::L.drop n=M at pm q3 nd1 ein lenM;refine wpAny_bind (wpAny_storeSet_of ho hd ?_ (by rw[len1,sizeLine_eq];omega));have sb:Heap.SameBut a s.heap (s.heap.update a (Obj.putSet es1 t1)):=Heap.SameBut.update ..;have ho1:=store_at (es':=es1) (t':=t1) ho hd;generalize s.heap.update a (Obj.putSet es1 t1)=h1 at sb ho1 |-
 have ky1:∀p∈M,RI h1 p.2 p.1:=λp hp=>by
  rcases asN.mp (pm.mem_iff.mp hp) with e|m
  .rw[e];exact YZ hx ho hd sb
  .exact YZ (R.ky p m) ho hd sb
 have ld1:w.params.followText "set-order"=true\/t1.led=true:=by rw[q5];exact R.ld
 have full:t1.tooFull=true↔(L.length+1)*5 ≥ t1.mask*3:=by unfold SetTable.tooFull;rw[atY,q9,asK]
 by_cases hfu:t1.tooFull=true
 .first
   |(refine wpAny_bind ?_;refine wp_if_pos (by simp[hfu]) ?_)
   |(refine wp_if_pos (by simp[hfu]) ?_;refine wpAny_bind ?_)
  have over:=full.mp hfu;rw[len];have psz:t1.place.size=es1.size:=by have:=q3.sz;rw[asK,lenM]at this;rw[this,len1]
  have which:(t.mask=7/\L.length=4)\/(t.mask=31/\L.length=18):=by
   rcases R.tab.mok with e|e|e
   .rw[q4,e]at over;rw[e]at hfree;exact Or.inl ⟨e,by omega⟩
   .rw[q4,e]at over;rw[e]at hfree;exact Or.inr ⟨e,by omega⟩
   .rw[q4,e]at over;omega
  have go:∀m,SetTable.sizeAbove (SetTable.grown (L.length+1))-1=m->MaskOk m->SetTable.sizeAbove (SetTable.grown (L.length+1))<=128->(L.length+1)*5<m*3->
    wpAny (model P w) A (setRelay a (SetTable.grown (L.length+1))) (λ_ u=>wpAny (model P w) A (pure true) Q E u) E { s with heap:=h1 }:=λm g1 g2 g3 g4=>
   anc (s:={ s with heap:=h1 }) ho1 ⟨hex.1,hex.2.1,hex.2.2⟩ rfl ein psz q3.dm (by rw[len1,q4];rcases which with⟨e,e2⟩|⟨e,e2⟩<;>omega) nd1 ky1 pl1 ld1 (by rw[lenM];exact few1) g1 g2 g3 (by rw[lenM];exact g4)
    λh2 K es2 ep2 t2 sb2 R2 pm2=>wpAny_pure (q true h2 K es2 ep2 t2 (sb.trans sb2) R2 (λz=>absurd z hm) λ_=>pm2.trans pm)
  rcases which with⟨_,e2⟩|⟨_,e2⟩
  .exact go 31 (by rw[e2,size_20]) (.inr (.inl rfl)) (by rw[e2,size_20];decide) (by omega)
  .exact go 127 (by rw[e2,size_76]) (.inr (.inr rfl)) (by rw[e2,size_76];decide) (by omega)
 .first
   |refine wp_if_neg (by simp[hfu]) ?_
   |(refine wpAny_bind ?_;refine wp_if_neg (by simp[hfu]) ?_;refine wpAny_pure ?_)
  have under:¬(L.length+1)*5 ≥ t1.mask*3:=λz=>hfu (full.mpr z);exact wpAny_pure (q true h1 M es1 (ep+1) t1 sb ⟨⟨_,ho1,⟨hex.1,hex.2.1,hex.2.2⟩,rfl⟩,ein,q3,nd1,ky1,pl1,ld1,by rw[lenM];omega,by rw[lenM];exact few1⟩ (λz=>absurd z hm) λ_=>pm)
end
theorem Ek{α:Type}[DecidableEq α]:∀(l D:List α),l.Nodup->(∀x∈l,x∈D)->l.length<=D.length
 |[],_,_,_=>atk _
 |x::l,D,hn,hs=>by
  obtain⟨h1,h2⟩:=atO.mp hn;have mx:=hs x asC;have ih:=Ek l (D.erase x) h2 λy hy=>(List.mem_erase_of_ne (λe=>h1 (by rw[<-e];exact hy))).2 (hs y (asB _ hy));have e:=List.length_erase_of_mem mx;have hp:=List.length_pos_of_mem mx;rw[asQ];omega
structure Has(ks:List Ent)(i:Nat)(L:List Ent):Prop where
 sub:∀p∈L,p∈ks.take i
 all:∀p∈ks.take i,p.2∈L.map Prod.snd
theorem Fw{α:Type}{l:List α}{i:Nat}{x:α}(h:l[i]?=some x):l.take (i+1)=l.take i++[x]:=by rw[List.take_add_one,h];rfl
theorem Has.next{ks L K:List Ent}{i:Nat}{x:Ent}(g:Has ks i L)(h:ks[i]?=some x)(h1:x.2∈L.map Prod.snd->K=L)(h2:x.2∉L.map Prod.snd->K.Perm (x::L)):Has ks (i+1) K:=by
 by_cases c:x.2∈L.map Prod.snd
 .rw[h1 c];refine⟨λp hp=>?_,λp hp=>?_⟩
  .rw[Fw h];exact atf _ (g.sub p hp)
  .rw[Fw h]at hp;rcases asR.mp hp with m|m
   .exact g.all p m
   .rw[asF.mp m];exact c
 .have pm:=h2 c;refine⟨λp hp=>?_,λp hp=>?_⟩
  .rw[Fw h];rcases asN.mp (pm.mem_iff.mp hp) with e|m
   .exact atD _ (asF.mpr e)
   .exact atf _ (g.sub p m)
  .rw[(pm.map Prod.snd).mem_iff,asy];rw[Fw h]at hp;rcases asR.mp hp with m|m
   .exact asB _ (g.all p m)
   .rw[asF.mp m];exact asC
def Ab(w:World):Obj:={ cls:=.type "set",dict:=none,data:=.set #[] 0 (.fresh 0 0 (!w.params.followText "set-order")) }
section
variable{P:Program}{w:World}{A:Around}{E:Value->Shared->Prop}{s:Shared}{hf:Rw->Int}
theorem rN.stay{h h':Heap}{a:Addr}{L:List Ent}{es:Array (Int×Value)}{ep:Nat}{t:SetTable}(R:rN hf w h a L es ep t)(ha:∀o,h.get? a=some o->h'.get? a=some o)(hk:∀p∈L,RI h' p.2 p.1):rN hf w h' a L es ep t:=by obtain⟨o,ho,r⟩:=R.ob;exact⟨⟨o,ha o ho,r⟩,R.en,R.tab,R.nd,hk,R.pl,R.ld,R.free,R.few⟩
theorem ags{h:Heap}{a:Addr}(ho:h.get? a=some (Ab w)):rN hf w h a [] #[] 0 (.fresh 0 0 (!w.params.followText "set-order")):=by
 refine⟨⟨_,ho,⟨rfl,rfl,rfl⟩,rfl⟩,rfl,⟨List.Pairwise.nil,rfl,rfl,.inl rfl,λx hx=>(by cases hx),λi h j hi=>(by simp at hi)⟩,List.nodup_nil,λp hp=>(by cases hp),rfl,?_,(show 0*5<7*3 by decide),atk _⟩;show _\/(!w.params.followText "set-order")=true
 cases w.params.followText "set-order"
 .exact .inr rfl
 .exact .inl rfl
theorem aie(hhf:∀r,(pN P w).hash r=hf r){I:Addr}{fp wr:List Addr}{G:Array GenState->Array GenState->Prop}{n:Nat}{Pv:Nat->Value->Prop}{St:Nat->Shared->Prop}{R:Result->Shared->Prop}(W:WalksS P w A.in1 I fp wr G n Pv St)(S:Addr)(hSf:S∉fp)(ks:List Ent)(hn:n=ks.length)
  (D:List Rw) (hD:D.length<=76) (hkD:∀p∈ks,p.2∈D) (hval:∀i v,Pv i v->∃p,ks[i]?=some p/\v=.ref p.1) (h0:Heap) (hk:∀p∈ks,RI h0 p.2 p.1) (hS0:h0.get? S=none) (hw0:∀b∈wr,h0.get? b=none) (hu:(pN P w).room A.in1) :
  ∀(m i:Nat) (s:Shared),n-i=m->i<=n->St i s->(∀b o,h0.get? b=some o->s.heap.get? b=some o)->(∃L es ep t,rN hf w s.heap S L es ep t/\Has ks i L)->
   (∀u L es ep t,Moved (S::wr) G s u->rN hf w u.heap S L es ep t->Has ks n L->(∀b o,h0.get? b=some o->u.heap.get? b=some o)->R (.ok (.ret .none)) u)->
   codeAny (model P w) A (.builtin "set.update.loop" ⟨[.ref S,.ref I],[]⟩) R s:=by
 have Sw:S∉wr:=λh=>hSf (W.sub _ h);have wS:∀b∈wr,b∈S::wr:=λb hb=>asB _ hb;have old:∀{s u:Shared},Moved wr G s u->(∀b o,h0.get? b=some o->s.heap.get? b=some o)->∀b o,h0.get? b=some o->u.heap.get? b=some o:=λhm hkp b o e=>hm.heap b o (λhb=>by rw[hw0 b hb]at e;cases e) (hkp b o e);intro m
 induction m with
 |zero=>
  intro i s hm0 hi hst hkp ⟨L,es,ep,t,hS,g⟩ hR
  obtain rfl:i=n:=by omega
  refine codeAny_builtin PyProof.Rows.F.entry_set_update_loop ?_;rw[Around.under_plainId PyProof.Rows.F.plain_set_update_loop _];refine wpAny_bind (W.done s _ _ hst λu hm=>?_);have kept:=old hm hkp;exact wpAny_pure (hR u L es ep t (hm.mono wS) (hS.stay (λo e=>hm.heap S o Sw e) λp hp=>Vh (hk p (atn (g.sub p hp))) kept) g kept)
 |succ m ih=>
  intro i s hm0 hi hst hkp ⟨L,es,ep,t,hS,g⟩ hR;have hlt:i<n:=by omega
  refine codeAny_builtin PyProof.Rows.F.entry_set_update_loop ?_;rw[Around.under_plainId PyProof.Rows.F.plain_set_update_loop _];refine wpAny_bind (W.item i s _ _ hlt hst λv u hP hst' hm=>?_);obtain⟨p,hp,rfl⟩:=hval i v hP;have kept:=old hm hkp;have hS':rN hf w u.heap S L es ep t:=hS.stay (λo e=>hm.heap S o Sw e) λq hq=>Vh (hk q (atn (g.sub q hq))) kept;have hx:RI u.heap p.2 p.1:=Vh (hk p (asH hp)) kept;refine wpAny_bind (wpAny_holding ?_);unfold setAdd;refine wpAny_holding ?_;refine wpAny_bind ((pN P w).pyHash hu hx ?_);rw[hhf];have inD:∀y∈L.map Prod.snd,y∈D:=λy hy=>by
   obtain⟨q,hq,e⟩:=asJ.mp hy;rw[<-e];exact hkD q (atn (g.sub q hq))
  refine ajN (s:={ u with toks:=u.toks+(pN P w).draws p.2 }) hS' hx hu (λhnew=>?_) λb h' K es' ep' t' sb hS2 c1 c2=>?_
  .have:=Ek (p.2::L.map Prod.snd) D (atO.mpr ⟨hnew,hS.nd⟩) λy hy=>by
    rcases asN.mp hy with e|hy
    .rw[e];exact hkD p (asH hp)
    .exact inD y hy
   rw[asQ,asK]at this;omega
  have kept2:∀b o,h0.get? b=some o->h'.get? b=some o:=λb o e=>(sb.2 b (λz=>by rw[z,hS0]at e;cases e)).trans (kept b o e);refine wpAny_pure ⟨plainId_quiet PyProof.Rows.F.plain_set_update_loop _,ih (i+1) _ (by omega) hlt (W.frame _ u _ _ hst' (Nat.le_add_right _ _) λb hb o e=>?_) kept2 ⟨K,es',ep',t',hS2,g.next hp c1 c2⟩ λv L2 es2 ep2 t2 hm2 hS3 g3 k3=>?_⟩
  .rw[sb.2 b (λh:b=S=>hSf (by rw[<-h];exact hb))];exact e
  .refine hR v L2 es2 ep2 t2 (Moved.trans W.gtrans ((hm.mono wS).then_heap (Nat.le_add_right _ _) λb o hb e=>?_) hm2) hS3 g3 k3;rw[sb.2 b (λh:b=S=>hb (by rw[h];exact asC))];exact e
set_option maxHeartbeats 4000000 in
theorem aaY(hhf:∀r,(pN P w).hash r=hf r){l:Addr}{items:Array Value}(ks:List Ent)(D:List Rw)(hD:D.length<=76)(hkD:∀p∈ks,p.2∈D){Q:Value->Shared->Prop}(hh:A.handled=none)(hl:s.heap.IsList l items)(hit:items.toList=ks.map λp=>Value.ref p.1)
  (hk:∀p∈ks,RI s.heap p.2 p.1) (hu:A.units+3+8<cLine)
  (h:∀(h':Heap) (tk:Nat) L es ep t,rN hf w h' s.heap.objs.size L es ep t->Has ks ks.length L->(∀b o,s.heap.get? b=some o->h'.get? b=some o)->Q (.ref s.heap.objs.size) { s with heap:=h',toks:=tk }) :
  wpAny (model P w) A (call (.type "set") [.ref l]) Q E s:=by
 have isz:items.size=ks.length:=by rw[<-ath,hit,asK]
 obtain⟨cc,tl,hmro⟩:=PySem.F.called_set.mro;have hmade:=PySem.F.called_set.made;have hsub:=PySem.F.called_set.sub;refine wpAny_call (codeAny_of_tree ?_);show wpAny _ _ (callAny (.type "set") _) _ _ _
 refine wpAny_pure ⟨Code.quiet_builtin _ (by decide +kernel),codeAny_builtin PySem.F.entry_type_call ?_⟩;rw[Around.under_plain (weight_type_call_type "set" [.ref l] []) rfl]
 have nt:=PySem.F.called_set.notType;have cr:=PySem.F.called_set.canCreate;have hct:=PySem.F.typeCall_set_1 (.ref l)
 (repeat (any_goals first | assumption | wp_step))
 refine codeAny_mono (code_set_led1 (.ref l) (E:=E) (Q₁:=λv u=>v=.ref s.heap.objs.size/\u={ s with heap:=s.heap.push (Ab w) }) ⟨rfl,rfl⟩) λr u hr=>?_;cases r with
 |error e=>exact hr
 |ok fl=>
  cases fl with
  |ret v=>
   obtain⟨rfl,rfl⟩:=hr;have hS:(s.heap.push (Ab w)).get? s.heap.objs.size=some (Ab w):=Heap.get?_push_size _ rfl;have hT:Shared.TypeIs { s with heap:=s.heap.push (Ab w) } (.ref s.heap.objs.size) "set":=⟨_,hS,rfl⟩
   have hli:=PySem.F.called_set.init.lookup;have hbi:=PySem.F.called_set.init.bind (.ref s.heap.objs.size)
   (repeat (any_goals first | assumption | wp_step))
   refine codeAny_mono (codeAny_call_builtin (R:=wants (λr u=>r=.none/\∃h' tk L es ep t,u={ s with heap:=h',toks:=tk }/\rN hf w h' s.heap.objs.size L es ep t/\Has ks ks.length L/\∀b o,s.heap.get? b=some o->h'.get? b=some o) E) PySem.F.called_set.init.plain PySem.F.entry_set_init (check_set_init_1 hT ?_)) λr₂ u₂ hr₂=>?_
   .obtain⟨ol,hol,hcl,nl,hdl⟩:=hl;obtain⟨ocls,odict,odata,oslots⟩:=ol;simp only at hcl hdl;subst hcl;subst hdl;have hol':(s.heap.push (Ab w)).get? l=some { cls:=.type "list",dict:=odict,data:=.seq items nl,slots:=oslots }:=Heap.get?_push_of_some _ hol
    have sl1:=PySem.F.sub_list_set;have sl2:=PySem.F.sub_list_frozenset;have nd:(Value.type "list"==Value.type "dict")=false:=by decide
    have hl1:(s.heap.push (Ab w)).IsList l items:=⟨_,hol',rfl,nl,rfl⟩;unfold Builtin.«set.__init__» noKeywords Builtin.Frozenset.updateFrom;generalize hPI:pyIter=PI
    wp_walk
    subst hPI;refine wpAny_pyIter_list hl1 ?_;refine wpAny_bind (wpAny_runValue ?_);have lS:l<s.heap.objs.size:=Heap.lt_size hol;have h3:A.in1.in1.in1.handled=none:=by simp[hh]
    have sz1:(s.heap.push (Ab w)).objs.size=s.heap.objs.size+1:=Heap.size_push ..;have lI:l≠(s.heap.push (Ab w)).objs.size:=by rw[sz1];exact atg (atE lS)
    have Sf:s.heap.objs.size∉[(s.heap.push (Ab w)).objs.size,l]:=by rw[sz1];simp only[asN,ate,or_false,not_or];exact⟨atg (Nat.lt_succ_self _),Nat.ne_of_gt lS⟩
    have hval:∀(i:Nat) (v:Value),items[i]?=some v->∃p,ks[i]?=some p/\v=.ref p.1:=λi v hv=>by
     rw[<-atl,hit,asS]at hv;obtain⟨p,g1,g2⟩:=atr.mp hv;exact⟨p,g1,g2.symm⟩
    have fresh:∀b,s.heap.objs.size<=b->s.heap.get? b=none:=λb hb=>by
     cases q:s.heap.get? b with
     |none=>rfl
     |some o=>exact absurd (Heap.lt_size q) (Nat.not_lt_of_le hb)
    refine aie hhf ((Walks.list h3 _ l lI items).toS) s.heap.objs.size Sf ks isz D hD hkD hval s.heap hk (fresh _ (as6 _)) (λb hb=>fresh b (by rw[asF.mp hb,sz1];exact Nat.le_succ _)) hu (items.size-0) 0 _ (by omega) (atk _)
     ⟨⟨_,Heap.get?_push_size _ rfl,rfl,rfl⟩,(hl1.push _)⟩ (λb o e=>Heap.get?_push_of_some _ (Heap.get?_push_of_some _ e)) ⟨[],#[],0,_,ags (Heap.get?_push_of_some _ hS),⟨λp hp=>(by cases hp),λp hp=>(by simp at hp)⟩⟩ λu L es ep t hm hS' g' kp=>?_
    obtain⟨h',g2,d',tk',os'⟩:=u;have eg:g2=s.gens:=hm.gens;have ed:d'=s.drawn:=hm.drawn;have eo:os'=s.os:=hm.os;subst eg;subst ed;subst eo;refine wpAny_pure ?_;rw[isz]at g';exact wpAny_pure ⟨rfl,h',tk',L,es,ep,t,rfl,hS',g',kp⟩
   .cases r₂ with
    |error e=>exact hr₂
    |ok fl₂=>
     cases fl₂ with
     |ret r=>
      obtain⟨rfl,h',tk,L,es,ep,t,rfl,hS',g',hk'⟩:=hr₂
      (repeat (any_goals first | assumption | wp_step))
      exact h _ _ _ _ _ _ hS' g' hk'
     |_=>exact hr₂.elim
  |_=>exact hr.elim
end
def adq(w:World)(h:Heap)(a:Addr)(L:List Ent):Prop:=∃(hf:Rw->Int) (es:Array (Int×Value)) (ep:Nat) (t:SetTable),(∃o,h.get? a=some o/\o.ExactSet/\o.data=.set es ep t)/\es.toList=ents hf L/\t.fits es.size=true/\Ris t.place.toList/\(w.params.followText "set-order"=true\/t.led=true)
def Ox(w:World)(a:Addr)(L:List Ent):HO:=.ext λh=>adq w h a L
section
variable{X:Cx}
theorem WW{P:Program}{w:World}{h:Heap}:∀(l:List Int) (us:List Value),Vals (l.map V.int) us->NestedAll h (l.map .num) us
 |[],_,.nil=>.nil
 |i::l,_,.cons r t=>by
  obtain⟨tk,rfl⟩:=r;exact .cons (.int i tk) (WW (P:=P) (w:=w) l _ t)
theorem WM:∀{ks:List Ent} {us:List Value},Vals (ks.map λp=>V.ref p.1) us->us=ks.map λp=>Value.ref p.1
 |[],_,.nil=>rfl
 |p::ks,_,.cons r t=>by
  cases r;rw[WM t];rfl
theorem Xd{L:List Ent}:∀(out:List Value) (M:List Rw),PySem.W.EachIs (λv (r:Rw)=>∃p∈L,v=Value.ref p.1/\r=p.2) out M->∃ys:List V,Vals ys out/\fY (λv (r:Rw)=>∃p∈L,v=V.ref p.1/\r=p.2) ys M
 |[],[],.nil=>⟨[],.nil,fY.nil⟩
 |_::out,_::M,.cons ⟨p,hp,e1,e2⟩ k=>by
  obtain⟨ys,h1,h2⟩:=Xd out M k;subst e1 e2;refine⟨.ref p.1::ys,.cons rfl h1,by rw[asQ,asQ,h2.1],λj u y g1 g2=>?_⟩;cases j with
  |zero=>
   cases g1;cases g2;exact⟨p,hp,rfl,rfl⟩
  |succ j=>exact h2.2 j u y g1 g2
end
def gF(da dc:Addr):List (Str×V):=putF ("circles" : Str) (.ref dc) (putF ("allowances" : Str) (.ref da) [])
structure af9(C:Addr)(H:Hp)(p da dc:Addr)(al:List Int)(ci:List (List Int)):Prop where
 ob:∃dx,H p=some (.ins C dx (gF da dc))
 la:H da=some (.lst (al.map V.int))
 lc:∃us,H dc=some (.lst us)/\fY (Jv H) us ci
 ne:da≠dc
theorem af9.mono{C:Addr}{H H':Hp}(e:Ex H H'){p da dc:Addr}{al:List Int}{ci:List (List Int)}(g:af9 C H p da dc al ci):af9 C H' p da dc al ci:=by obtain⟨⟨dx,ob⟩,la,⟨us,h1,h2⟩,ne⟩:=g;exact⟨⟨dx,e _ _ ob⟩,e _ _ la,⟨us,e _ _ h1,h2.imp λ_ _ r=>r.mono e⟩,ne⟩
end Ear
namespace Rf
open PySem PySem.Spec PyProof.Rows L2 Evl
abbrev obj(h:Nat):Dat:=PyData.dict [(PyData.none,PyData.int (Int.ofNat h))]
inductive jB where
 |dat (d:Dat)|lst (n:Nat) (xs:List Dat)|dic (n:Bool) (kvs:List (Dat×Dat))
structure aQ where
 f:Str->Option Addr
 fl:Str->List Str
 w:World
instance:CoeFun aQ λ_=>Str->Option Addr:=⟨aQ.f⟩
structure Inst where
 cls:Str
 fs:List (Str×jB)
abbrev Mo:=List Inst
inductive Cell where
 |dat (d:Dat)|mut (xs:List Dat)
abbrev Env:=List (Option Cell)
structure dX where
 cls:Str
 fs:List (Str×Dat)
inductive Out(α:Type) where
 |ok (a:α)|exc (x:dX)|bad
inductive bx(α:Type) where
 |ok (a:α) (M:Mo)|exc (x:dX) (M:Mo)|bad
inductive v8 where
 |next (Z:Env) (M:Mo)|ret (d:Dat) (M:Mo)|brk (Z:Env) (M:Mo)|cont (Z:Env) (M:Mo)|exc (x:dX) (Z:Env) (M:Mo)|bad
structure Gh where
 tbl:List Addr
 ow:Addr->Option (Nat×Str)
 Lc:Addr->Prop
 Lo:Addr->Prop
 kl:Prop
abbrev Gh.tk(g:Gh):List Addr×Prop:=(g.tbl,g.kl)
theorem Gh.MJ{g g':Gh}(e:g'.tk=g.tk):g'.tbl=g.tbl:=congrArg Prod.fst e
theorem Gh.kl1{g g':Gh}(e:g'.tk=g.tk):g'.kl=g.kl:=congrArg Prod.snd e
def Gh.W(g:Gh)(a:Addr):Prop:=a∈g.tbl\/g.ow a≠none
def Gh.A(g:Gh)(a:Addr):Prop:=g.W a\/g.Lc a\/g.Lo a
def JF:HO->Prop
 |.tup _=>False
 |.frz _ _=>False
 |_=>True
def aod(K:asv)(a:Addr)(xs:List V):Prop:=∃(o:Obj) (its:Array Value) (n:Nat),K.lookup a=some o/\o.cls=.type "list"/\o.dict=none/\o.data=.seq its n/\its.size<=sizeLine/\Vals xs its.toList
def QK(K:asv)(g:Gh)(H:Hp)(a:Addr)(xs:List V):Prop:=(H a=some (.lst xs)/\¬g.A a)\/(g.kl/\((Rd H a (.lst xs)/\¬g.A a)\/aod K a xs))
theorem QK.sq{K:asv}{g:Gh}{H:Hp}{a:Addr}{xs:List V}(h:QK K g H a xs):SqL K H a xs:=h.elim (λz=>.inl (.inl z.1)) λz=>z.2.elim (λz=>.inl z.1) .inr
mutual
inductive Rep(K:asv)(g:Gh)(H:Hp):V->Dat->Prop
 |non:Rep K g H .non .none
 |bl (b:Bool):Rep K g H (.bl b) (.bool b)
 |int (i:Int):Rep K g H (.int i) (.int i)
 |str (x:Str):Rep K g H (.str x) (.str x)
 |tup {a:Addr} {xs:List V} {ds:List Dat}:SqT K H a xs->aJ K g H xs ds->Rep K g H (.ref a) (.tuple ds)
 |lst {a:Addr} {xs:List V} {ds:List Dat}:QK K g H a xs->aJ K g H xs ds->Rep K g H (.ref a) (.list ds)
 |obj {a:Addr} {h:Nat}:g.tbl[h]?=some a->Rep K g H (.ref a) (obj h)
inductive aJ(K:asv)(g:Gh)(H:Hp):List V->List Dat->Prop
 |nil:aJ K g H [] []
 |cons {v:V} {vs:List V} {d:Dat} {ds:List Dat}:Rep K g H v d->aJ K g H vs ds->aJ K g H (v::vs) (d::ds)
end
structure Kd(g:Gh)(H:Hp):Prop where
 ob:∀a,g.A a->∃o,H a=some o/\JF o
 lo:∀a,g.Lo a->¬g.W a
 lc:∀a,g.Lc a->¬g.W a/\¬g.Lo a
structure Gr(q:Bool)(g g':Gh)(H H':Hp):Prop where
 keep:∀a o,H a=some o->¬g.W a->¬g.Lo a->H' a=some o
 keepW:q=true->∀a o,H a=some o->g.W a->H' a=some o
 dom:∀a,H' a=none->H a=none
 tbl:∃more,g'.tbl=g.tbl++more
 W:∀a,g.W a->g'.W a
 nW:∀a,g'.W a->g.W a\/H a=none
 qg:q=true->g'.tk=g.tk/\g'.ow=g.ow
 Lc:g'.Lc=g.Lc
 Lo:∀a,g.Lo a->g'.Lo a
 nLo:∀a,g'.Lo a->g.Lo a\/H a=none
 kl:g'.kl=g.kl
section
variable{K:asv}{q:Bool}{g g' g2:Gh}{H H' H2:Hp}{v:V}{d:Dat}
theorem Gr.refl:Gr q g g H H:=⟨λ_ _ h _ _=>h,λ_ _ _ h _=>h,λ_ h=>h,⟨[],by simp⟩,λ_ h=>h,λ_ h=>.inl h,λ_=>⟨rfl,rfl⟩,rfl,λ_ h=>h,λ_ h=>.inl h,rfl⟩
theorem Fd(e:Ex H H'):∀a,H' a=none->H a=none:=λa h=>by
 cases h1:H a with
 |none=>rfl
 |some o=>
  rw[e a o h1]at h;cases h
theorem Gr.ex(e:Ex H H'):Gr q g g H H':=⟨λa o h _ _=>e a o h,λ_ a o h _=>e a o h,Fd e,⟨[],by simp⟩,λ_ h=>h,λ_ h=>.inl h,λ_=>⟨rfl,rfl⟩,rfl,λ_ h=>h,λ_ h=>.inl h,rfl⟩
theorem Gr.trans(a:Gr q g g' H H')(b:Gr q g' g2 H' H2):Gr q g g2 H H2 where
 keep:=λx o h nw nl=>by
  have h1:=a.keep x o h nw nl;refine b.keep x o h1 (λz=>?_) (λz=>?_)
  .rcases a.nW x z with z|z
   .exact nw z
   .rw[h]at z;cases z
  .rcases a.nLo x z with z|z
   .exact nl z
   .rw[h]at z;cases z
 keepW:=λhq x o h w=>b.keepW hq x o (a.keepW hq x o h w) (a.W x w)
 dom:=λx h=>a.dom x (b.dom x h)
 tbl:=by obtain⟨m1,e1⟩:=a.tbl;obtain⟨m2,e2⟩:=b.tbl;exact⟨m1++m2,by rw[e2,e1,List.append_assoc]⟩
 W:=λx h=>b.W x (a.W x h)
 nW:=λx h=>by
  rcases b.nW x h with z|z
  .exact a.nW x z
  .exact .inr (a.dom x z)
 qg:=λhq=>by
  obtain⟨e1,e2⟩:=a.qg hq;obtain⟨f1,f2⟩:=b.qg hq;exact⟨f1.trans e1,f2.trans e2⟩
 Lc:=b.Lc.trans a.Lc
 Lo:=λx h=>b.Lo x (a.Lo x h)
 nLo:=λx h=>by
  rcases b.nLo x h with z|z
  .exact a.nLo x z
  .exact .inr (a.dom x z)
 kl:=b.kl.trans a.kl
theorem Gr.loud(a:Gr q g g' H H'):Gr false g g' H H':=⟨a.keep,(λh=>nomatch h),a.dom,a.tbl,a.W,a.nW,(λh=>nomatch h),a.Lc,a.Lo,a.nLo,a.kl⟩
theorem Gr.nA(r:Gr q g g' H H'){a:Addr}{o:HO}(h:H a=some o)(n:¬g.A a):¬g'.A a:=λz=>by
 rcases z with z|z|z
 .rcases r.nW a z with z|z
  .exact n (.inl z)
  .rw[h]at z;cases z
 .rw[r.Lc]at z;exact n (.inr (.inl z))
 .rcases r.nLo a z with z|z
  .exact n (.inr (.inr z))
  .rw[h]at z;cases z
theorem Gr.rd(r:Gr q g g' H H'){a:Addr}{o:HO}(h:Rd H a o)(n:¬g.A a):Rd H' a o/\¬g'.A a:=by
 rcases h with h|⟨z,h⟩
 .exact⟨.inl (r.keep a _ h (λw=>n (.inl w)) λw=>n (.inr (.inr w))),r.nA h n⟩
 .exact⟨.inr ⟨z,r.keep a _ h (λw=>n (.inl w)) λw=>n (.inr (.inr w))⟩,r.nA h n⟩
theorem Kd.tup(k:Kd g H){a:Addr}{xs:List V}(h:Rd H a (.tup xs)):¬g.A a:=λz=>by
 obtain⟨o,e,m⟩:=k.ob a z;rcases h with h|⟨y,h⟩<;>(rw[h]at e;cases e;exact m)
theorem Gr.sqT(r:Gr q g g' H H')(k:Kd g H){a:Addr}{xs:List V}(h:SqT K H a xs):SqT K H' a xs:=by
 rcases h with h|h
 .exact .inl (r.rd h (k.tup h)).1
 .exact .inr h
theorem Gr.ls(r:Gr q g g' H H'){a:Addr}{xs:List V}(h:QK K g H a xs):QK K g' H' a xs:=by
 rcases h with⟨h,n⟩|⟨hk,h⟩
 .exact .inl ⟨r.keep a _ h (λw=>n (.inl w)) λw=>n (.inr (.inr w)),r.nA h n⟩
 .rw[<-r.kl]at hk;exact .inr ⟨hk,h.elim (λ⟨h,n⟩=>.inl (r.rd h n)) .inr⟩
theorem Gr.tb(r:Gr q g g' H H'){h:Nat}{a:Addr}(e:g.tbl[h]?=some a):g'.tbl[h]?=some a:=by obtain⟨m,em⟩:=r.tbl;rw[em,asM (asx.mp e).1];exact e
mutual
theorem Rep.gr(r:Gr q g g' H H')(k:Kd g H):∀{v:V} {d:Dat},Rep K g H v d->Rep K g' H' v d
 |_,_,.non=>.non
 |_,_,.bl b=>.bl b
 |_,_,.int i=>.int i
 |_,_,.str x=>.str x
 |_,_,.tup h t=>.tup (r.sqT k h) (aJ.gr r k t)
 |_,_,.lst h t=>.lst (r.ls h) (aJ.gr r k t)
 |_,_,.obj h=>.obj (r.tb h)
theorem aJ.gr(r:Gr q g g' H H')(k:Kd g H):∀{vs:List V} {ds:List Dat},aJ K g H vs ds->aJ K g' H' vs ds
 |_,_,.nil=>.nil
 |_,_,.cons h t=>.cons (Rep.gr r k h) (aJ.gr r k t)
end
mutual
theorem Rep.less(e:g'.tk=g.tk)(n:∀a,g'.A a->g.A a):∀{v:V} {d:Dat},Rep K g H v d->Rep K g' H v d
 |_,_,.non=>.non
 |_,_,.bl b=>.bl b
 |_,_,.int i=>.int i
 |_,_,.str x=>.str x
 |_,_,.tup h t=>.tup h (aJ.less e n t)
 |_,_,.lst h t=>.lst (h.elim (λz=>.inl ⟨z.1,λy=>z.2 (n _ y)⟩) λz=>.inr ⟨by rw[Gh.kl1 e];exact z.1,z.2.elim (λz=>.inl ⟨z.1,λy=>z.2 (n _ y)⟩) .inr⟩) (aJ.less e n t)
 |_,_,.obj h=>.obj (by rw[Gh.MJ e];exact h)
theorem aJ.less(e:g'.tk=g.tk)(n:∀a,g'.A a->g.A a):∀{vs:List V} {ds:List Dat},aJ K g H vs ds->aJ K g' H vs ds
 |_,_,.nil=>.nil
 |_,_,.cons h t=>.cons (Rep.less e n h) (aJ.less e n t)
end
mutual
def lf:Dat->Bool
 |.list _=>false
 |.tuple ds=>lfs ds
 |.dict _=>true
 |.none=>true
 |.bool _=>true
 |.int _=>true
 |.str _=>true
def lfs:List Dat->Bool
 |[]=>true
 |d::ds=>lf d&&lfs ds
end
mutual
theorem Rep.free(e:g'.tbl=g.tbl):∀{v:V} {d:Dat},lf d=true->Rep K g H v d->Rep K g' H v d
 |_,_,_,.non=>.non
 |_,_,_,.bl b=>.bl b
 |_,_,_,.int i=>.int i
 |_,_,_,.str x=>.str x
 |_,_,f,.tup h t=>.tup h (aJ.free e (by rw[lf]at f;exact f) t)
 |_,_,f,.lst h t=>by rw[lf]at f;cases f
 |_,_,_,.obj h=>.obj (by rw[e];exact h)
theorem aJ.free(e:g'.tbl=g.tbl):∀{vs:List V} {ds:List Dat},lfs ds=true->aJ K g H vs ds->aJ K g' H vs ds
 |_,_,_,.nil=>.nil
 |_,_,f,.cons h t=>.cons (Rep.free e (by rw[lfs,asw]at f;exact f.1) h) (aJ.free e (by rw[lfs,asw]at f;exact f.2) t)
end
theorem aJ.length:∀{vs:List V} {ds:List Dat},aJ K g H vs ds->vs.length=ds.length
 |_,_,.nil=>rfl
 |_,_,.cons _ t=>congrArg (· + 1) t.length
theorem aJ.get:∀{vs:List V} {ds:List Dat} {i:Nat} {d:Dat},aJ K g H vs ds->ds[i]?=some d->∃v,vs[i]?=some v/\Rep K g H v d
 |_,_,_,_,.nil,e=>by simp at e
 |_,_,0,_,.cons h _,e=>by simp at e;subst e;exact⟨_,rfl,h⟩
 |_,_,i+1,_,.cons _ t,e=>by simpa using t.get (i:=i) (by simpa using e)
theorem aJ.get':∀{vs:List V} {ds:List Dat} {i:Nat} {v:V},aJ K g H vs ds->vs[i]?=some v->∃d,ds[i]?=some d/\Rep K g H v d
 |_,_,_,_,.nil,e=>by simp at e
 |_,_,0,_,.cons h _,e=>by simp at e;subst e;exact⟨_,rfl,h⟩
 |_,_,i+1,_,.cons _ t,e=>by simpa using t.get' (i:=i) (by simpa using e)
theorem aJ.append:∀{vs ws:List V} {ds es:List Dat},aJ K g H vs ds->aJ K g H ws es->aJ K g H (vs++ws) (ds++es)
 |_,_,_,_,.nil,t=>t
 |_,_,_,_,.cons h r,t=>.cons h (r.append t)
theorem aJ.take:∀{vs:List V} {ds:List Dat} (n:Nat),aJ K g H vs ds->aJ K g H (vs.take n) (ds.take n)
 |_,_,0,_=>.nil
 |_,_,_+1,.nil=>.nil
 |_,_,n+1,.cons h t=>.cons h (t.take n)
theorem aJ.drop:∀{vs:List V} {ds:List Dat} (n:Nat),aJ K g H vs ds->aJ K g H (vs.drop n) (ds.drop n)
 |_,_,0,t=>t
 |_,_,_+1,.nil=>.nil
 |_,_,n+1,.cons _ t=>t.drop n
theorem aJ.set{v:V}{d:Dat}(r:Rep K g H v d):∀{vs:List V} {ds:List Dat} (i:Nat),aJ K g H vs ds->aJ K g H (vs.set i v) (ds.set i d)
 |_,_,_,.nil=>.nil
 |_,_,0,.cons _ t=>.cons r t
 |_,_,i+1,.cons h t=>.cons h (t.set r i)
theorem Gr.upd{l:Addr}{o o':HO}(k:Kd g H)(h:H l=some o)(w:(g.W l/\q=false)\/g.Lo l):Gr q g g H (L2.upd H l o') where
 keep:=λa u e nw nl=>by
  rw[upd_ne (λz=>by subst z;exact w.elim (λw=>nw w.1) nl)];exact e
 keepW:=λhq a u e wa=>by
  rcases w with w|w
  .rw[hq]at w;cases w.2
  .rw[upd_ne (λz=>by subst z;exact k.lo _ w wa)];exact e
 dom:=λa e=>by
  by_cases z:a=l
  .subst z;rw[at7]at e;cases e
  .rw[upd_ne z]at e;exact e
 tbl:=⟨[],by simp⟩
 W:=λ_ h=>h
 nW:=λ_ h=>.inl h
 qg:=λ_=>⟨rfl,rfl⟩
 Lc:=rfl
 Lo:=λ_ h=>h
 nLo:=λ_ h=>.inl h
 kl:=rfl
theorem Kd.ex(k:Kd g H)(e:Ex H H'):Kd g H':=⟨λa z=>let⟨o,h,m⟩:=k.ob a z;⟨o,e a o h,m⟩,k.lo,k.lc⟩
theorem Kd.upd(k:Kd g H){l:Addr}{o:HO}(m:JF o):Kd g (L2.upd H l o):=⟨λa z=>by
 by_cases e:a=l
 .subst e;exact⟨o,at7,m⟩
 .rw[upd_ne e];exact k.ob a z,k.lo,k.lc⟩
theorem Rep.ex(e:Ex H H')(k:Kd g H)(h:Rep K g H v d):Rep K g H' v d:=h.gr (Gr.ex (q:=true) e) k
theorem aJ.ex{vs:List V}{ds:List Dat}(e:Ex H H')(k:Kd g H)(h:aJ K g H vs ds):aJ K g H' vs ds:=h.gr (Gr.ex (q:=true) e) k
end
def keyD:Key->Dat
 |.inl i=>.int i
 |.inr x=>.str x
def jr(l:Addr)(o:Obj):HO:=.ext λh=>h.get? l=some o
abbrev oW:Type:=NestedKey×Addr×Value
def afJ(w:World)(x:oW):DictEntry:=⟨x.1.hash w,.ref x.2.1,x.2.2⟩
structure m7(w:World)(l:Addr)(o:Obj)(xs:List oW):Prop where
 sys:(l==sysModules)=false
 ex:o.ExactDict
 ent:∃es ep,o.data=.dict es ep/\es.toList=xs.map (afJ w)
 nd:(xs.map (·.1)).Nodup
 len:xs.length<=sizeLine
 dep:∀x∈xs,x.1.depth<=8
def jP(K:asv)(aj:aQ)(g:Gh)(H:Hp)(l:Addr):Bool->List (Dat×Dat)->Prop
 |false,kvs=>∃kv:List (Key×V),H l=some (.dK kv)/\kvs.map (·.1)=kv.map (λp=>keyD p.1)/\aJ K g H (kv.map (·.2)) (kvs.map (·.2))
 |true,kvs=>∃(o:Obj) (xs:List oW) (vs:List V),H l=some (jr l o)/\m7 aj.w l o xs/\kvs.map (·.1)=xs.map (λx=>x.1.data)/\aJ K g H (xs.map λx=>V.ref x.2.1) (kvs.map (·.1))/\Vals vs (xs.map (·.2.2))/\aJ K g H vs (kvs.map (·.2))
def eZ(K:asv)(aj:aQ)(g:Gh)(H:Hp)(h:Nat)(f:Str)(v:V):jB->Prop
 |.dat d=>Rep K g H v d
 |.lst n xs=>∃l us,v=.ref l/\H l=some (.lst us)/\g.ow l=some (h,f)/\aJ K g H us xs/\g.tbl[n]?=some l
 |.dic n kvs=>∃l,v=.ref l/\g.ow l=some (h,f)/\jP K aj g H l n kvs
inductive cR(K:asv)(aj:aQ)(g:Gh)(H:Hp)(h:Nat):List (Str×V)->List (Str×jB)->Prop
 |nil:cR K aj g H h [] []
 |cons {f:Str} {v:V} {fl:jB} {fs:List (Str×V)} {gs:List (Str×jB)}:eZ K aj g H h f v fl->cR K aj g H h fs gs->cR K aj g H h ((f,v)::fs) ((f,fl)::gs)
structure gU(K:asv)(aj:aQ)(g:Gh)(H:Hp)(M:Mo):Prop where
 len:g.tbl.length=M.length
 inj:∀(h k:Nat) (a:Addr),g.tbl[h]?=some a->g.tbl[k]?=some a->h=k
 ins:∀(h:Nat) (a:Addr) (i:Inst),g.tbl[h]?=some a->M[h]?=some i->i.cls≠""->∃C dx fs,aj i.cls=some C/\H a=some (.ins C dx fs)/\cR K aj g H h fs i.fs
 nd:∀(h:Nat) (i:Inst),M[h]?=some i->(i.fs.map (·.1)).Nodup
 fd:∀(h:Nat) (i:Inst),M[h]?=some i->∀f∈i.fs.map (·.1),f∈aj.fl i.cls
 tw:∀(h:Nat) (a:Addr) (i:Inst),g.tbl[h]?=some a->M[h]?=some i->i.cls≠""->g.ow a=none
 dm:∀(h:Nat) (i:Inst),M[h]?=some i->i.cls=""->i.fs=[]
 nc:aj ""=none
structure SInv(K:asv)(aj:aQ)(σ:L2.St)(H:Hp)(g:Gh)(Z:Env)(M:Mo):Prop where
 kd:Kd g H
 wok:gU K aj g H M
 len:σ.length=Z.length
 dat:∀(i:Nat) (d:Dat),Z[i]?=some (some (.dat d))->∃v,σ[i]?=some (some v)/\Rep K g H v d
 own:∀(i:Nat) (xs:List Dat),Z[i]?=some (some (.mut xs))->∃l us,σ[i]?=some (some (.ref l))/\H l=some (.lst us)/\g.Lo l/\aJ K g H us xs
 sep:∀(i j:Nat) (xs ys:List Dat) (l:Addr),i≠j->Z[i]?=some (some (.mut xs))->Z[j]?=some (some (.mut ys))->σ[i]?=some (some (.ref l))->σ[j]?≠some (some (.ref l))
section
variable{K:asv}{aj:aQ}{q:Bool}{g g' g2:Gh}{H H' H2:Hp}{v:V}{d:Dat}{σ:L2.St}{Z:Env}{M:Mo}
theorem jP.ex{l:Addr}:∀{n:Bool} {kvs:List (Dat×Dat)} (e:Ex H H') (k:Kd g H) (h:jP K aj g H l n kvs),jP K aj g H' l n kvs
 |false,_,e,k,⟨kv,h1,h2,h3⟩=>⟨kv,e _ _ h1,h2,h3.ex e k⟩
 |true,_,e,k,⟨o,xs,vs,h1,h2,h3,h4,h5,h6⟩=>⟨o,xs,vs,e _ _ h1,h2,h3,h4.ex e k,h5,h6.ex e k⟩
theorem eZ.ex{h:Nat}{f:Str}(e:Ex H H')(k:Kd g H):∀{fl:jB},eZ K aj g H h f v fl->eZ K aj g H' h f v fl
 |.dat _,r=>Rep.ex e k r
 |.lst _ _,⟨l,us,h1,h2,h3,h4,h5⟩=>⟨l,us,h1,e _ _ h2,h3,h4.ex e k,h5⟩
 |.dic _ _,⟨l,h1,h2,h3⟩=>⟨l,h1,h2,h3.ex e k⟩
theorem cR.ex{h:Nat}(e:Ex H H')(k:Kd g H):∀{fs:List (Str×V)} {gs:List (Str×jB)},cR K aj g H h fs gs->cR K aj g H' h fs gs
 |_,_,.nil=>.nil
 |_,_,.cons r t=>.cons (eZ.ex e k r) (cR.ex e k t)
theorem gU.ex(e:Ex H H')(k:Kd g H)(w:gU K aj g H M):gU K aj g H' M:=⟨w.len,w.inj,λh a i ha hi hc=>by
 obtain⟨C,dx,fs,c1,c2,c3⟩:=w.ins h a i ha hi hc;exact⟨C,dx,fs,c1,e _ _ c2,c3.ex e k⟩,w.nd,w.fd,w.tw,w.dm,w.nc⟩
theorem SInv.ex(e:Ex H H')(I:SInv K aj σ H g Z M):SInv K aj σ H' g Z M:=⟨I.kd.ex e,I.wok.ex e I.kd,I.len,λi d h=>by
 obtain⟨v,h1,h2⟩:=I.dat i d h;exact⟨v,h1,h2.ex e I.kd⟩,λi xs h=>by
 obtain⟨l,us,h1,h2,h3,h4⟩:=I.own i xs h;exact⟨l,us,h1,e _ _ h2,h3,h4.ex e I.kd⟩,I.sep⟩
theorem cR.get{h:Nat}{f:Str}{fl:jB}:∀{fs:List (Str×V)} {gs:List (Str×jB)},cR K aj g H h fs gs->gs.lookup f=some fl->∃v,fs.lookup f=some v/\eZ K aj g H h f v fl
 |_,_,.nil,e=>nomatch e
 |_,_,.cons (f:=f') (v:=v) (fl:=fl') r t,e=>by
  rw[asY]at e;rw[asY];cases hb:f==f' with
  |true=>
   rw[hb]at e;cases e;have ef:f=f':=by simpa using hb
   subst ef;exact⟨v,rfl,r⟩
  |false=>
   rw[hb]at e;exact t.get e
theorem cR.no{h:Nat}{f:Str}:∀{fs:List (Str×V)} {gs:List (Str×jB)},cR K aj g H h fs gs->gs.lookup f=none->fs.lookup f=none
 |_,_,.nil,_=>rfl
 |_,_,.cons (f:=f') (v:=v) (fl:=fl') r t,e=>by
  rw[asY]at e;rw[asY];cases hb:f==f' with
  |true=>
   rw[hb]at e;cases e
  |false=>
   rw[hb]at e;exact t.no e
end
def Out.bind{α β:Type}(o:Out α)(k:α->Out β):Out β:=
 match o with
 |.ok a=>k a
 |.exc x=>.exc x
 |.bad=>.bad
def Out.sat{α:Type}(o:Out α)(P:α->Prop)(E:dX->Prop):Prop:=
 match o with
 |.ok a=>P a
 |.exc x=>E x
 |.bad=>False
@[simp]theorem Out.zm {α β:Type} (a:α) (k:α->Out β):(Out.ok a).bind k=k a:=rfl
@[simp]theorem Out.ahf {α β:Type} (x:dX) (k:α->Out β):(Out.exc x:Out α).bind k=.exc x:=rfl
@[simp]theorem Out.agP {α β:Type} (k:α->Out β):(Out.bad:Out α).bind k=.bad:=rfl
theorem Out.sat.bnd{α β:Type}{o:Out α}{k:α->Out β}{P:β->Prop}{E:dX->Prop}(h:(o.bind k).sat P E):o.sat (λa=>(k a).sat P E) E:=by cases o<;>exact h
theorem Out.sat.mono{α:Type}{o:Out α}{P P':α->Prop}{E E':dX->Prop}(h:o.sat P E)(hp:∀a,P a->P' a)(he:∀x,E x->E' x):o.sat P' E':=by
 cases o
 .exact hp _ h
 .exact he _ h
 .exact h
def Out.when{α:Type}(b:Bool)(o:Out α):Out α:=if b=true then o else .bad
@[simp]theorem Out.Wq {α:Type} (o:Out α):Out.when true o=o:=rfl
@[simp]theorem Out.amY {α:Type} (o:Out α):Out.when false o=.bad:=rfl
theorem Out.sat.lE{α:Type}{b:Bool}{o:Out α}{P:α->Prop}{E:dX->Prop}(h:(Out.when b o).sat P E):b=true/\o.sat P E:=by
 cases b
 .exact atX h
 .exact⟨rfl,h⟩
inductive mK(K:asv)(g:Gh)(H:Hp):List (Str×V)->List (Str×Dat)->Prop
 |nil:mK K g H [] []
 |cons {f:Str} {v:V} {d:Dat} {fs:List (Str×V)} {gs:List (Str×Dat)}:Rep K g H v d->mK K g H fs gs->mK K g H ((f,v)::fs) ((f,d)::gs)
def rF(K:asv)(aj:aQ)(g:Gh)(H:Hp)(x:dX)(c:Value)(dd:Option Addr):Prop:=
 ∃C,aj x.cls=some C/\c=.ref C/\((x.fs=[]/\dd=none)\/∃a fs,dd=some a/\H a=some (.xd fs)/\mK K g H fs x.fs)
abbrev QF:=Mo->Env->Out Dat
abbrev QT:=Mo->Env->Out Bool
abbrev QA:=Mo->Env->Out (List Dat)
section
variable(K:asv)(aj:aQ)(W:WX)
def rB(g:Gh)(H:Hp)(σ:L2.St)(x:dX):Prop:=∀H' c dd,Ex H H'->rF K aj g H' x c dd->W c dd σ H'
def tQ(f:QF):TE:=λσ H Q=>∃g Z M,SInv K aj σ H g Z M/\(f M Z).sat (λd=>∀v H',Ex H H'->Rep K g H' v d->Q v H') (rB K aj W g H σ)
def lQ(f:QT):TT:=λσ H Q=>∃g Z M,SInv K aj σ H g Z M/\(f M Z).sat (λb=>∀H',Ex H H'->Q b H') (rB K aj W g H σ)
def PN(f:QA):TA:=λσ H Q=>∃g Z M,SInv K aj σ H g Z M/\(f M Z).sat (λds=>∀vs H',Ex H H'->aJ K g H' vs ds->Q vs H') (rB K aj W g H σ)
end
section
variable{K:asv}{aj:aQ}{W:WX}{g:Gh}{H H1:Hp}{σ:L2.St}{Z:Env}{M:Mo}
theorem rB.ex{x:dX}(e:Ex H H1)(h:rB K aj W g H σ x):rB K aj W g H1 σ x:=λH' c dd e' r=>h H' c dd (e.trans e') r
theorem tQ.go{f:QF}{k:Dat->Prop}{Q:VK}(I:SInv K aj σ H g Z M)(h:(f M Z).sat k (rB K aj W g H σ))(hk:∀d v H',k d->Ex H H'->Rep K g H' v d->Q v H'):tQ K aj W f σ H Q:=
 ⟨g,Z,M,I,h.mono (λd hd v H' e r=>hk d v H' hd e r) λ_ z=>z⟩
theorem lQ.go{f:QT}{k:Bool->Prop}{Q:Bool->Hp->Prop}(I:SInv K aj σ H g Z M)(h:(f M Z).sat k (rB K aj W g H σ))(hk:∀b H',k b->Ex H H'->Q b H'):lQ K aj W f σ H Q:=
 ⟨g,Z,M,I,h.mono (λd hd H' e=>hk d H' hd e) λ_ z=>z⟩
theorem PN.go{f:QA}{k:List Dat->Prop}{Q:List V->Hp->Prop}(I:SInv K aj σ H g Z M)(h:(f M Z).sat k (rB K aj W g H σ))(hk:∀ds vs H',k ds->Ex H H'->aJ K g H' vs ds->Q vs H'):PN K aj W f σ H Q:=
 ⟨g,Z,M,I,h.mono (λd hd v H' e r=>hk d v H' hd e r) λ_ z=>z⟩
end
def QE(aj:aQ)(X:Cx)(W:WX)(e:Expr)(f:QF):Prop:=PE X e (tQ X.K aj W f)
def uE(aj:aQ)(X:Cx)(W:WX)(e:Expr)(f:QT):Prop:=PT X e (lQ X.K aj W f)
def Hz(aj:aQ)(X:Cx)(W:WX)(es:List Expr)(f:QA):Prop:=PA X es (PN X.K aj W f)
theorem PE.weak{X:Cx}{e:Expr}{t t':TE}(h:PE X e t)(k:∀σ H Q,t' σ H Q->t σ H Q):PE X e t':=⟨λpins s σ H Q I q=>h.run pins s σ H Q I (k σ H Q q)⟩
theorem PT.weak{X:Cx}{e:Expr}{t t':TT}(h:PT X e t)(k:∀σ H Q,t' σ H Q->t σ H Q):PT X e t':=⟨λpins s σ H Q I q=>h.run pins s σ H Q I (k σ H Q q)⟩
theorem PA.weak{X:Cx}{e:List Expr}{t t':TA}(h:PA X e t)(k:∀σ H Q,t' σ H Q->t σ H Q):PA X e t':=⟨λpos pins s σ H Q I q=>h.run pos pins s σ H Q I (k σ H Q q)⟩
def aq(i:Nat):QF:=λ_ Z=>match Z[i]? with
 |some (some (.dat d))=>.ok d
 |_=>.bad
def qC(d:Dat):QF:=λ_ _=>.ok d
def aA(o:Dat->Dat->Out Dat)(a b:QF):QF:=λM Z=>(a M Z).bind λx=>(b M Z).bind λy=>o x y
def fj(o:Dat->Out Dat)(a:QF):QF:=λM Z=>(a M Z).bind o
def au:QA:=λ_ _=>.ok []
def ak(a:QF)(r:QA):QA:=λM Z=>(a M Z).bind λx=>(r M Z).bind λxs=>.ok (x::xs)
def bA(r:QA):QF:=λM Z=>(r M Z).bind λxs=>Out.when (decide (xs.length<=100000)) (.ok (.tuple xs))
def qY(r:QA):QF:=λM Z=>(r M Z).bind λxs=>Out.when (decide (xs.length<=100000)) (.ok (.list xs))
section
variable{X:Cx}{aj:aQ}{W:WX}{a b:Expr}{fa fb:QF}{pos:Pos}
theorem ake{i:Nat}{x:Str}(hN:X.N[i]?=some x)(hv:Vis X.env.scope x)(hd:(x==("__debug__" : Str))=false)(hcd:(x==("__classdict__" : Str))=false):QE aj X W (.Name x pos) (aq i):=
 PE.weak (pe_var hN hv hd hcd) λσ H Q ⟨g,Z,M,I,h⟩=>by
  unfold aq at h;split at h
  .next d e=>
   obtain⟨v,h1,h2⟩:=I.dat i d e;exact⟨v,h1,h v H (Ex.refl H) h2⟩
  .exact atX h
theorem alF{i:Int}{j:Nat}:QE aj X W (.Constant (.int i) j pos) (qC (.int i)):=PE.weak pe_int λσ H Q ⟨g,Z,M,I,h⟩=>h _ H (Ex.refl H) (.int i)
theorem ak1{x:Str}{j:Nat}:QE aj X W (.Constant (.str x) j pos) (qC (.str x)):=PE.weak pe_str λσ H Q ⟨g,Z,M,I,h⟩=>h _ H (Ex.refl H) (.str x)
theorem ano{x:Bool}{j:Nat}:QE aj X W (.Constant (.bool x) j pos) (qC (.bool x)):=PE.weak pe_bl λσ H Q ⟨g,Z,M,I,h⟩=>h _ H (Ex.refl H) (.bl x)
theorem akv{j:Nat}:QE aj X W (.Constant .none j pos) (qC .none):=PE.weak pe_non λσ H Q ⟨g,Z,M,I,h⟩=>h _ H (Ex.refl H) .non
theorem alw:Hz aj X W [] au:=PA.weak pa_nil λσ H Q ⟨g,Z,M,I,h⟩=>h [] H (Ex.refl H) .nil
theorem aiX{es:List Expr}{fr:QA}(ha:QE aj X W a fa)(hr:Hz aj X W es fr)(hs:starEach (a::es) X.env=(false,eval a X.env)::starEach es X.env):Hz aj X W (a::es) (ak fa fr):=
 PA.weak (pa_cons ha hr hs) λσ H Q ⟨g,Z,M,I,h⟩=>by
  refine tQ.go I h.bnd λd v H1 h1 e1 r1=>?_;refine PN.go (I.ex e1) (h1.bnd.mono (λ_ z=>z) λ_ z=>z.ex e1) λds vs H2 h2 e2 r2=>?_;exact h2 (v::vs) H2 (e1.trans e2) (.cons (r1.ex e2 (I.kd.ex e1)) r2)
theorem akt{es:List Expr}{fr:QA}{k:Nat}(h:Hz aj X W es fr):QE aj X W (.Tuple es k pos) (bA fr):=
 PE.weak (pe_tup h) λσ H Q ⟨g,Z,M,I,h⟩=>by
  refine PN.go I h.bnd λds vs H1 h1 e1 r1=>?_;obtain⟨hz,h1⟩:=h1.lE;have hl:vs.length<=100000:=by rw[r1.length];exact atZ hz
  refine⟨sz_of hl,λp np=>h1 (.ref p) _ (e1.trans (Ex.new np)) (.tup (st_of at7) (r1.ex (Ex.new np) (I.kd.ex e1)))⟩
theorem Kd.fresh{g:Gh}{H:Hp}(k:Kd g H){p:Addr}(n:H p=none):¬g.A p:=λz=>by
 obtain⟨o,e,_⟩:=k.ob p z;rw[n]at e;cases e
theorem alR{es:List Expr}{fr:QA}(h:Hz aj X W es fr):QE aj X W (.List es pos) (qY fr):=
 PE.weak (pe_lst h) λσ H Q ⟨g,Z,M,I,h⟩=>by
  refine PN.go I h.bnd λds vs H1 h1 e1 r1=>?_;obtain⟨hz,h1⟩:=h1.lE;have hl:vs.length<=100000:=by rw[r1.length];exact atZ hz
  refine⟨sz_of hl,λp np=>h1 (.ref p) _ (e1.trans (Ex.new np)) (.lst (.inl ⟨at7,(I.kd.ex e1).fresh np⟩) (r1.ex (Ex.new np) (I.kd.ex e1)))⟩
end
def dZ(K:asv)(g:Gh)(H:Hp)(v:V):Dat->Prop
 |.list ds=>∃a us,v=.ref a/\SqL K H a us/\aJ K g H us ds
 |d=>Rep K g H v d
section
variable{K:asv}{g:Gh}{H H':Hp}{v:V}{d:Dat}
theorem Rep.weak(h:Rep K g H v d):dZ K g H v d:=by
 cases h with
 |lst a t=>exact⟨_,_,rfl,a.sq,t⟩
 |non=>exact .non
 |bl b=>exact .bl b
 |int i=>exact .int i
 |str x=>exact .str x
 |tup a t=>exact .tup a t
 |obj a=>exact .obj a
theorem dZ.ex(e:Ex H H')(k:Kd g H)(h:dZ K g H v d):dZ K g H' v d:=by
 cases d with
 |list ds=>
  obtain⟨a,us,h1,h2,h3⟩:=h;exact⟨a,us,h1,ex_l e h2,h3.ex e k⟩
 |_=>exact Rep.ex e k h
theorem cG{i:Int}(h:dZ K g H v (.int i)):v=.int i:=by cases h;rfl
theorem fV{x:Str}(h:dZ K g H v (.str x)):v=.str x:=by cases h;rfl
theorem Fo{b:Bool}(h:dZ K g H v (.bool b)):v=.bl b:=by cases h;rfl
theorem Jj(h:dZ K g H v .none):v=.non:=by cases h;rfl
theorem lV{ds:List Dat}(h:dZ K g H v (.tuple ds)):∃a us,v=.ref a/\SqT K H a us/\aJ K g H us ds:=by
 cases h with
 |tup a t=>exact⟨_,_,rfl,a,t⟩
theorem iZ{ds:List Dat}(h:dZ K g H v (.list ds)):∃a us,v=.ref a/\SqL K H a us/\aJ K g H us ds:=h
theorem Nm{n:Nat}(h:dZ K g H v (obj n)):∃a,v=.ref a/\g.tbl[n]?=some a:=by
 cases h with
 |obj a=>exact⟨_,rfl,a⟩
end
section
variable(K:asv)(aj:aQ)(W:WX)
def tW(f:QF):TE:=λσ H Q=>∃g Z M,SInv K aj σ H g Z M/\(f M Z).sat (λd=>∀v H',Ex H H'->dZ K g H' v d->Q v H') (rB K aj W g H σ)
end
theorem tW.go{K:asv}{aj:aQ}{W:WX}{g:Gh}{H:Hp}{σ:L2.St}{Z:Env}{M:Mo}{f:QF}{k:Dat->Prop}{Q:VK}(I:SInv K aj σ H g Z M)(h:(f M Z).sat k (rB K aj W g H σ))(hk:∀d v H',k d->Ex H H'->dZ K g H' v d->Q v H'):tW K aj W f σ H Q:=
 ⟨g,Z,M,I,h.mono (λd hd v H' e r=>hk d v H' hd e r) λ_ z=>z⟩
def QW(aj:aQ)(X:Cx)(W:WX)(e:Expr)(f:QF):Prop:=PE X e (tW X.K aj W f)
theorem QE.w{aj:aQ}{X:Cx}{W:WX}{e:Expr}{f:QF}(h:QE aj X W e f):QW aj X W e f:=
 PE.weak h λσ H Q ⟨g,Z,M,I,z⟩=>⟨g,Z,M,I,z.mono (λ_ k v H' e r=>k v H' e r.weak) λ_ y=>y⟩
def ao(i:Nat):QF:=λ_ Z=>match Z[i]? with
 |some (some (.dat d))=>.ok d
 |some (some (.mut xs))=>.ok (.list xs)
 |_=>.bad
def rA(aj:aQ)(K:asv)(W:WX)(o:Dat->Dat->Out Dat)(r:R2):Prop:=∀(σ:L2.St) (g:Gh) (H:Hp) (x y:V) (d e:Dat) (Q:VK),Kd g H->dZ K g H x d->dZ K g H y e->
 (o d e).sat (λz=>∀v H',Ex H H'->Rep K g H' v z->Q v H') (rB K aj W g H σ)->r x y H Q
section
variable{X:Cx}{aj:aQ}{W:WX}{a b c:Expr}{fa fb fc:QF}{pos:Pos}
theorem al3{i:Nat}{x:Str}(hN:X.N[i]?=some x)(hv:Vis X.env.scope x)(hd:(x==("__debug__" : Str))=false)(hcd:(x==("__classdict__" : Str))=false):QW aj X W (.Name x pos) (ao i):=
 PE.weak (pe_var hN hv hd hcd) λσ H Q ⟨g,Z,M,I,h⟩=>by
  unfold ao at h;split at h
  .next d e=>
   obtain⟨v,h1,h2⟩:=I.dat i d e;exact⟨v,h1,h v H (Ex.refl H) h2.weak⟩
  .next xs e=>
   obtain⟨l,us,h1,h2,h3,h4⟩:=I.own i xs e;exact⟨.ref l,h1,h _ H (Ex.refl H) ⟨l,us,rfl,sq_of h2,h4⟩⟩
  .exact atX h
theorem SJ{o:Dat->Dat->Out Dat}{r:R2}(ho:rA aj X.K W o r)(σ:L2.St)(H:Hp)(Q:VK)(h:tQ X.K aj W (aA o fa fb) σ H Q):tOp r (tW X.K aj W fa) (tW X.K aj W fb) σ H Q:=by obtain⟨g,Z,M,I,h⟩:=h;refine tW.go I h.bnd λd v H1 h1 e1 r1=>?_;refine tW.go (I.ex e1) (h1.bnd.mono (λ_ z=>z) λ_ z=>z.ex e1) λd2 v2 H2 h2 e2 r2=>?_;refine ho σ g H2 v v2 d d2 Q ((I.kd.ex e1).ex e2) (r1.ex e2 (I.kd.ex e1)) r2 (h2.mono (λz hz u H' e' r'=>hz u H' ((e1.trans e2).trans e') r') λ_ z=>(z.ex e1).ex e2)
theorem ajK{op:Operator}{r:R2}{o:Dat->Dat->Out Dat}(hr:OpR X (binaryOp op) r)(ho:rA aj X.K W o r)(ha:QW aj X W a fa)(hb:QW aj X W b fb):QE aj X W (.BinOp a op b pos) (aA o fa fb):=
 PE.weak (pe_op hr ha hb) λσ H Q h=>SJ ho σ H Q h
theorem aic{op:CmpOp}{r:R2}{o:Dat->Dat->Out Dat}(hr:OpR X (compareOp op) r)(ho:rA aj X.K W o r)(ha:QW aj X W a fa)(hb:QW aj X W b fb)(hm:behindInMarks op b=false):QE aj X W (.Compare a [op] [b] pos) (aA o fa fb):=
 PE.weak (pe_cmpR hr ha hb hm) λσ H Q h=>SJ ho σ H Q h
end
instance:DecidableRel CMul:=λi j=>by unfold CMul;infer_instance
instance:DecidableRel CDiv:=λi j=>by unfold CDiv;infer_instance
instance:DecidableRel CPow:=λi j=>by unfold CPow;infer_instance
def bZ:Dat->Dat->Out Dat
 |.int i,.int j=>.ok (.int (i+j))
 |.str x,.str y=>Out.when (decide (x.length+y.length<=100000)) (.ok (.str (x++y)))
 |.list xs,.list ys=>Out.when (decide (xs.length+ys.length<=100000)) (.ok (.list (xs++ys)))
 |.tuple xs,.tuple ys=>Out.when (decide (xs.length+ys.length<=100000)) (.ok (.tuple (xs++ys)))
 |_,_=>.bad
def pC:Dat->Dat->Out Dat
 |.int i,.int j=>.ok (.int (i-j))
 |_,_=>.bad
def yw:Dat->Dat->Out Dat
 |.int i,.int j=>Out.when (decide (CMul i j)) (.ok (.int (i*j)))
 |_,_=>.bad
def Ez:Dat->Dat->Out Dat
 |.int i,.int j=>Out.when (decide (CDiv i j)) (.ok (.int (i/j)))
 |_,_=>.bad
def jc:Dat->Dat->Out Dat
 |.int i,.int j=>Out.when (decide (0<j)) (.ok (.int (i%j)))
 |_,_=>.bad
def Qt:Dat->Dat->Out Dat
 |.int i,.int j=>Out.when (decide (CPow i j)) (.ok (.int (i^j.toNat)))
 |_,_=>.bad
def rCatS(K:asv):R2:=λx y H Q=>∃l b xs zs,x=.ref l/\y=.ref b/\SqL K H l xs/\SqL K H b zs/\xs.length+zs.length<=sizeLine/\∀p,H p=none->Q (.ref p) (upd H p (.lst (xs++zs)))
theorem abA{X:Cx}:OpR X (binaryOp .Add) (rCatS X.K):=by
 intro pins s σ H x y v u Q I rx ry h;obtain⟨l,b,xs,zs,rfl,rfl,hH,hB,hz,q⟩:=h;cases rx;cases ry;obtain⟨its,r,⟨⟨c1,d1,da1,s1⟩,n,e,hc,hd,hs⟩,_⟩:=I.list hH;obtain⟨its2,r2,⟨⟨c2,d2,da2,s2⟩,n2,e2,hc2,hd2,hs2⟩,_⟩:=I.list hB;simp only at hc hd hs hc2 hd2 hs2;subst hc hd hs hc2 hd2 hs2;have l1:=r.length;have l2:=r2.length;have ea:its.toArray++its2.toArray=(its++its2).toArray:=by simp
 refine concat_meets ⟨_,e,rfl⟩ ⟨_,e2,rfl⟩ noFill_list_add seq_list_add PySem.F.slot_list_add PySem.F.entry_list_add (PySem.F.args_list_add_2 _ _) (list_addW l b its.toArray its2.toArray n n2 none none s1 s2 (by rw[List.size_toArray,List.size_toArray];omega)) ⟨e,e2,?_⟩;rw[ea];exact⟨.ref _,_,I.lnew (t':=s.toks) (r.append r2) (by rw[ati];omega),rfl,q _ I.fresh⟩
def ahJ(K:asv):R2:=λx y H Q=>rI0 (λi j=>.int (i+j)) x y H Q\/(∃i j,x=.str i/\y=.str j/\i.length+j.length<=sizeLine/\Q (.str (i++j)) H)\/rCatS K x y H Q\/rCatA K x y H Q
theorem aiO{X:Cx}:OpR X (binaryOp .Add) (ahJ X.K):=by
 intro pins s σ H x y v u Q I rx ry h;rcases h with h|h|h|h
 .exact op_add pins s σ H x y v u Q I rx ry h
 .exact op_add_str pins s σ H x y v u Q I rx ry h
 .exact abA pins s σ H x y v u Q I rx ry h
 .exact op_catA pins s σ H x y v u Q I rx ry h
section
variable{K:asv}{aj:aQ}{W:WX}
theorem ajV:rA aj K W bZ (ahJ K):=λσ g H x y d e Q k rx ry h=>by
 unfold bZ at h;split at h
 .exact .inl ⟨_,_,cG rx,cG ry,h _ H (Ex.refl H) (.int _)⟩
 .obtain⟨hz,h⟩:=h.lE;exact .inr (.inl ⟨_,_,fV rx,fV ry,sz_of (atZ hz),h _ H (Ex.refl H) (.str _)⟩)
 .obtain⟨hz,h⟩:=h.lE;obtain⟨l,us,e1,s1,t1⟩:=iZ rx;obtain⟨l2,us2,e2,s2,t2⟩:=iZ ry;have hl:=atZ hz;rw[<-t1.length,<-t2.length]at hl;refine .inr (.inr (.inl ⟨l,l2,us,us2,e1,e2,s1,s2,sz_of hl,λp np=>h _ _ (Ex.new np) (.lst (.inl ⟨at7,k.fresh np⟩) ((t1.append t2).ex (Ex.new np) k))⟩))
 .obtain⟨hz,h⟩:=h.lE;obtain⟨l,us,e1,s1,t1⟩:=lV rx;obtain⟨l2,us2,e2,s2,t2⟩:=lV ry;have hl:=atZ hz;rw[<-t1.length,<-t2.length]at hl;refine .inr (.inr (.inr ⟨l,l2,us,us2,e1,e2,s1,s2,sz_of hl,λz=>?_,λ_ z=>?_,λ_ _ p np=>h _ _ (Ex.new np) (.tup (st_of at7) ((t1.append t2).ex (Ex.new np) k))⟩))
  .subst z;cases t1;exact h _ H (Ex.refl H) (.tup s2 t2)
  .subst z;cases t2;rw[atp]at h;exact h _ H (Ex.refl H) (.tup s1 t1)
 .exact atX h
theorem alm:rA aj K W pC (rI0 λi j=>.int (i-j)):=λσ g H x y d e Q k rx ry h=>by
 unfold pC at h;split at h
 .exact⟨_,_,cG rx,cG ry,h _ H (Ex.refl H) (.int _)⟩
 .exact atX h
theorem akQ:rA aj K W yw (rI CMul λi j=>.int (i*j)):=λσ g H x y d e Q k rx ry h=>by
 unfold yw at h;split at h
 .obtain⟨hz,h⟩:=h.lE;exact⟨_,_,cG rx,cG ry,atZ hz,h _ H (Ex.refl H) (.int _)⟩
 .exact atX h
theorem alD:rA aj K W Ez (rI CDiv λi j=>.int (i/j)):=λσ g H x y d e Q k rx ry h=>by
 unfold Ez at h;split at h
 .obtain⟨hz,h⟩:=h.lE;exact⟨_,_,cG rx,cG ry,atZ hz,h _ H (Ex.refl H) (.int _)⟩
 .exact atX h
theorem alo:rA aj K W jc (rI (λ_ j=>0<j) λi j=>.int (i%j)):=λσ g H x y d e Q k rx ry h=>by
 unfold jc at h;split at h
 .obtain⟨hz,h⟩:=h.lE;exact⟨_,_,cG rx,cG ry,atZ hz,h _ H (Ex.refl H) (.int _)⟩
 .exact atX h
theorem akX:rA aj K W Qt (rI CPow λi j=>.int (i^j.toNat)):=λσ g H x y d e Q k rx ry h=>by
 unfold Qt at h;split at h
 .obtain⟨hz,h⟩:=h.lE;exact⟨_,_,cG rx,cG ry,atZ hz,h _ H (Ex.refl H) (.int _)⟩
 .exact atX h
end
mutual
def okd:Nat->Dat->Bool
 |_,.none=>true
 |_,.bool _=>true
 |_,.int _=>true
 |_,.str x=>PyData.strOk x
 |n+1,.list ds=>nH n ds
 |n+1,.tuple ds=>nH n ds
 |0,.list _=>false
 |0,.tuple _=>false
 |_,.dict _=>false
def nH:Nat->List Dat->Bool
 |_,[]=>true
 |n,d::ds=>okd n d&&nH n ds
end
mutual
theorem VD:∀(n:Nat) (d:Dat),okd n d=true->d.canLay0=true/\d.depth<=n
 |n,.none,_=>⟨by simp[PyData.canLay0],by simp[PyData.depth]⟩
 |n,.bool _,_=>⟨by simp[PyData.canLay0],by simp[PyData.depth]⟩
 |n,.int _,_=>⟨by simp[PyData.canLay0],by simp[PyData.depth]⟩
 |n,.str x,h=>⟨by rw[okd]at h;simp[PyData.canLay0,h],by simp[PyData.depth]⟩
 |n+1,.list ds,h=>by
  rw[okd]at h;obtain⟨h1,h2⟩:=Qg n ds h;exact⟨by simp[PyData.canLay0,h1],by simp[PyData.depth];omega⟩
 |n+1,.tuple ds,h=>by
  rw[okd]at h;obtain⟨h1,h2⟩:=Qg n ds h;exact⟨by simp[PyData.canLay0,h1],by simp[PyData.depth];omega⟩
 |0,.list _,h=>by rw[okd]at h;cases h
 |0,.tuple _,h=>by rw[okd]at h;cases h
 |n,.dict _,h=>by rw[okd]at h;cases h
theorem Qg:∀(n:Nat) (ds:List Dat),nH n ds=true->PyData.canLayAll0 ds=true/\PyData.depthAll ds<=n
 |n,[],_=>⟨by simp[PyData.canLayAll0],by simp[PyData.depthAll]⟩
 |n,d::ds,h=>by
  rw[nH,asw]at h;obtain⟨h1,h2⟩:=VD n d h.1;obtain⟨h3,h4⟩:=Qg n ds h.2;exact⟨by simp[PyData.canLayAll0,h1,h3],by simp[PyData.depthAll];omega⟩
end
mutual
theorem Rep.dp{K:asv}{g:Gh}{H:Hp}:∀{n:Nat} {v:V} {d:Dat},okd n d=true->Rep K g H v d->Dp K H v d
 |_,_,_,_,.non=>.non
 |_,_,_,_,.bl b=>.bl b
 |_,_,_,_,.int i=>.int i
 |_,_,_,_,.str x=>.str x
 |n+1,_,_,f,.tup h t=>.tup h (aJ.dp (n:=n) (by rw[okd]at f;exact f) t)
 |n+1,_,_,f,.lst h t=>.lst h.sq (aJ.dp (n:=n) (by rw[okd]at f;exact f) t)
 |0,_,_,f,.tup h t=>by rw[okd]at f;cases f
 |0,_,_,f,.lst h t=>by rw[okd]at f;cases f
 |_,_,_,f,.obj h=>by rw[okd]at f;cases f
theorem aJ.dp{K:asv}{g:Gh}{H:Hp}:∀{n:Nat} {vs:List V} {ds:List Dat},nH n ds=true->aJ K g H vs ds->DpAll K H vs ds
 |_,_,_,_,.nil=>.nil
 |n,_,_,f,.cons h t=>.cons (Rep.dp (n:=n) (by rw[nH,asw]at f;exact f.1) h) (aJ.dp (n:=n) (by rw[nH,asw]at f;exact f.2) t)
end
theorem dZ.dp{K:asv}{g:Gh}{H:Hp}{n:Nat}{v:V}{d:Dat}(f:okd n d=true)(h:dZ K g H v d):Dp K H v d:=by
 cases d with
 |list ds=>
  obtain⟨a,us,rfl,h2,h3⟩:=h;cases n with
  |zero=>rw[okd]at f;cases f
  |succ n=>
   rw[okd]at f;exact .lst h2 (h3.dp f)
 |_=>exact Rep.dp f h
theorem CN{n:Nat}{d:Dat}(h:okd n d=true)(hn:n<=64):SeqAt.shaped d=true:=by obtain⟨h1,h2⟩:=VD n d h;unfold SeqAt.shaped;rw[h1,Bool.true_and];exact decide_eq_true (as9 h2 hn)
def eqB:Dat->Dat->Out Bool
 |.int i,.int j=>.ok (i==j)
 |.str x,.str y=>.ok (x==y)
 |.bool x,.bool y=>.ok (x==y)
 |.none,.none=>.ok true
 |d,e=>Out.when (okd 12 d&&okd 12 e) (.ok (PyData.eqv d e))
def bH(d e:Dat):Out Dat:=(eqB d e).bind λb=>.ok (.bool b)
def Aq(d e:Dat):Out Dat:=(eqB d e).bind λb=>.ok (.bool (!b))
def alv(K:asv):R2:=λx y H Q=>rEq x y H Q\/rEqD K x y H Q
def alO(K:asv):R2:=λx y H Q=>rNe x y H Q\/rNeD K x y H Q
theorem amk{X:Cx}(hu:X.A.units+64<cLine):OpR X (compareOp .Eq) (alv X.K):=λpins s σ H x y v u Q I rx ry h=>h.elim (λh=>op_eq pins s σ H x y v u Q I rx ry h) (λh=>op_eqD hu pins s σ H x y v u Q I rx ry h)
theorem akB{X:Cx}(hu:X.A.units+64<cLine):OpR X (compareOp .NotEq) (alO X.K):=λpins s σ H x y v u Q I rx ry h=>h.elim (λh=>op_ne pins s σ H x y v u Q I rx ry h) (λh=>op_neD hu pins s σ H x y v u Q I rx ry h)
section
variable{K:asv}{aj:aQ}{W:WX}{g:Gh}{H:Hp}
theorem adJ{x y:V}{d e:Dat}{P:Bool->Prop}{E:dX->Prop}(rx:dZ K g H x d)(ry:dZ K g H y e)(h:(eqB d e).sat P E):(scal x y=true/\P (decide (x=y)))\/(∃d e,Dp K H x d/\Dp K H y e/\SeqAt.shaped d=true/\SeqAt.shaped e=true/\P (PyData.eqv d e)):=by
 unfold eqB at h;split at h
 .cases cG rx;cases cG ry;rw[dec_int];exact .inl ⟨rfl,h⟩
 .cases fV rx;cases fV ry;rw[dec_str];exact .inl ⟨rfl,h⟩
 .cases Fo rx;cases Fo ry;rw[dec_bl];exact .inl ⟨rfl,h⟩
 .cases Jj rx;cases Jj ry;exact .inl ⟨rfl,h⟩
 .obtain⟨hz,h⟩:=h.lE;rw[asw]at hz;exact .inr ⟨_,_,rx.dp hz.1,ry.dp hz.2,CN hz.1 (by decide),CN hz.2 (by decide),h⟩
theorem anx:rA aj K W bH (alv K):=λσ g H x y d e Q k rx ry h=>by
 rcases adJ rx ry h.bnd with⟨h1,h2⟩|⟨d,e,h1,h2,h3,h4,h5⟩
 .exact .inl ⟨h1,h2 _ H (Ex.refl H) (.bl _)⟩
 .exact .inr ⟨d,e,h1,h2,h3,h4,h5 _ H (Ex.refl H) (.bl _)⟩
theorem amQ:rA aj K W Aq (alO K):=λσ g H x y d e Q k rx ry h=>by
 rcases adJ rx ry h.bnd with⟨h1,h2⟩|⟨d,e,h1,h2,h3,h4,h5⟩
 .exact .inl ⟨h1,h2 _ H (Ex.refl H) (.bl _)⟩
 .exact .inr ⟨d,e,h1,h2,h3,h4,h5 _ H (Ex.refl H) (.bl _)⟩
end
def Nr:Dat->Dat->Out Dat
 |.int i,.int j=>.ok (.bool (decide (i<j)))
 |.tuple ds,.tuple es=>Out.when (okd 12 (.tuple ds)&&okd 12 (.tuple es)&&PySem.W.alike (.tuple ds) (.tuple es)) (.ok (.bool (PySem.W.dataLt (.tuple ds) (.tuple es))))
 |_,_=>.bad
def rE:Dat->Dat->Out Dat
 |.int i,.int j=>.ok (.bool (decide (i<=j)))
 |_,_=>.bad
def gtD:Dat->Dat->Out Dat
 |.int i,.int j=>.ok (.bool (decide (j<i)))
 |_,_=>.bad
def geD:Dat->Dat->Out Dat
 |.int i,.int j=>.ok (.bool (decide (j<=i)))
 |_,_=>.bad
def alk(K:asv):R2:=λx y H Q=>rI0 (λi j=>.bl (decide (i<j))) x y H Q\/Ear.SM K x y H Q
theorem ajZ{X:Cx}(hu:X.A.units+65<cLine):OpR X (compareOp .Lt) (alk X.K):=λpins s σ H x y v u Q I rx ry h=>h.elim (λh=>op_lt pins s σ H x y v u Q I rx ry h) (λh=>Ear.af4 hu pins s σ H x y v u Q I rx ry h)
section
variable{K:asv}{aj:aQ}{W:WX}{g:Gh}{H:Hp}
theorem amX:rA aj K W Nr (alk K):=λσ g H x y d e Q k rx ry h=>by
 unfold Nr at h;split at h
 .exact .inl ⟨_,_,cG rx,cG ry,h _ H (Ex.refl H) (.bl _)⟩
 .obtain⟨hz,h⟩:=h.lE;simp only[asw]at hz;refine .inr ?_;unfold Ear.SM;exact⟨_,_,rx.dp hz.1.1,ry.dp hz.1.2,hz.2,(λz=>nomatch z),as9 (VD _ _ hz.1.1).2 (by decide),h _ H (Ex.refl H) (.bl _)⟩
 .exact atX h
theorem anr:rA aj K W rE (rI0 λi j=>.bl (decide (i<=j))):=λσ g H x y d e Q k rx ry h=>by
 unfold rE at h;split at h
 .exact⟨_,_,cG rx,cG ry,h _ H (Ex.refl H) (.bl _)⟩
 .exact atX h
theorem anp:rA aj K W gtD (rI0 λi j=>.bl (decide (j<i))):=λσ g H x y d e Q k rx ry h=>by
 unfold gtD at h;split at h
 .exact⟨_,_,cG rx,cG ry,h _ H (Ex.refl H) (.bl _)⟩
 .exact atX h
theorem amT:rA aj K W geD (rI0 λi j=>.bl (decide (j<=i))):=λσ g H x y d e Q k rx ry h=>by
 unfold geD at h;split at h
 .exact⟨_,_,cG rx,cG ry,h _ H (Ex.refl H) (.bl _)⟩
 .exact atX h
end
def vY(c:Dat):Dat->Bool
 |.none=>match c with
  |.none=>true
  |_=>false
 |.bool b=>match c with
  |.bool b'=>b==b'
  |_=>false
 |_=>false
def scD:Dat->Option V
 |.none=>some .non
 |.bool b=>some (.bl b)
 |_=>none
theorem abH{K:asv}{g:Gh}{H:Hp}{x:V}{d c:Dat}{v:V}(h:dZ K g H x d)(hc:scD c=some v):decide (x=v)=vY c d:=by
 cases c with
 |none=>
  cases hc;cases d with
  |none=>cases Jj h;rfl
  |bool b=>cases Fo h;rfl
  |int b=>cases cG h;rfl
  |str b=>cases fV h;rfl
  |list b=>obtain⟨a,us,rfl,_⟩:=iZ h;rfl
  |tuple b=>obtain⟨a,us,rfl,_⟩:=lV h;rfl
  |dict b=>cases h;rfl
 |bool c=>
  cases hc;cases d with
  |none=>cases Jj h;rfl
  |bool b=>cases Fo h;exact dec_bl
  |int b=>cases cG h;rfl
  |str b=>cases fV h;rfl
  |list b=>obtain⟨a,us,rfl,_⟩:=iZ h;rfl
  |tuple b=>obtain⟨a,us,rfl,_⟩:=lV h;rfl
  |dict b=>cases h;rfl
 |_=>cases hc
def aac(neg:Bool)(v:V):R2:=λx y H Q=>y=v/\Q (.bl (neg ^^ decide (x=v))) H
theorem aez{x v:V}{u w:Value}(hv:v=.non\/∃b,v=.bl b)(rx:RelV x u)(rv:RelV v w):(u==w)=decide (x=v):=by
 rcases hv with rfl|⟨b,rfl⟩
 .cases rv;exact rx.none_iff
 .cases rv;rw[atF,beq_iff_eq,atY];constructor
  .rintro rfl;cases x with
   |bl c=>cases rx;rfl
   |non=>cases rx
   |ref _=>cases rx
   |ty _=>cases rx
   |_=>obtain⟨t,z⟩:=rx;cases z
  .rintro rfl;exact rx
theorem Xm{x v:V}{u w:Value}(hv:v=.non\/∃b,v=.bl b)(rx:RelV x u)(rv:RelV v w):plainIs u w=true:=by rcases hv with rfl | ⟨b,rfl⟩<;>(cases rv;cases x<;>first | (cases rx;rfl) | (obtain⟨t,rfl⟩:=rx;rfl))
theorem ajU{X:Cx}{v:V}(hv:v=.non\/∃b,v=.bl b):OpR X (compareOp .Is) (aac false v):=by intro pins s σ H x y u w Q I rx ry h;obtain⟨rfl,q⟩:=h;refine wpAny_is_plain (Xm hv rx ry) ?_;rw[aez hv rx ry];rw[Bool.false_xor]at q;exact⟨.bl _,H,I,rfl,q⟩
theorem afh{X:Cx}{v:V}(hv:v=.non\/∃b,v=.bl b):OpR X (compareOp .IsNot) (aac true v):=by intro pins s σ H x y u w Q I rx ry h;obtain⟨rfl,q⟩:=h;refine wpAny_isNot_plain (Xm hv rx ry) ?_;rw[aez hv rx ry];rw[Bool.true_xor]at q;exact⟨.bl _,H,I,rfl,q⟩
def Cv(neg:Bool)(c:Dat)(a:QF):QF:=λM Z=>(a M Z).bind λd=>.ok (.bool (neg ^^ vY c d))
section
variable{X:Cx}{aj:aQ}{W:WX}{a b c:Expr}{fa fb fc:QF}{pos:Pos}
theorem anf{op:CmpOp}{neg:Bool}{d:Dat}{v:V}(hc:scD d=some v)(hr:OpR X (compareOp op) (aac neg v))(ha:QW aj X W a fa)(hb:PE X b (tC v))(hm:behindInMarks op b=false):QE aj X W (.Compare a [op] [b] pos) (Cv neg d fa):=
 PE.weak (pe_cmpR hr ha hb hm) λσ H Q ⟨g,Z,M,I,h⟩=>by
  refine tW.go I h.bnd λe x H1 h1 e1 r1=>?_;refine⟨rfl,?_⟩;rw[abH r1 hc];exact h1 _ H1 e1 (.bl _)
end
def Im:Dat->Bool
 |.none=>true
 |.bool _=>true
 |.int _=>true
 |.str _=>true
 |_=>false
def inB:Dat->Dat->Out Bool
 |d,.list ds=>Out.when (okd 12 d&&nH 12 ds) (.ok (ds.any λz=>PyData.eqv z d))
 |d,.tuple ds=>Out.when (Im d&&ds.all Im) (.ok (ds.any λz=>PyData.eqv z d))
 |.str x,.str z=>match x.cps.toList with
  |[c]=>.ok (decide (c∈z.cps.toList))
  |_=>.bad
 |_,_=>.bad
def inD(neg:Bool)(d e:Dat):Out Dat:=(inB d e).bind λb=>.ok (.bool (neg ^^ b))
section
variable{K:asv}{g:Gh}{H:Hp}
theorem Q9{v:V}{d:Dat}(f:Im d=true)(h:Rep K g H v d):flatV v=true:=by
 cases h with
 |tup _ _=>cases f
 |lst _ _=>cases f
 |obj _=>cases f
 |_=>rfl
theorem Nz:∀{vs:List V} {ds:List Dat},ds.all Im=true->aJ K g H vs ds->vs.all flatV=true
 |_,_,_,.nil=>rfl
 |_,_,f,.cons h t=>by
  rw[atc,asw]at f;rw[atc,Q9 f.1 h,Nz f.2 t];rfl
theorem VH{v w:V}{d e:Dat}(f1:Im d=true)(f2:Im e=true)(h1:Rep K g H v d)(h2:Rep K g H w e):eqV v w=PyData.eqv d e:=by
 cases h1 with
 |tup _ _=>cases f1
 |lst _ _=>cases f1
 |obj _=>cases f1
 |non=>cases h2 with
  |tup _ _=>cases f2
  |lst _ _=>cases f2
  |obj _=>cases f2
  |_=>simp[eqV,PyData.eqv]
 |bl b=>cases h2 with
  |tup _ _=>cases f2
  |lst _ _=>cases f2
  |obj _=>cases f2
  |_=>simp[eqV,PyData.eqv]
 |int b=>cases h2 with
  |tup _ _=>cases f2
  |lst _ _=>cases f2
  |obj _=>cases f2
  |_=>simp[eqV,PyData.eqv]
 |str b=>cases h2 with
  |tup _ _=>cases f2
  |lst _ _=>cases f2
  |obj _=>cases f2
  |_=>simp[eqV,PyData.eqv]
theorem abv{w:V}{e:Dat}(f2:Im e=true)(h2:Rep K g H w e):∀{vs:List V} {ds:List Dat},ds.all Im=true->aJ K g H vs ds->inV w vs=ds.any λz=>PyData.eqv z e
 |_,_,_,.nil=>rfl
 |v::vs,d::ds,f,.cons h t=>by
  rw[atc,asw]at f;have ih:=abv f2 h2 f.2 t;unfold inV at ih |-
  rw[aty,aty,ih,VH f.1 f2 h h2]
theorem acp{v:V}{d:Dat}(f:Im d=true)(h:dZ K g H v d):Rep K g H v d:=by
 cases d with
 |list _=>cases f
 |_=>exact h
end
def Z4(K:asv)(neg:Bool):R2:=λx y H Q=>(∃d ds,Dp K H x d/\Dp K H y (.list ds)/\SeqAt.shaped d=true/\SeqAt.shaped (.list ds)=true/\Q (.bl (neg ^^ (ds.any λz=>PyData.eqv z d))) H)\/
 (∃p xs,y=.ref p/\(SqL K H p xs\/SqT K H p xs)/\flatV x=true/\xs.all flatV=true/\Q (.bl (neg ^^ inV x xs)) H)\/∃(c:Nat) (z:Str),x=.str ⟨#[c]⟩/\y=.str z/\Q (.bl (neg ^^ decide (c∈z.cps.toList))) H
theorem aj1{X:Cx}(hu:X.A.units+65<cLine):OpR X (compareOp .In) (Z4 X.K false):=λpins s σ H x y v u Q I rx ry h=>by
 unfold Z4 at h;simp only[Bool.false_xor]at h;rcases h with⟨d,ds,h⟩|⟨p,xs,h⟩|h
 .exact op_inD hu pins s σ H x y v u Q I rx ry ⟨d,ds,h⟩
 .exact op_in_seq pins s σ H x y v u Q I rx ry ⟨p,xs,h⟩
 .exact op_in_sign pins s σ H x y v u Q I rx ry h
theorem afC{X:Cx}(hu:X.A.units+65<cLine):OpR X (compareOp .NotIn) (Z4 X.K true):=λpins s σ H x y v u Q I rx ry h=>by
 unfold Z4 at h;simp only[Bool.true_xor]at h;rcases h with⟨d,ds,h⟩|⟨p,xs,h⟩|h
 .exact op_notInD hu pins s σ H x y v u Q I rx ry ⟨d,ds,h⟩
 .exact op_notIn_seq pins s σ H x y v u Q I rx ry ⟨p,xs,h⟩
 .exact op_notIn_sign pins s σ H x y v u Q I rx ry h
theorem ahQ{K:asv}{aj:aQ}{W:WX}{neg:Bool}:rA aj K W (inD neg) (Z4 K neg):=λσ g H x y d e Q k rx ry h=>by
 replace h:=Out.sat.bnd h
 unfold inB at h;split at h
 .next ds=>
  obtain⟨hz,h⟩:=h.lE;rw[asw]at hz;have e2:okd 13 (.list ds)=true:=by rw[okd];exact hz.2
  exact .inl ⟨_,ds,rx.dp hz.1,ry.dp e2,CN hz.1 (by decide),CN e2 (by decide),h _ H (Ex.refl H) (.bl _)⟩
 .next ds=>
  obtain⟨hz,h⟩:=h.lE;rw[asw]at hz;obtain⟨p,us,rfl,h1,h2⟩:=lV ry;have rx':=acp hz.1 rx;refine .inr (.inl ⟨p,us,rfl,.inr h1,Q9 hz.1 rx',Nz hz.2 h2,?_⟩);rw[abv hz.1 rx' hz.2 h2];exact h _ H (Ex.refl H) (.bl _)
 .next xs z=>
  split at h
  .next c e=>
   refine .inr (.inr ⟨c,z,?_,fV ry,h _ H (Ex.refl H) (.bl _)⟩);rw[fV rx];congr 1;have:xs.cps=#[c]:=by apply Array.toList_inj.mp;rw[e]
   cases xs;simp only at this;rw[this]
  .exact atX h
 .exact atX h
def U4:Dat->Out Dat
 |.int i=>.ok (.int (-i))
 |_=>.bad
def JK:Dat->Out Bool
 |.none=>.ok false
 |.bool b=>.ok b
 |.int i=>.ok (i != 0)
 |.str x=>Out.when (decide (x.length<=100000)) (.ok (!x.cps.toList.isEmpty))
 |.list ds=>.ok (!ds.isEmpty)
 |.tuple ds=>.ok (!ds.isEmpty)
 |_=>.bad
def iJ(a:QF):QT:=λM Z=>(a M Z).bind JK
def Cr:Dat->Out Bool
 |.bool b=>.ok b
 |_=>.bad
def aW(a:QF):QT:=λM Z=>(a M Z).bind Cr
def iz(a:QT):QT:=λM Z=>(a M Z).bind λb=>.ok (!b)
def lJ(a b:QT):QT:=λM Z=>(a M Z).bind λx=>if x=true then b M Z else .ok false
def Eh(a b:QT):QT:=λM Z=>(a M Z).bind λx=>if x=true then .ok true else b M Z
def Wg(a:QT):QF:=λM Z=>(a M Z).bind λb=>.ok (.bool b)
def Ud(t:QT)(a b:QF):QF:=λM Z=>(t M Z).bind λx=>if x=true then a M Z else b M Z
theorem Tv{K:asv}{g:Gh}{H:Hp}{us:List V}{ds:List Dat}(h:aJ K g H us ds):(!ds.isEmpty)=!us.isEmpty:=by cases h<;>rfl
section
variable{X:Cx}{aj:aQ}{W:WX}{a b c:Expr}{fa fb fc:QF}{ta tb:QT}{pos:Pos}
theorem amm(ha:QW aj X W a fa):QE aj X W (.UnaryOp .USub a pos) (fj U4 fa):=
 PE.weak (pe_un un_neg ha) λσ H Q ⟨g,Z,M,I,h⟩=>by
  refine tW.go I h.bnd λd v H1 h1 e1 r1=>?_;unfold U4 at h1;split at h1
  .exact⟨_,cG r1,h1 _ H1 e1 (.int _)⟩
  .exact atX h1
theorem adD{g:Gh}{H:Hp}{v:V}{d:Dat}{P:Bool->Prop}{E:dX->Prop}(r:dZ X.K g H v d)(h:(JK d).sat P E):∃k,TruV X.K v H k/\P k:=by
 unfold JK at h;split at h
 .cases Jj r;exact⟨_,rfl,h⟩
 .cases Fo r;exact⟨_,rfl,h⟩
 .cases cG r;exact⟨_,rfl,h⟩
 .next x=>
  obtain⟨hz,h⟩:=h.lE;cases fV r;refine⟨_,⟨sz_of (atZ hz),?_⟩,h⟩;have e:x.length=x.cps.toList.length:=by rw[ath];rfl
  rw[e];cases x.cps.toList with
  |nil=>rfl
  |cons y ys=>
   refine Eq.symm (bne_iff_ne.mpr ?_);simp;omega
 .obtain⟨p,us,rfl,h1,h2⟩:=iZ r;rw[Tv h2]at h;exact⟨_,.inl ⟨us,h1,rfl⟩,h⟩
 .obtain⟨p,us,rfl,h1,h2⟩:=lV r;rw[Tv h2]at h;exact⟨_,.inr (.inl ⟨us,h1,rfl⟩),h⟩
 .exact atX h
theorem ajY(ha:QW aj X W a fa)(he:∀whole,isTrue a X.env whole=(do let v <-whole;standAt a.pos;holding [v] (truthy v))):uE aj X W a (iJ fa):=
 PT.weak (pt_truth ha he) λσ H Q ⟨g,Z,M,I,h⟩=>by
  refine tW.go I h.bnd λd v H1 h1 e1 r1=>?_;obtain⟨k,h2,h3⟩:=adD r1 h1;exact⟨k,h2,h3 H1 e1⟩
theorem GJ{g:Gh}{H:Hp}{v:V}{d:Dat}{P:Bool->Prop}{E:dX->Prop}(r:dZ X.K g H v d)(h:(Cr d).sat P E):∃k,v=.bl k/\P k:=by
 unfold Cr at h;split at h
 .cases Fo r;exact⟨_,rfl,h⟩
 .exact atX h
theorem alq{op:CmpOp}{r:R2}{o:Dat->Dat->Out Dat}(hr:OpR X (compareOp op) r)(ho:rA aj X.K W o r)(ha:QW aj X W a fa)(hb:QW aj X W b fb)(hm:behindInMarks op b=false):uE aj X W (.Compare a [op] [b] pos) (aW (aA o fa fb)):=
 PT.weak (pt_cmpR hr ha hb hm) λσ H Q ⟨g,Z,M,I,h⟩=>by
  refine SJ ho σ H _ ⟨g,Z,M,I,h.bnd.mono (λd h1 v H' e' r'=>?_) λ_ z=>z⟩;obtain⟨k,h2,h3⟩:=GJ r'.weak h1;exact⟨k,h2,h3 H' e'⟩
theorem amM{op:CmpOp}{neg:Bool}{d:Dat}{v:V}(hc:scD d=some v)(hr:OpR X (compareOp op) (aac neg v))(ha:QW aj X W a fa)(hb:PE X b (tC v))(hm:behindInMarks op b=false):uE aj X W (.Compare a [op] [b] pos) (aW (Cv neg d fa)):=
 PT.weak (pt_cmpR hr ha hb hm) λσ H Q ⟨g,Z,M,I,h⟩=>by
  refine tW.go I h.bnd.bnd λe x H1 h1 e1 r1=>?_;refine⟨rfl,_,rfl,?_⟩;rw[abH r1 hc];exact h1 H1 e1
theorem ame(ha:uE aj X W a ta):uE aj X W (.UnaryOp .Not a pos) (iz ta):=
 PT.weak (pt_not ha) λσ H Q ⟨g,Z,M,I,h⟩=>lQ.go I h.bnd λb H1 h1 e1=>h1 H1 e1
def QWt(aj:aQ)(X:Cx)(W:WX)(e:Expr)(f:QT):Prop:=PW X e (lQ X.K aj W f)
theorem PW.weak{X:Cx}{e:Expr}{t t':TT}(h:PW X e t)(k:∀σ H Q,t' σ H Q->t σ H Q):PW X e t':=⟨λwh pins s σ H Q I q=>h.run wh pins s σ H Q I (k σ H Q q)⟩
theorem al0{rest:List Expr}(ha:uE aj X W a ta)(hb:QWt aj X W (.BoolOp .And (b::rest) pos) tb):QWt aj X W (.BoolOp .And (a::b::rest) pos) (lJ ta tb):=
 PW.weak (pw_and ha hb) λσ H Q ⟨g,Z,M,I,h⟩=>by
  refine lQ.go I h.bnd λx H1 h1 e1=>?_;cases x with
  |true=>exact⟨g,Z,M,I.ex e1,h1.mono (λb k H' e'=>k H' (e1.trans e')) λ_ z=>z.ex e1⟩
  |false=>exact h1 H1 e1
theorem anz{rest:List Expr}(ha:uE aj X W a ta)(hb:QWt aj X W (.BoolOp .Or (b::rest) pos) tb):QWt aj X W (.BoolOp .Or (a::b::rest) pos) (Eh ta tb):=
 PW.weak (pw_or ha hb) λσ H Q ⟨g,Z,M,I,h⟩=>by
  refine lQ.go I h.bnd λx H1 h1 e1=>?_;cases x with
  |true=>exact h1 H1 e1
  |false=>exact⟨g,Z,M,I.ex e1,h1.mono (λb k H' e'=>k H' (e1.trans e')) λ_ z=>z.ex e1⟩
def Rp(a:QF):QF:=Wg (iz (aW a))
def z9(a b:QF):QF:=λM Z=>(a M Z).bind λd=>(Cr d).bind λx=>if x=true then b M Z else .ok (.bool false)
def agR(a b:QF):QF:=λM Z=>(a M Z).bind λd=>(Cr d).bind λx=>if x=true then .ok (.bool true) else b M Z
theorem ajs(ha:QW aj X W a fa):QE aj X W (.UnaryOp .Not a pos) (Rp fa):=
 PE.weak (pe_not ha) λσ H Q ⟨g,Z,M,I,h⟩=>by
  refine tW.go I h.bnd.bnd.bnd λd v H1 h1 e1 r1=>?_;obtain⟨k,h2,h3⟩:=GJ r1 h1;exact⟨k,h2,h3 _ H1 e1 (.bl _)⟩
theorem ajE{rest:List Expr}(ha:QE aj X W a fa)(hb:QE aj X W (.BoolOp .And (b::rest) pos) fb):QE aj X W (.BoolOp .And (a::b::rest) pos) (z9 fa fb):=
 PE.weak (pe_and ha hb) λσ H Q ⟨g,Z,M,I,h⟩=>by
  refine tQ.go I h.bnd λd v H1 h1 e1 r1=>?_;obtain⟨k,h2,h3⟩:=GJ r1.weak h1.bnd;refine⟨k,h2,?_⟩;cases k with
  |true=>exact⟨g,Z,M,I.ex e1,h3.mono (λb k v' H' e' r'=>k v' H' (e1.trans e') r') λ_ z=>z.ex e1⟩
  |false=>exact h3 _ H1 e1 (.bl false)
theorem al8{rest:List Expr}(ha:QE aj X W a fa)(hb:QE aj X W (.BoolOp .Or (b::rest) pos) fb):QE aj X W (.BoolOp .Or (a::b::rest) pos) (agR fa fb):=
 PE.weak (pe_or ha hb) λσ H Q ⟨g,Z,M,I,h⟩=>by
  refine tQ.go I h.bnd λd v H1 h1 e1 r1=>?_;obtain⟨k,h2,h3⟩:=GJ r1.weak h1.bnd;refine⟨k,h2,?_⟩;cases k with
  |false=>exact⟨g,Z,M,I.ex e1,h3.mono (λb k v' H' e' r'=>k v' H' (e1.trans e') r') λ_ z=>z.ex e1⟩
  |true=>exact h3 _ H1 e1 (.bl true)
theorem af7(hc:uE aj X W c ta)(ha:QE aj X W a fa)(hb:QE aj X W b fb):QE aj X W (.IfExp c a b pos) (Ud ta fa fb):=
 PE.weak (pe_ifExp hc ha hb) λσ H Q ⟨g,Z,M,I,h⟩=>by
  refine lQ.go I h.bnd λx H1 h1 e1=>?_;cases x with
  |true=>exact⟨g,Z,M,I.ex e1,h1.mono (λb k v' H' e' r'=>k v' H' (e1.trans e') r') λ_ z=>z.ex e1⟩
  |false=>exact⟨g,Z,M,I.ex e1,h1.mono (λb k v' H' e' r'=>k v' H' (e1.trans e') r') λ_ z=>z.ex e1⟩
def mj(o o':Dat->Dat->Out Dat)(a b c:QF):QT:=λM Z=>(a M Z).bind λx=>(b M Z).bind λy=>(o x y).bind λz=>(Cr z).bind λk=>if k=true then(c M Z).bind λw=>(o' y w).bind Cr else .ok false
theorem aaA{r r':R2}{o o':Dat->Dat->Out Dat}(ho:rA aj X.K W o r)(ho':rA aj X.K W o' r'){σ:L2.St}{H:Hp}{Q:VK}{P:Bool->Hp->Prop}(hP:∀k H',P k H'->Q (.bl k) H')(h:lQ X.K aj W (mj o o' fa fb fc) σ H P):tChain r r' (tW X.K aj W fa) (tW X.K aj W fb) (tW X.K aj W fc) σ H Q:=by
 obtain⟨g,Z,M,I,h⟩:=h;refine tW.go I h.bnd λd v H1 h1 e1 r1=>?_;have I1:=I.ex e1;refine tW.go I1 (h1.bnd.mono (λ_ z=>z) λ_ z=>z.ex e1) λd2 v2 H2 h2 e2 r2=>?_;have I2:=I1.ex e2;have r1':=r1.ex e2 I1.kd;refine ho σ g H2 v v2 d d2 _ I2.kd r1' r2 (h2.bnd.mono (λz hz u H3 e3 r3=>?_) λ_ z=>(z.ex e1).ex e2);obtain⟨k,h4,h5⟩:=GJ r3.weak hz.bnd;refine⟨k,h4,?_⟩;have I3:=I2.ex e3;have e13:=(e1.trans e2).trans e3;cases k with
 |false=>exact hP _ _ (h5 H3 e13)
 |true=>
  refine tW.go I3 (h5.bnd.mono (λ_ z=>z) λ_ z=>z.ex e13) λd4 v4 H4 h6 e4 r4=>?_;refine ho' σ g H4 v2 v4 d2 d4 _ (I3.ex e4).kd ((r2.ex e3 I2.kd).ex e4 I3.kd) r4 (h6.bnd.mono (λz hz u H5 e5 r5=>?_) λ_ z=>(z.ex e13).ex e4);obtain⟨k,rfl,h8⟩:=GJ r5.weak hz;exact hP _ _ (h8 H5 ((e13.trans e4).trans e5))
theorem agO{op op':CmpOp}{r r':R2}{o o':Dat->Dat->Out Dat}(hr:OpR X (compareOp op) r)(hr':OpR X (compareOp op') r')(ho:rA aj X.K W o r)(ho':rA aj X.K W o' r')(ha:QW aj X W a fa)(hb:QW aj X W b fb)(hc:QW aj X W c fc)(hm:lastMarks [op,op'] [b,c]=false) :
  uE aj X W (.Compare a [op,op'] [b,c] pos) (mj o o' fa fb fc):=
 PT.weak (pt_chain hr hr' ha hb hc hm) λσ H Q h=>aaA ho ho' (λk H' z=>⟨k,rfl,z⟩) h
theorem agX{op op':CmpOp}{r r':R2}{o o':Dat->Dat->Out Dat}(hr:OpR X (compareOp op) r)(hr':OpR X (compareOp op') r')(ho:rA aj X.K W o r)(ho':rA aj X.K W o' r')(ha:QW aj X W a fa)(hb:QW aj X W b fb)(hc:QW aj X W c fc)(hm:lastMarks [op,op'] [b,c]=false) :
  QE aj X W (.Compare a [op,op'] [b,c] pos) (Wg (mj o o' fa fb fc)):=
 PE.weak (pe_chain hr hr' ha hb hc hm) λσ H Q ⟨g,Z,M,I,h⟩=>aaA (P:=λb H1=>Q (.bl b) H1) ho ho' (λk H' z=>z) ⟨g,Z,M,I,h.bnd.mono (λb h1 H' e'=>h1 _ H' e' (.bl b)) λ_ z=>z⟩
end
def aY:Dat->Dat->Out Dat
 |.list ds,.int i=>match atI ds i with
  |some d=>.ok d
  |none=>.bad
 |.tuple ds,.int i=>match atI ds i with
  |some d=>.ok d
  |none=>.bad
 |.str z,.int i=>Out.when (decide (z.length<=100000)) (match atI z.cps.toList i with
  |some c=>.ok (.str ⟨#[c]⟩)
  |none=>.bad)
 |_,_=>.bad
theorem ab2{K:asv}{g:Gh}{H:Hp}{us:List V}{ds:List Dat}{i:Int}{d:Dat}(h:aJ K g H us ds)(e:atI ds i=some d):∃v,atI us i=some v/\Rep K g H v d:=by
 unfold atI at e |-
 rw[h.length];cases hj:ixN ds.length i with
 |none=>rw[hj]at e;cases e
 |some j=>
  rw[hj]at e;obtain⟨v,h1,h2⟩:=h.get (i:=j) e;exact⟨v,h1,h2⟩
def akh(K:asv):R2:=λx y H Q=>rIxL K x y H Q\/rIxT K x y H Q\/rIxS x y H Q
theorem aoO{X:Cx}:IxR X (akh X.K):=λvalue slice pins s σ H x y v u Q I rx ry h hs=>by
 rcases h with h|h|h
 .exact ix_list value slice pins s σ H x y v u Q I rx ry h hs
 .exact ix_tup value slice pins s σ H x y v u Q I rx ry h hs
 .exact ix_str value slice pins s σ H x y v u Q I rx ry h hs
theorem anl{K:asv}{aj:aQ}{W:WX}:rA aj K W aY (akh K):=λσ g H x y d e Q k rx ry h=>by
 unfold aY at h;split at h
 .split at h
  .next z hz=>
   obtain⟨p,us,rfl,h1,h2⟩:=iZ rx;obtain⟨v,h3,h4⟩:=ab2 h2 hz;exact .inl ⟨p,us,_,v,rfl,cG ry,h1,h3,h v H (Ex.refl H) h4⟩
  .exact atX h
 .split at h
  .next z hz=>
   obtain⟨p,us,rfl,h1,h2⟩:=lV rx;obtain⟨v,h3,h4⟩:=ab2 h2 hz;exact .inr (.inl ⟨p,us,_,v,rfl,cG ry,h1,h3,h v H (Ex.refl H) h4⟩)
  .exact atX h
 .obtain⟨hl,h⟩:=h.lE;split at h
  .next c hz=>exact .inr (.inr ⟨_,_,c,fV rx,cG ry,sz_of (atZ hl),hz,h _ H (Ex.refl H) (.str _)⟩)
  .exact atX h
 .exact atX h
def cutD{α:Type}(xs:List α)(lo hi:Option Int):List α:=(xs.drop (HT.sIx xs.length 0 lo)).take (HT.sIx xs.length xs.length hi-HT.sIx xs.length 0 lo)
abbrev QO:=Mo->Env->Out (Option Int)
def fD:QO:=λ_ _=>.ok none
def Bx:Dat->Out Int
 |.int i=>.ok i
 |_=>.bad
def dW(a:QF):QO:=λM Z=>(a M Z).bind λd=>(Bx d).bind λi=>.ok (some i)
def slD(d:Dat)(lo hi:Option Int):Out Dat:=
 match d with
 |.list ds=>.ok (.list (cutD ds lo hi))
 |.tuple ds=>.ok (.tuple (cutD ds lo hi))
 |.str z=>Out.when (decide (z.length<=100000)) (.ok (.str (cutS z lo hi)))
 |_=>.bad
def pZ(a:QF)(lo hi:QO):QF:=λM Z=>(a M Z).bind λd=>(lo M Z).bind λl=>(hi M Z).bind λh=>slD d l h
def tQO(K:asv)(aj:aQ)(W:WX)(f:QO):TO:=λσ H Q=>∃g Z M,SInv K aj σ H g Z M/\(f M Z).sat (λo=>∀H',Ex H H'->Q o H') (rB K aj W g H σ)
def QOe(aj:aQ)(X:Cx)(W:WX)(e:Option Expr)(f:QO):Prop:=PO X e (tQO X.K aj W f)
def ald(K:asv):V->Option Int->Option Int->Hp->VK->Prop:=λx lo hi H Q=>rSlL K x lo hi H Q\/rSlA K x lo hi H Q\/rSlS x lo hi H Q
theorem aoB{X:Cx}:SlR X (ald X.K):=λpins s σ H x v vl vu lo hi sl Q I rx hs pl pu h=>by
 rcases h with h|h|h
 .exact sl_list pins s σ H x v vl vu lo hi sl Q I rx hs pl pu h
 .exact sl_tupA pins s σ H x v vl vu lo hi sl Q I rx hs pl pu h
 .exact sl_str pins s σ H x v vl vu lo hi sl Q I rx hs pl pu h
theorem am3{K:asv}{g:Gh}{H:Hp}{x:V}{d:Dat}{lo hi:Option Int}{Q:VK}{E:dX->Prop}(k:Kd g H)(rx:dZ K g H x d)(h:(slD d lo hi).sat (λz=>∀v H',Ex H H'->Rep K g H' v z->Q v H') E):ald K x lo hi H Q:=by
 unfold slD at h;have hc:∀{us:List V} {ds:List Dat},aJ K g H us ds->aJ K g H (cutV us lo hi) (cutD ds lo hi):=λ{us ds} t=>by
  unfold cutV cutD;rw[t.length];exact(t.drop _).take _
 split at h
 .obtain⟨p,us,rfl,h1,h2⟩:=iZ rx;exact .inl ⟨p,us,rfl,h1,λq nq=>h _ _ (Ex.new nq) (.lst (.inl ⟨at7,k.fresh nq⟩) ((hc h2).ex (Ex.new nq) k))⟩
 .next ds=>
  obtain⟨p,us,rfl,h1,h2⟩:=lV rx;refine .inr (.inl ⟨p,us,rfl,h1,λz=>?_,λ_ q nq=>h _ _ (Ex.new nq) (.tup (st_of at7) ((hc h2).ex (Ex.new nq) k))⟩);have e:cutD ds lo hi=ds:=by unfold cutD;rw[<-h2.length,z.1,z.2,h2.length];simp
  rw[e]at h;exact h _ H (Ex.refl H) (.tup h1 h2)
 .obtain⟨hz,h⟩:=h.lE;exact .inr (.inr ⟨_,fV rx,sz_of (atZ hz),h _ H (Ex.refl H) (.str _)⟩)
 .exact atX h
section
variable{X:Cx}{aj:aQ}{W:WX}{a b:Expr}{fa fb:QF}{pos p2:Pos}
theorem ana(ha:QW aj X W a fa)(hb:QW aj X W b fb)(hs:PlainIx b):QE aj X W (.Subscript a b pos) (aA aY fa fb):=
 PE.weak (pe_ix aoO ha hb hs) λσ H Q h=>SJ anl σ H Q h
theorem PO.weak{X:Cx}{e:Option Expr}{t t':TO}(h:PO X e t)(k:∀σ H Q,t' σ H Q->t σ H Q):PO X e t':=⟨λpins s σ H Q I q=>h.run pins s σ H Q I (k σ H Q q)⟩
theorem aiW:QOe aj X W none fD:=PO.weak po_none λσ H Q ⟨g,Z,M,I,h⟩=>h H (Ex.refl H)
theorem ajA(ha:QW aj X W a fa):QOe aj X W (some a) (dW fa):=PO.weak (po_some ha) λσ H Q ⟨g,Z,M,I,h⟩=>by
 refine tW.go I h.bnd λd v H1 h1 e1 r1=>?_;have h1:=h1.bnd;unfold Bx at h1;split at h1
 .exact⟨_,cG r1,h1 H1 e1⟩
 .exact atX h1
theorem amV{lo hi:Option Expr}{fl fh:QO}(ha:QW aj X W a fa)(hl:QOe aj X W lo fl)(hh:QOe aj X W hi fh):QE aj X W (.Subscript a (.Slice lo hi none p2) pos) (pZ fa fl fh):=
 PE.weak (pe_slice aoB ha hl hh) λσ H Q ⟨g,Z,M,I,h⟩=>by
  refine tW.go I h.bnd λd v H1 h1 e1 r1=>?_;have I1:=I.ex e1;refine⟨g,Z,M,I1,h1.bnd.mono (λl h2 H2 e2=>?_) λ_ z=>z.ex e1⟩;have I2:=I1.ex e2;refine⟨g,Z,M,I2,h2.bnd.mono (λu h3 H3 e3=>?_) λ_ z=>(z.ex e1).ex e2⟩;exact am3 (I2.ex e3).kd ((r1.ex e2 I1.kd).ex e3 I2.kd) (h3.mono (λz hz v' H' e' r'=>hz v' H' (((e1.trans e2).trans e3).trans e') r') λ_ z=>z)
end
def KH(aj:aQ)(K:asv)(W:WX)(o:Dat->Out Dat)(r:List V->Hp->VK->Prop):Prop:=∀(σ:L2.St) (g:Gh) (H:Hp) (x:V) (d:Dat) (Q:VK),Kd g H->dZ K g H x d->
 (o d).sat (λz=>∀v H',Ex H H'->Rep K g H' v z->Q v H') (rB K aj W g H σ)->r [x] H Q
def Fn2(aj:aQ)(K:asv)(W:WX)(o:Dat->Dat->Out Dat)(r:List V->Hp->VK->Prop):Prop:=∀(σ:L2.St) (g:Gh) (H:Hp) (x y:V) (d e:Dat) (Q:VK),Kd g H->dZ K g H x d->dZ K g H y e->
 (o d e).sat (λz=>∀v H',Ex H H'->Rep K g H' v z->Q v H') (rB K aj W g H σ)->r [x,y] H Q
def BV(f:Value)(x:Str):Prop:=bootBuiltins x=some f/\x≠"__name__"/\(x==("__debug__" : Str))=false
def nst:Expr->Bool
 |.Starred _ _=>false
 |_=>true
section
variable{X:Cx}{aj:aQ}{W:WX}{a b c:Expr}{fa fb fc:QF}{pos p:Pos}{x:Str}
theorem bQ{env:PySem.Env}{a:Expr}(h:nst a=true)(es:List Expr):starEach (a::es) env=(false,eval a env)::starEach es env:=by cases a<;>first | rfl | cases h
theorem star_any{env:PySem.Env}{pos:Pos}:∀(es:List Expr),es.all nst=true->(backTo pos (starEach es env)).any (·.1)=false
 |[],_=>by with_unfolding_all rfl
 |a::es,h=>by
  rw[atc,asw]at h;rw[bQ h.1];have ih:=star_any (env:=env) (pos:=pos) es h.2;unfold backTo at ih |-
  rw[asy,aty,ih];rfl
theorem ahx{f:Value}{id:String}{r:List V->Hp->VK->Prop}{o:Dat->Out Dat}(hf:f=.builtin id\/f=.type id)(hc:CallR X f r)(ho:KH aj X.K W o r)(hg:Gl X x)(hm:X.mg x=none)(hv:BV f x)(ha:QW aj X W a fa)(hs:nst a=true):QE aj X W (.Call (.Name x p) [a] [] pos) (fj o fa):=by
 have h1:=pa_cons ha pa_nil (bQ hs []);have key:PE X (.Call (.Name x p) [a] [] pos) (tCB r (tCons (tW X.K aj W fa) tNil)):=by
  rcases hf with rfl|rfl
  .exact pe_callB hc hg hm hv.1 h1 hv.2.1 hv.2.2 (bQ hs []) (by with_unfolding_all rfl)
  .exact pe_callTy hc hg hm hv.1 h1 hv.2.1 hv.2.2 (bQ hs []) (by with_unfolding_all rfl)
 refine PE.weak key λσ H Q ⟨g,Z,M,I,h⟩=>?_;refine tW.go I h.bnd λd v H1 h1 e1 r1=>?_;exact ho σ g H1 v d Q (I.kd.ex e1) r1 (h1.mono (λz hz u H' e' r'=>hz u H' (e1.trans e') r') λ_ z=>z.ex e1)
theorem amB{f:Value}{id:String}{r:List V->Hp->VK->Prop}{o:Dat->Dat->Out Dat}(hf:f=.builtin id\/f=.type id)(hc:CallR X f r)(ho:Fn2 aj X.K W o r)(hg:Gl X x)(hm:X.mg x=none)(hv:BV f x)(ha:QW aj X W a fa)(hb:QW aj X W b fb)(hs:nst a=true)(hs2:nst b=true):QE aj X W (.Call (.Name x p) [a,b] [] pos) (aA o fa fb):=by
 have h1:=pa_cons ha (pa_cons hb pa_nil (bQ hs2 [])) (bQ hs [b]);have key:PE X (.Call (.Name x p) [a,b] [] pos) (tCB r (tCons (tW X.K aj W fa) (tCons (tW X.K aj W fb) tNil))):=by
  rcases hf with rfl|rfl
  .exact pe_callB hc hg hm hv.1 h1 hv.2.1 hv.2.2 (bQ hs [b]) (star_any [b] (by simp[hs2]))
  .exact pe_callTy hc hg hm hv.1 h1 hv.2.1 hv.2.2 (bQ hs [b]) (star_any [b] (by simp[hs2]))
 refine PE.weak key λσ H Q ⟨g,Z,M,I,h⟩=>?_;refine tW.go I h.bnd λd v H1 h1 e1 r1=>?_;have I1:=I.ex e1;refine tW.go I1 (h1.bnd.mono (λ_ z=>z) λ_ z=>z.ex e1) λd2 v2 H2 h2 e2 r2=>?_;exact ho σ g H2 v v2 d d2 Q (I1.ex e2).kd (r1.ex e2 I1.kd) r2 (h2.mono (λz hz u H' e' r'=>hz u H' ((e1.trans e2).trans e') r') λ_ z=>(z.ex e1).ex e2)
end
def j8:Dat->Out Dat
 |.list ds=>.ok (.int ds.length)
 |.tuple ds=>.ok (.int ds.length)
 |.str x=>Out.when (decide (x.length<=100000)) (.ok (.int x.length))
 |_=>.bad
def N7:Dat->Out Dat
 |.int i=>.ok (.int (if i<0 then -i else i))
 |_=>.bad
def wO:Dat->Dat->Out Dat
 |.int i,.int j=>.ok (.int (if j>i then j else i))
 |_,_=>.bad
def JM:Dat->Dat->Out Dat
 |.int i,.int j=>.ok (.int (if j<i then j else i))
 |_,_=>.bad
def intsOf:List Dat->Option (List Int)
 |[]=>some []
 |.int i::r=>(intsOf r).map (i::·)
 |_::_=>none
def uD:List Dat->Option (List Bool)
 |[]=>some []
 |.bool i::r=>(uD r).map (i::·)
 |_::_=>none
theorem JH{K:asv}{g:Gh}{H:Hp}:∀{us:List V} {ds:List Dat} {ns:List Int},aJ K g H us ds->intsOf ds=some ns->us=ns.map V.int
 |_,_,ns,.nil,e=>by cases e;rfl
 |_,_,ns,.cons (d:=d) (ds:=ds) h t,e=>by
  cases d with
  |int i=>
   rw[intsOf]at e;cases hr:intsOf ds with
   |none=>rw[hr]at e;cases e
   |some r=>
    rw[hr]at e;cases e;cases h;rw[JH t hr];rfl
  |_=>cases e
theorem NQ{K:asv}{g:Gh}{H:Hp}:∀{us:List V} {ds:List Dat} {ns:List Bool},aJ K g H us ds->uD ds=some ns->us=ns.map V.bl
 |_,_,ns,.nil,e=>by cases e;rfl
 |_,_,ns,.cons (d:=d) (ds:=ds) h t,e=>by
  cases d with
  |bool i=>
   rw[uD]at e;cases hr:uD ds with
   |none=>rw[hr]at e;cases e
   |some r=>
    rw[hr]at e;cases e;cases h;rw[NQ t hr];rfl
  |_=>cases e
@[simp]theorem Dd (ns:List Int):intsOf (ns.map PyData.int)=some ns:=by
 induction ns with
 |nil=>rfl
 |cons n ns ih=>rw[asy,intsOf,ih];rfl
@[simp]theorem Bh (ns:List Bool):uD (ns.map PyData.bool)=some ns:=by
 induction ns with
 |nil=>rfl
 |cons n ns ih=>rw[asy,uD,ih];rfl
def Yx:Dat->Out Dat
 |.list ds=>match intsOf ds with
  |some ns=>.ok (.int ns.sum)
  |none=>.bad
 |_=>.bad
def Hj:Int->List Int->Int
 |m,[]=>m
 |m,n::ns=>Hj (if n>m then n else m) ns
theorem Xo:∀(ns:List Int) (m:Int),(Hj m ns∈m::ns)/\∀y∈m::ns,y<=Hj m ns
 |[],m=>⟨by simp[Hj],λy h=>by simp at h;subst h;exact Int.le_refl _⟩
 |n::ns,m=>by
  obtain⟨h1,h2⟩:=Xo ns (if n>m then n else m);have hm:m<=(if n>m then n else m):=by split<;>omega
  have hn:n<=(if n>m then n else m):=by split<;>omega
  have h3:=h2 _ asC;refine⟨?_,λy hy=>?_⟩
  .show Hj (if n>m then n else m) ns∈_;rcases asN.mp h1 with e|e
   .rw[e];split
    .exact asB _ asC
    .exact asC
   .exact asB _ (asB _ e)
  .show y<=Hj (if n>m then n else m) ns;rcases asN.mp hy with e|hy
   .omega
   .rcases asN.mp hy with e|hy
    .omega
    .exact h2 y (asB _ hy)
def maxD:Dat->Out Dat
 |.list ds=>match intsOf ds with
  |some (n::ns)=>.ok (.int (Hj n ns))
  |_=>.bad
 |_=>.bad
def M4:Dat->Out Dat
 |.list ds=>match uD ds with
  |some bs=>.ok (.bool (bs.all id))
  |none=>.bad
 |_=>.bad
def QD:Dat->Out Dat
 |.list ds=>match uD ds with
  |some bs=>.ok (.bool (bs.any id))
  |none=>.bad
 |_=>.bad
def nu:Dat->Out Dat
 |.list ds=>.ok (.tuple ds)
 |.tuple ds=>.ok (.tuple ds)
 |_=>.bad
def Og:Dat->Out Dat
 |.list ds=>.ok (.list ds)
 |.tuple ds=>.ok (.list ds)
 |_=>.bad
def intD:Dat->Out Dat
 |.int i=>.ok (.int i)
 |.bool k=>.ok (.int (if k then 1 else 0))
 |.str x=>Out.when (decide (x.length<=640)) (match PySem.intText? x with
  |some n=>.ok (.int n)
  |none=>.bad)
 |_=>.bad
def ahl(K:asv):List V->Hp->VK->Prop:=λxs H Q=>(∃p ys,xs=[.ref p]/\(SqL K H p ys\/SqT K H p ys)/\Q (.int ys.length) H)\/∃z,xs=[.str z]/\z.length<=sizeLine/\Q (.int z.length) H
theorem ajF{X:Cx}:CallR X (.builtin "len") (ahl X.K):=λpins s σ H xs us Q I r h=>h.elim (λh=>call_len_seq pins s σ H xs us Q I r h) λh=>call_len_str pins s σ H xs us Q I r h
def ahi:List V->Hp->VK->Prop:=λxs H Q=>((∃i,xs=[.int i]/\Q (.int i) H)\/∃k,xs=[.bl k]/\Q (.int (if k then 1 else 0)) H)\/∃a n,xs=[.str a]/\PySem.intText? a=some n/\a.length<=640/\Q (.int n) H
theorem ak0{X:Cx}:CallR X (.type "int") ahi:=λpins s σ H xs us Q I r h=>h.elim (λh=>call_int1 pins s σ H xs us Q I r h) λh=>call_int_str pins s σ H xs us Q I r h
section
variable{K:asv}{aj:aQ}{W:WX}
theorem alH:KH aj K W j8 (ahl K):=λσ g H x d Q k rx h=>by
 unfold j8 at h;split at h
 .obtain⟨p,us,rfl,h1,h2⟩:=iZ rx;rw[<-h2.length]at h;exact .inl ⟨p,us,rfl,.inl h1,h _ H (Ex.refl H) (.int _)⟩
 .obtain⟨p,us,rfl,h1,h2⟩:=lV rx;rw[<-h2.length]at h;exact .inl ⟨p,us,rfl,.inr h1,h _ H (Ex.refl H) (.int _)⟩
 .obtain⟨hz,h⟩:=h.lE;cases fV rx;exact .inr ⟨_,rfl,sz_of (atZ hz),h _ H (Ex.refl H) (.int _)⟩
 .exact atX h
theorem ajI:KH aj K W N7 (λxs H Q=>∃i,xs=[.int i]/\Q (.int (if i<0 then -i else i)) H):=λσ g H x d Q k rx h=>by
 unfold N7 at h;split at h
 .cases cG rx;exact⟨_,rfl,h _ H (Ex.refl H) (.int _)⟩
 .exact atX h
theorem ajh:Fn2 aj K W wO (λxs H Q=>∃i j,xs=[.int i,.int j]/\Q (.int (if j>i then j else i)) H):=λσ g H x y d e Q k rx ry h=>by
 unfold wO at h;split at h
 .cases cG rx;cases cG ry;exact⟨_,_,rfl,h _ H (Ex.refl H) (.int _)⟩
 .exact atX h
theorem ah0:Fn2 aj K W JM (λxs H Q=>∃i j,xs=[.int i,.int j]/\Q (.int (if j<i then j else i)) H):=λσ g H x y d e Q k rx ry h=>by
 unfold JM at h;split at h
 .cases cG rx;cases cG ry;exact⟨_,_,rfl,h _ H (Ex.refl H) (.int _)⟩
 .exact atX h
theorem alS:KH aj K W Yx (rSum K):=λσ g H x d Q k rx h=>by
 unfold Yx at h;split at h
 .split at h
  .next ns e=>
   obtain⟨p,us,rfl,h1,h2⟩:=iZ rx;have:=JH h2 e;subst this;exact⟨p,ns,rfl,h1,h _ H (Ex.refl H) (.int _)⟩
  .exact atX h
 .exact atX h
theorem amq:KH aj K W maxD (rMax K):=λσ g H x d Q k rx h=>by
 unfold maxD at h;split at h
 .split at h
  .next n ns e=>
   obtain⟨p,us,rfl,h1,h2⟩:=iZ rx;have:=JH h2 e;subst this;obtain⟨m1,m2⟩:=Xo ns n;refine⟨p,n::ns,rfl,h1,by simp,λm hm hy=>?_⟩;have e2:m=Hj n ns:=Int.le_antisymm (m2 m hm) (hy _ m1);rw[e2];exact h _ H (Ex.refl H) (.int _)
  .exact atX h
 .exact atX h
theorem alc:KH aj K W M4 (rAll K):=λσ g H x d Q k rx h=>by
 unfold M4 at h;split at h
 .split at h
  .next ns e=>
   obtain⟨p,us,rfl,h1,h2⟩:=iZ rx;have:=NQ h2 e;subst this;exact⟨p,ns,rfl,h1,h _ H (Ex.refl H) (.bl _)⟩
  .exact atX h
 .exact atX h
theorem amc:KH aj K W QD (rAny K):=λσ g H x d Q k rx h=>by
 unfold QD at h;split at h
 .split at h
  .next ns e=>
   obtain⟨p,us,rfl,h1,h2⟩:=iZ rx;have:=NQ h2 e;subst this;exact⟨p,ns,rfl,h1,h _ H (Ex.refl H) (.bl _)⟩
  .exact atX h
 .exact atX h
theorem ago:KH aj K W nu (λxs H Q=>∃p ys,xs=[.ref p]/\((SqL K H p ys/\∀l,H l=none->Q (.ref l) (upd H l (.tup ys)))\/(SqT K H p ys/\Q (.ref p) H))):=λσ g H x d Q k rx h=>by
 unfold nu at h;split at h
 .obtain⟨p,us,rfl,h1,h2⟩:=iZ rx;exact⟨p,us,rfl,.inl ⟨h1,λl nl=>h _ _ (Ex.new nl) (.tup (st_of at7) (h2.ex (Ex.new nl) k))⟩⟩
 .obtain⟨p,us,rfl,h1,h2⟩:=lV rx;exact⟨p,us,rfl,.inr ⟨h1,h _ H (Ex.refl H) (.tup h1 h2)⟩⟩
 .exact atX h
theorem ajr:KH aj K W Og (λxs H Q=>∃p ys,xs=[.ref p]/\(SqL K H p ys\/SqT K H p ys)/\∀l,H l=none->Q (.ref l) (upd H l (.lst ys))):=λσ g H x d Q k rx h=>by
 unfold Og at h;split at h
 .obtain⟨p,us,rfl,h1,h2⟩:=iZ rx;exact⟨p,us,rfl,.inl h1,λl nl=>h _ _ (Ex.new nl) (.lst (.inl ⟨at7,k.fresh nl⟩) (h2.ex (Ex.new nl) k))⟩
 .obtain⟨p,us,rfl,h1,h2⟩:=lV rx;exact⟨p,us,rfl,.inr h1,λl nl=>h _ _ (Ex.new nl) (.lst (.inl ⟨at7,k.fresh nl⟩) (h2.ex (Ex.new nl) k))⟩
 .exact atX h
theorem akR:KH aj K W intD ahi:=λσ g H x d Q k rx h=>by
 unfold intD at h;split at h
 .cases cG rx;exact .inl (.inl ⟨_,rfl,h _ H (Ex.refl H) (.int _)⟩)
 .cases Fo rx;exact .inl (.inr ⟨_,rfl,h _ H (Ex.refl H) (.int _)⟩)
 .obtain⟨hz,h⟩:=h.lE;split at h
  .next n e=>
   cases fV rx;exact .inr ⟨_,n,rfl,e,atZ hz,h _ H (Ex.refl H) (.int _)⟩
  .exact atX h
 .exact atX h
end
inductive Ly where
 |int|bool|str|tuple|list
def Ly.name:Ly->String
 |.int=>"int"
 |.bool=>"bool"
 |.str=>"str"
 |.tuple=>"tuple"
 |.list=>"list"
def j9(t:Ly):Dat->Option Bool
 |.none=>some false
 |.int _=>some (match t with
  |.int=>true
  |_=>false)
 |.bool _=>some (match t with
  |.int=>true
  |.bool=>true
  |_=>false)
 |.str _=>some (match t with
  |.str=>true
  |_=>false)
 |.tuple _=>some (match t with
  |.tuple=>true
  |_=>false)
 |.list _=>some (match t with
  |.list=>true
  |_=>false)
 |.dict _=>none
def iK(t:Ly)(d:Dat):Out Dat:=match j9 t d with
 |some b=>.ok (.bool b)
 |none=>.bad
def afZ:Dat->String
 |.none=>"NoneType"
 |.int _=>"int"
 |.bool _=>"bool"
 |.str _=>"str"
 |.tuple _=>"tuple"
 |.list _=>"list"
 |.dict _=>"dict"
theorem amo{K:asv}{H:Hp}{a:Addr}{xs:List V}(h:SqL K H a xs):TyX K H (.ref a) (.type "list"):=by
 rcases h with(h|⟨o,h⟩)|⟨o,its,n,h1,h2,_⟩
 .exact .base (.lst h)
 .exact .base (.frz h)
 .exact .kList h1 h2
theorem alY{K:asv}{H:Hp}{a:Addr}{xs:List V}(h:SqT K H a xs):TyX K H (.ref a) (.type "tuple"):=by
 rcases h with(h|⟨o,h⟩)|⟨o,its,n,h1,h2,_⟩
 .exact .base (.tup h)
 .exact .fTuple h
 .exact .kTuple h1 h2
theorem anq{K:asv}{g:Gh}{H:Hp}{x:V}{d:Dat}(h:dZ K g H x d)(hd:∀kv,d≠.dict kv):TyX K H x (.type (afZ d)):=by
 cases d with
 |none=>cases Jj h;exact .base .non
 |bool b=>cases Fo h;exact .base (.bl _)
 |int b=>cases cG h;exact .base (.int _)
 |str b=>cases fV h;exact .base (.str _)
 |list b=>obtain⟨a,us,rfl,h1,_⟩:=iZ h;exact amo h1
 |tuple b=>obtain⟨a,us,rfl,h1,_⟩:=lV h;exact alY h1
 |dict kv=>exact absurd rfl (hd kv)
theorem ajy{K:asv}{t:Ly}{d:Dat}{b:Bool}(h:j9 t d=some b):PySem.W.kitOne K (.type (afZ d)) (.type t.name)=some b/\∀kv,d≠.dict kv:=by
 cases d with
 |dict kv=>cases h
 |_=>cases t<;>cases h<;>exact⟨kit_ty (by dsimp only[afZ,Ly.name];decide +kernel),λ_ z=>nomatch z⟩
def uK(t:Ly)(a:QF):QF:=fj (iK t) a
section
variable{X:Cx}{aj:aQ}{W:WX}{a b:Expr}{fa:QF}{pos p p2:Pos}{x y:Str}
theorem akp{t:Ly}(hg:Gl X x)(hm:X.mg x=none)(hv:BV (.builtin "isinstance") x)(hg2:Gl X y)(hm2:X.mg y=none)(hv2:BV (.type t.name) y)(ha:QW aj X W a fa)(hs:nst a=true):QE aj X W (.Call (.Name x p) [a,.Name y p2] [] pos) (uK t fa):=by
 have hb:PE X (.Name y p2) (tC (.ty t.name)):=pe_bltn hg2 hm2 hv2.1 rfl hv2.2.1 hv2.2.2;have h1:=pa_cons ha (pa_cons hb pa_nil (bQ (a:=.Name y p2) rfl [])) (bQ hs [.Name y p2]);have key:=pe_callB (pos:=pos) (p:=p) call_isi hg hm hv.1 h1 hv.2.1 hv.2.2 (bQ hs [.Name y p2]) (star_any [.Name y p2] rfl);refine PE.weak key λσ H Q ⟨g,Z,M,I,h⟩=>?_;refine tW.go I h.bnd λd v H1 h1 e1 r1=>?_;unfold iK at h1;split at h1
 .next bb e=>
  obtain⟨k1,k2⟩:=ajy (K:=X.K) e;exact⟨v,_,_,_,bb,rfl,.ty _,anq r1 k2,k1,h1 _ H1 e1 (.bl _)⟩
 .exact atX h1
end
inductive Src where
 |lst (a:Addr)|tup (a:Addr)|str (x:Str)
def chars(x:Str):List V:=x.cps.toList.map λc=>V.str ⟨#[c]⟩
def Src.sq(K:asv)(H:Hp)(us:List V):Src->Prop
 |.lst a=>SqL K H a us
 |.tup a=>SqT K H a us
 |.str x=>us=chars x
def Src.it(h:Heap)(i:Addr)(n:Nat):Src->Prop
 |.lst a=>h.IsListIter i a n
 |.tup a=>h.IsTupleIter i a n
 |.str x=>∃t,h.IsStrIter i (strIterType x) x t n
def Src.ad:Src->List Addr
 |.lst a=>[a]
 |.tup a=>[a]
 |.str _=>[]
section
variable{X:Cx}{pins:List (Addr×Obj)}{σ:L2.St}{H:Hp}{s:Shared}
theorem Src.inj{S:Src}{us ws:List V}(I:L2.Inv X pins σ H s)(h:S.sq X.K H us)(h':S.sq X.K H ws):us=ws:=by
 cases S with
 |lst a=>exact I.list_inj h h'
 |tup a=>exact I.tuple_inj h h'
 |str x=>exact Eq.trans h (Eq.symm h')
theorem Src.draws{S:Src}{us:List V}{i:Addr}{n:Nat}(I:L2.Inv X pins σ H s)(hA:X.A.handled=none)(hs:S.sq X.K H us)(hi:S.it s.heap i n)(hne:∀a∈S.ad,a≠i) :
  ∃(P:Nat->Value->Prop) (St:Nat->Heap->Prop),Draws X.prog X.w X.A.in1 i (i::S.ad) us.length P St/\St n s.heap/\(∀m h,St m h->S.it h i m)/\∀(m:Nat) (v:Value) (x:V),P m v->us[m]?=some x->RelV x v:=by
 cases S with
 |lst a=>
  obtain⟨its,rv,p,hz⟩:=I.list hs;have hl:=rv.length;have D:=Draws.list (prog:=X.prog) (w:=X.w) (A:=X.A.in1) hA i a (hne a (by simp[Src.ad])) its.toArray;rw[List.size_toArray,<-hl]at D;refine⟨_,_,D,⟨hi,p.isList⟩,λm h z=>z.1,λm v x hv hx=>?_⟩;obtain⟨u,hu,ru⟩:=rv.get hx;have:v=u:=asZ (hv.symm.trans (by simpa using hu));rw[this];exact ru
 |tup a=>
  obtain⟨its,rv,p,hz⟩:=I.tuple hs;have hl:=rv.length;have D:=Draws.tuple (prog:=X.prog) (w:=X.w) (A:=X.A.in1) hA i a (hne a (by simp[Src.ad])) its.toArray;rw[List.size_toArray,<-hl]at D;refine⟨_,_,D,⟨hi,p⟩,λm h z=>z.1,λm v x hv hx=>?_⟩;obtain⟨u,hu,ru⟩:=rv.get hx;have:v=u:=asZ (hv.symm.trans (by simpa using hu));rw[this];exact ru
 |str x=>
  obtain⟨t,hi⟩:=hi;have hl:us.length=x.cps.size:=by rw[show us=chars x from hs];unfold chars;rw[asK,ath]
  have D:=Draws.text (prog:=X.prog) (w:=X.w) (A:=X.A.in1) hA i x t;rw[<-hl]at D;refine⟨_,_,D,hi,λm h z=>⟨t,z⟩,λm v y hv hy=>?_⟩;obtain⟨c,u,hc,rfl⟩:=hv;rw[show us=chars x from hs]at hy;unfold chars at hy;rw[asS,atl,hc]at hy;cases hy;exact⟨u,rfl⟩
theorem Src.Ow{S:Src}{h:Heap}{i:Addr}{n:Nat}(hi:S.it h i n):∃o,h.get? i=some o/\∀v,o.data≠.cell v:=by
 cases S with
 |lst a=>obtain⟨o,e,_,d⟩:=hi;exact⟨o,e,λv q=>by rw[d]at q;cases q⟩
 |tup a=>obtain⟨o,e,_,d⟩:=hi;exact⟨o,e,λv q=>by rw[d]at q;cases q⟩
 |str x=>obtain⟨t,o,e,_,d⟩:=hi;exact⟨o,e,λv q=>by rw[d]at q;cases q⟩
theorem Src.O8{S:Src}{h h':Heap}{i:Addr}{n:Nat}(hi:S.it h i n)(k:∀o,h.get? i=some o->h'.get? i=some o):S.it h' i n:=by
 cases S with
 |lst a=>exact hi.at k
 |tup a=>exact hi.at k
 |str x=>obtain⟨t,o,e,r⟩:=hi;exact⟨t,o,k o e,r⟩
end
def ItE(K:asv)(S:Src)(k₀:Int):It:=
 ⟨λi H=>∃(us:List V) (x:V),S.sq K H us/\us[i]?=some x,λi H v H'=>∃T x,v=.ref T/\H T=none/\H'=upd H T (.tup [.int (k₀+(i:Int)),x])/\∀us,S.sq K H us->us[i]?=some x,λi H=>∃us:List V,S.sq K H us/\us.length=i⟩
theorem anJ{P:Program}{w:World}{K:asv}{elts:List Expr}{kk:Nat}{tpos:Pos}(S:Src)(e i0:Addr)(k₀:Int)(hne:e≠i0)(ha:∀a∈S.ad,e≠a/\a≠i0) :
  Turn P w K (.Tuple elts kk tpos) (ItE K S k₀) [e,i0] e (λi h=>(∃old,IsEnum h e i0 (k₀+(i:Int)) old)/\S.it h i0 i) where
 mem:=by simp
 obj:=λi h st b hb=>by
  obtain⟨⟨old,he⟩,hi⟩:=st;have e':b=e\/b=i0:=by simpa using hb
  rcases e' with z|z
  .rw[z];exact⟨_,he,λv q=>nomatch q⟩
  .rw[z];exact Src.Ow hi
 keep:=λi h h' st k=>let⟨⟨old,he⟩,hi⟩:=st;⟨⟨old,k e (by simp) _ he⟩,Src.O8 hi λo q=>k i0 (by simp) o q⟩
 item:=by
  intro X hP hw hK hc i pins s σ H E I hf st hg;subst hP hw hK;obtain⟨⟨old,he⟩,hit⟩:=st;obtain⟨us,x,hq,hx⟩:=hg;obtain⟨PP,St,D,st0,stI,rel⟩:=Src.draws I (I.ok.hd hc) hq hit λa z=>(ha a z).2;have hel:e<s.heap.objs.size:=Heap.lt_size he;have hil:i0<s.heap.objs.size:=by obtain⟨_,q,_⟩:=Src.Ow hit;exact Heap.lt_size q
  have hin:i<us.length:=(asx.mp hx).1;refine wpAny_pyNext_enum_itemC D he st0 hin hne (λz=>?_) λv h' tk hP ho hst' hT hsz hk=>?_
  .rcases asN.mp z with z|z
   .exact hne z
   .exact(ha e z).1 rfl
  have ru:=rel i v x hP hx;refine⟨_,rfl,wpAny_letOwnedTupleGo_enum (s:={ s with heap:=h',toks:=tk+1 }) ho λh'' he' sb=>?_⟩;have hT2:h''.get? s.heap.objs.size=some { cls:=.type "tuple",data:=.seq #[.int (k₀+(i:Int)) tk,v] }:=(sb.2 _ (Nat.ne_of_gt hel)).trans hT
  have new:ObjOk X.prog X.w (upd H s.heap.objs.size (.tup [.int (k₀+(i:Int)),x])) h'' s.heap.objs.size (.tup [.int (k₀+(i:Int)),x]):=
   ⟨by show 2<=sizeLine;decide,[.int (k₀+(i:Int)) tk,v],.cons ⟨_,rfl⟩ (.cons ru .nil),⟨_,hT2,rfl,_,rfl⟩⟩
  have I1:L2.Inv X pins σ (upd H s.heap.objs.size (.tup [.int (k₀+(i:Int)),x])) { s with heap:=h'',toks:=tk+1 }:=
   I.turnedNew (ch:=[e,i0]) (λb ob hb q=>(sb.2 b (λz=>hb (by simp[z]))).trans (hk b ob (λz=>hb (by simp[z])) (λz=>hb (by simp[z])) q)) hf (as6 _) new
  refine⟨.ref s.heap.objs.size,_,I1,rfl,⟨_,x,rfl,I.hok.fresh (as6 _),rfl,λys hy=>by rw[Src.inj I hy hq];exact hx⟩,⟨⟨v,?_⟩,Src.O8 (stI _ _ hst') λo q=>(sb.2 i0 (Ne.symm hne)).trans q⟩,λb hb=>?_⟩
  .have e1:k₀+((i+1:Nat):Int)=k₀+(i:Int)+1:=by omega
   rw[e1];exact he'
  .have hb':b<s.heap.objs.size:=by
    have e':b=e\/b=i0:=by simpa using hb
    rcases e' with z|z
    .rw[z];exact hel
    .rw[z];exact hil
   rw[upd_ne (atg hb')];exact(hf b hb).1
 done:=by intro X hP hw hK hc i pins s σ H E I hf st hg;subst hP hw hK;obtain⟨⟨old,he⟩,hit⟩:=st;obtain⟨us,hq,hx⟩:=hg;obtain⟨PP,St,D,st0,stI,rel⟩:=Src.draws I (I.ok.hd hc) hq hit λa z=>(ha a z).2;obtain⟨f0,f1,f2,f3,f4,f5⟩:=hf i0 (by simp);rw[<-hx]at st0;exact wpAny_pyNext_enum_endD D he st0 λh' eb=>⟨rfl,I.turned (t':=s.toks) (λb o hb q=>eb b o hb q) f0 f1 f3 f4 f5⟩
 self:=λA i s Q E st h=>let⟨⟨_,he⟩,_⟩:=st;wpAny_pyIter_enum he h
theorem Src.begins{X:Cx}{pins:List (Addr×Obj)}{σ:L2.St}{H:Hp}{s:Shared}{S:Src}{us:List V}{x:V}{v:Value}(I:L2.Inv X pins σ H s)(hs:S.sq X.K H us)(hx:(∃a,x=.ref a/\S.ad=[a]/\(S=.lst a\/S=.tup a))\/∃y,S=.str y/\x=.str y)(r:RelV x v) :
  ∃(o:Obj) (B:Heap->Prop),Begins v o B/\B s.heap/\(∀h i,h.get? i=some o->S.it h i 0)/\∀a∈S.ad,a<s.heap.objs.size:=by
 rcases hx with⟨a,rfl,ha,h|h⟩|⟨y,h,rfl⟩
 .subst h;cases r;obtain⟨its,rv,p,_⟩:=I.list hs;obtain⟨o1,ho1,_⟩:=id p.isList;refine⟨_,_,begins_list a its.toArray,p.isList,λh i e=>⟨_,e,rfl,rfl⟩,λb hb=>?_⟩;rw[ha]at hb;rw[asF.mp hb];exact Heap.lt_size ho1
 .subst h;cases r;obtain⟨its,rv,p,_⟩:=I.tuple hs;obtain⟨o1,ho1,_⟩:=id p;refine⟨_,_,begins_tuple a its.toArray,p,λh i e=>⟨_,e,rfl,rfl⟩,λb hb=>?_⟩;rw[ha]at hb;rw[asF.mp hb];exact Heap.lt_size ho1
 .subst h;obtain⟨t,rfl⟩:=r;exact⟨_,_,begins_text y t,atV,λh i e=>⟨t,_,e,rfl,rfl⟩,λb hb=>nomatch hb⟩
def srcOf(x:V)(S:Src):Prop:=(∃a,x=.ref a/\S.ad=[a]/\(S=.lst a\/S=.tup a))\/∃y,S=.str y/\x=.str y
def iEn(K:asv)(ta:TA)(k₀:Int):TI:=λσ H R=>ta σ H λvs H1=>∃x S us,vs=[x]/\srcOf x S/\S.sq K H1 us/\R (ItE K S k₀) H1
section
variable{X:Cx}{a b:Expr}{ta tb:TA}{p pos tpos:Pos}{elts:List Expr}{kk:Nat}
theorem ajL{pins:List (Addr×Obj)}{σ:L2.St}{H:Hp}{s:Shared}(I:L2.Inv X pins σ H s):∀b∈[s.heap.objs.size+1,s.heap.objs.size],FpOk X pins H b:=λb hb=>by
 have e':b=s.heap.objs.size+1\/b=s.heap.objs.size:=by simpa using hb
 have hle:s.heap.objs.size<=b:=by
  rcases e' with z|z
  .rw[z];exact Nat.le_add_right _ _
  .rw[z];exact as6 _
 exact I.fpOk hle (I.hok.fresh hle)
theorem ahs{pins:List (Addr×Obj)}{σ:L2.St}{H:Hp}{s:Shared}{S:Src}{us:List V}{x:V}{v:Value}{o:Obj}{k₀:Int}{R:It->Hp->Prop}{h':Heap}(I:L2.Inv X pins σ H s)(hlt:∀a∈S.ad,a<s.heap.objs.size)(hit:∀h i,h.get? i=some o->S.it h i 0)
  (he:IsEnum h' (s.heap.objs.size+1) s.heap.objs.size k₀ .none) (ho:h'.get? s.heap.objs.size=some o) (hk:∀b o,s.heap.get? b=some o->h'.get? b=some o) (q:R (ItE X.K S k₀) H) :
  wpAny (model X.prog X.w) X.A (pyIter (.ref (s.heap.objs.size+1))) (PIE X pins σ (.Tuple elts kk tpos) R) X.xe { s with heap:=h' }:=by
 refine wpAny_pyIter_enum he ?_;have I2:L2.Inv X pins σ H { s with heap:=h' }:=I.kept (t':=s.toks) hk;refine⟨s.heap.objs.size+1,[s.heap.objs.size+1,s.heap.objs.size],_,_,H,rfl,I2,anJ S (s.heap.objs.size+1) s.heap.objs.size k₀ (Nat.succ_ne_self _) (λa z=>?_),⟨⟨.none,?_⟩,hit _ _ ho⟩,ajL I,q⟩
 .have:=hlt a z;exact⟨Nat.ne_of_gt (atE this),atg this⟩
 .rw[show k₀+((0:Nat):Int)=k₀ by simp];exact he
theorem ag8{v:Value}{o:Obj}{B:Heap->Prop}(hB:Begins v o B) :
  Meets (Builtin.«enumerate.__new__» ⟨[.type "enumerate",v],[]⟩) (λ_ R s=>B s.heap/\
   R (.ok (.ret (.ref (s.heap.push o).objs.size))) { s with heap:=(s.heap.push o).push { cls:=.type "enumerate",data:=.fields #[.none,.bool false,.ref s.heap.objs.size,rawInt 0,.none,.none] } }):=
 .of_wp λprog w A R s hh=>by
  obtain⟨hp,gs,dr,tk,os⟩:=s;obtain⟨hb,hr⟩:=hh;have hsub:=sub_enumerate;have qi:∀{A':Around} {E:Value->Shared->Prop} {Q:Value->Shared->Prop},Q (.ref hp.objs.size) ⟨hp.push o,gs,dr,tk,os⟩->wpAny (model prog w) A' (pyIter v) Q E ⟨hp,gs,dr,tk,os⟩:=λz=>hB.iter prog w _ _ ⟨hp,gs,dr,tk,os⟩ _ hb z
  wp_walk using qi
  refine wpAny_stack_any λst=>at4 ?_;split
  .next c _ _ _ _ _=>
   cases(c==Value.type "enumerate")<;>(wp_walk using qi;exact⟨_,rfl,hr⟩)
  .wp_walk using qi
   exact⟨_,rfl,hr⟩
theorem adY{prog:Program}{w:World}{A:Around}{E:Value->Shared->Prop}{s:Shared}{v:Value}{o:Obj}{B:Heap->Prop}{Q:Value->Shared->Prop}(hB:Begins v o B)(hb:B s.heap)
  (h:∀h',IsEnum h' (s.heap.objs.size+1) s.heap.objs.size 0 .none->h'.get? s.heap.objs.size=some o->(∀b o,s.heap.get? b=some o->h'.get? b=some o)->Q (.ref (s.heap.objs.size+1)) { s with heap:=h' }) :
  wpAny (model prog w) A (call (.type "enumerate") [v]) Q E s:=by
 refine callType_new F.called_enumerate (by decide) (F.typeCall_enumerate_1 _) (F.newCall_enumerate_1 _) (λob=>F.args_object_init_2 ob _) F.entry_enumerate_new (ag8 hB) ⟨hb,?_⟩;have hz:(s.heap.push o).objs.size=s.heap.objs.size+1:=Heap.size_push ..;have he:=Heap.get?_push_size (s.heap.push o) (o:={ cls:=.type "enumerate",data:=.fields #[.none,.bool false,.ref s.heap.objs.size,rawInt 0,.none,.none] }) rfl
 show _/\_;rw[hz]at he |-
 exact⟨⟨_,he,rfl⟩,h _ he (Heap.get?_push_of_some _ (Heap.get?_push_size _ hB.free)) λb u z=>Heap.get?_push_of_some _ (Heap.get?_push_of_some _ z)⟩
theorem amF(hg:Gl X "enumerate")(hm:X.mg "enumerate"=none)(ha:PA X [a] ta)(hs:nst a=true):PI X (.Tuple elts kk tpos) (.Call (.Name "enumerate" p) [a] [] pos) (iEn X.K ta 0):=by refine⟨λpins s σ H R I h=>?_⟩;refine Call_ (ld_blt I hg hm boot_enumerate (PyProof.Rows.callWith_type1 (thn (ha.run pos pins s σ H _ I h) λus s1 ⟨vs,H1,I1,r1,x,S,us',ev,hx,hq,q⟩=>?_) (bQ hs []) (by with_unfolding_all rfl)));subst ev;obtain⟨v,rfl,r⟩:=vals1 r1;obtain⟨o,B,hB,hb,hit,hlt⟩:=Src.begins I1 hq hx r;exact adY hB hb λh' he ho hk=>ahs (x:=x) (v:=v) (us:=us') I1 hlt hit he ho hk q
theorem ae0{M:Model}{A:Around}{E:Value->Shared->Prop}{s:Shared}{pos:Pos}{T:String}{args:List (Bool×Sem Value)}{kws:List (Option Str×Sem Value)}{Q:Value->Shared->Prop}(h1:args.any (·.1)=false)(h2:kws.any (·.1.isNone)=false)
  (h:wpAny M A (evalArgs (.type T) true args kws) (λz s₁=>wpAny M A (call (.type T) z.pos z.kw) Q E s₁) E s):wpAny M A (callWith pos (.type T) [] args kws) Q E s:=by
 unfold callWith;refine at3 (wpAny_holding (wpAny_mono h (λz s₁ hz=>at3 (wpAny_standAt ?_)) λ_ _ y=>y));rw[h1,h2];refine at3 (at4 ?_);exact at3 (wpAny_mono hz (λr s₂ hr=>at3 (wpAny_holding (wpAny_point (at4 hr)))) λ_ _ y=>y)
theorem akP{k₀:Int}{j:Nat}{kp kp2:Pos}(hk0 : -(2^63)<=k₀)(hk1:k₀<2^63)(hg:Gl X "enumerate")(hm:X.mg "enumerate"=none)(ha:PA X [a] ta)(hs:nst a=true) :
  PI X (.Tuple elts kk tpos) (.Call (.Name "enumerate" p) [a] [⟨some "start",.Constant (.int k₀) j kp,kp2⟩] pos) (iEn X.K ta k₀):=by
 refine⟨λpins s σ H R I h=>?_⟩;have hpk:PK X [⟨some "start",.Constant (.int k₀) j kp,kp2⟩] (tCons (tC (.int k₀)) tNil):=pk_cons pe_int pk_nil
 refine wpAny_Call_Name_kw (ld_blt I hg hm boot_enumerate (ae0 (star_any [a] (by simp[hs])) (by with_unfolding_all rfl) ?_));refine PyProof.Rows.evalArgs_kw2 (by with_unfolding_all rfl) (thn (ha.run pos pins s σ H _ I h) λus s1 ⟨vs,H1,I1,r1,x,S,us',ev,hx,hq,q⟩=>?_) (by first | (rw[bQ hs];done) | (rw[bQ hs];rfl) | rw[bQ hs]);refine thn (hpk.run pos pins s1 σ H1 (λzs H2=>zs=[.int k₀]/\H2=H1) I1 ⟨rfl,rfl⟩) λws s2 ⟨zs,H2,I2,r2,e1,e2⟩=>?_;subst ev e1 e2;obtain⟨v,rfl,r⟩:=vals1 r1;obtain⟨w,rfl,t,rfl⟩:=vals1 r2;obtain⟨o,B,hB,hb,hit,hlt⟩:=Src.begins I2 hq hx r;exact enum_begins_start hB hb hk0 hk1 λh' he ho _ hk=>ahs (x:=x) (v:=v) (us:=us') I2 hlt hit he ho hk q
def ItZ(K:asv)(S T:Src):It:=
 ⟨λi H=>∃(us ws:List V) (x y:V),S.sq K H us/\T.sq K H ws/\us[i]?=some x/\ws[i]?=some y,λi H v H'=>∃U x y,v=.ref U/\H U=none/\H'=upd H U (.tup [x,y])/\(∀us,S.sq K H us->us[i]?=some x)/\∀ws,T.sq K H ws->ws[i]?=some y,
  λi H=>∃us ws:List V,S.sq K H us/\T.sq K H ws/\i=min us.length ws.length⟩
theorem amS{P:Program}{w:World}{K:asv}{S T:Src}{N:Addr}(h1:∀a∈S.ad,a<N)(h2:∀a∈T.ad,a<N) :
  Turn P w K (.Tuple elts kk tpos) (ItZ K S T) [N+4,N+2,N+3,N,N+1] (N+4) (λn h=>IsZip h (N+4) (N+2) (N+3) .none/\IsPair h (N+2) (.ref N) (.ref (N+1))/\(∃x y,IsPair h (N+3) x y)/\S.it h N n/\T.it h (N+1) n) where
 mem:=by simp
 obj:=λn h q c hc=>by
  obtain⟨gz,gI,⟨x,y,gO⟩,i1,i2⟩:=q;simp only[asN,ate,or_false]at hc;rcases hc with rfl|rfl|rfl|rfl|rfl
  .exact⟨_,gz,λv q=>nomatch q⟩
  .exact⟨_,gI,λv q=>nomatch q⟩
  .exact⟨_,gO,λv q=>nomatch q⟩
  .exact Src.Ow i1
  .exact Src.Ow i2
 keep:=λn h h' q k=>by
  obtain⟨gz,gI,⟨x,y,gO⟩,i1,i2⟩:=q;exact⟨k _ (by simp) _ gz,k _ (by simp) _ gI,⟨x,y,k _ (by simp) _ gO⟩,Src.O8 i1 λo e=>k _ (by simp) o e,Src.O8 i2 λo e=>k _ (by simp) o e⟩
 item:=by
  intro X hP hw hK hc n pins s σ H E I hf q hg;subst hP hw hK;obtain⟨gz,gI,⟨x0,y0,gO⟩,i1,i2⟩:=q;obtain⟨us,ws,x,y,qx,qy,hx,hy⟩:=hg;obtain⟨P1,St1,D1,st1,b1,rel1⟩:=Src.draws I (I.ok.hd hc) qx i1 λa z=>atg (h1 a z);obtain⟨P2,St2,D2,st2,b2,rel2⟩:=Src.draws I (I.ok.hd hc) qy i2 λa z=>atg (atE (h2 a z));have hzl:N+4<s.heap.objs.size:=Heap.lt_size gz;refine wpAny_pyNext_zipD2_item (zip_sep2 h1 h2) D1 D2 gz gI gO st1 st2 (asx.mp hx).1 (asx.mp hy).1 λv1 v2 h' tk p1 p2 z' o' s1 s2 hT hsz hk=>?_;refine⟨_,rfl,wpAny_letOwnedTupleGo_zip (s:={ s with heap:=h',toks:=tk }) z' λh'' z'' sb=>?_⟩;have hT2:=(sb.2 _ (Nat.ne_of_gt hzl)).trans hT;have new:ObjOk X.prog X.w (upd H s.heap.objs.size (.tup [x,y])) h'' s.heap.objs.size (.tup [x,y]):=⟨by show 2<=sizeLine;decide,[v1,v2],.cons (rel1 n v1 x p1 hx) (.cons (rel2 n v2 y p2 hy) .nil),⟨_,hT2,rfl,_,rfl⟩⟩;have I1:L2.Inv X pins σ (upd H s.heap.objs.size (.tup [x,y])) { s with heap:=h'',toks:=tk }:=by refine I.turnedNew (t':=tk) (ch:=[N+4,N+2,N+3,N,N+1]) (λc o hb e=>?_) hf (as6 _) new;simp only[asN,ate,or_false,not_or]at hb;exact(sb.2 c hb.1).trans (hk c o hb.1 hb.2.2.1 hb.2.2.2.1 hb.2.2.2.2 e)
  have ne4:∀k,k≠4->N+k≠N+4:=λk hk z=>hk (atN z);refine⟨.ref s.heap.objs.size,_,I1,rfl,⟨_,x,y,rfl,I.hok.fresh (as6 _),rfl,λl hl=>by rw[Src.inj I hl qx];exact hx,λl hl=>by rw[Src.inj I hl qy];exact hy⟩,⟨z'',?_,⟨v1,v2,?_⟩,?_,?_⟩,λc hcm=>?_⟩
  .exact(sb.2 _ (ne4 2 (by decide))).trans (hk _ _ (ne4 2 (by decide)) (λz=>absurd (atN z) (by decide)) (λz=>absurd (atN (z.trans (Nat.add_zero N).symm)) (by decide)) (λz=>absurd (atN z) (by decide)) gI)
  .exact(sb.2 _ (ne4 3 (by decide))).trans o'
  .exact Src.O8 (b1 _ _ s1) λo e=>(sb.2 _ (ne4 0 (by decide))).trans e
  .exact Src.O8 (b2 _ _ s2) λo e=>(sb.2 _ (ne4 1 (by decide))).trans e
  .have hlt:c<s.heap.objs.size:=by
    simp only[asN,ate,or_false]at hcm;rcases hcm with rfl|rfl|rfl|rfl|rfl
    .exact hzl
    .exact Heap.lt_size gI
    .exact Heap.lt_size gO
    .obtain⟨_,e1,_⟩:=Src.Ow i1;exact Heap.lt_size e1
    .obtain⟨_,e2,_⟩:=Src.Ow i2;exact Heap.lt_size e2
   rw[upd_ne (atg hlt)];exact(hf c hcm).1
 done:=by intro X hP hw hK hc n pins s σ H E I hf q hg;subst hP hw hK;obtain⟨gz,gI,⟨x0,y0,gO⟩,i1,i2⟩:=q;obtain⟨us,ws,qx,qy,hn⟩:=hg;obtain⟨P1,St1,D1,st1,b1,rel1⟩:=Src.draws I (I.ok.hd hc) qx i1 λa z=>atg (h1 a z);obtain⟨P2,St2,D2,st2,b2,rel2⟩:=Src.draws I (I.ok.hd hc) qy i2 λa z=>atg (atE (h2 a z));refine wpAny_pyNext_zipD2_end (zip_sep2 h1 h2) D1 D2 gz gI gO st1 st2 (by omega) (by omega) (by omega) λh' tk hk=>⟨rfl,?_⟩;refine I.turnedL (t':=tk) (ch:=[N+4,N+2,N+3,N,N+1]) (λc o hb e=>?_) hf;simp only[asN,ate,or_false,not_or]at hb;exact hk c o hb.1 hb.2.2.1 hb.2.2.2.1 hb.2.2.2.2 e
 self:=λA n s Q E q h=>wpAny_pyIter_zip q.1 h
def iZp(K:asv)(ta:TA):TI:=λσ H R=>ta σ H λvs H1=>∃x y S T us ws,vs=[x,y]/\srcOf x S/\srcOf y T/\S.sq K H1 us/\T.sq K H1 ws/\R (ItZ K S T) H1
theorem am9(hg:Gl X "zip")(hm:X.mg "zip"=none)(ha:PA X [a,b] ta)(hs:nst a=true)(hs2:nst b=true):PI X (.Tuple elts kk tpos) (.Call (.Name "zip" p) [a,b] [] pos) (iZp X.K ta):=by
 refine⟨λpins s σ H R I h=>?_⟩;refine Call_ (ld_blt I hg hm PyProof.Rows.boot_zip (PyProof.Rows.callWith_type1 (thn (ha.run pos pins s σ H _ I h) λus s1 ⟨vs,H1,I1,r1,x,y,S,T,us',ws',ev,hx,hy,hq,hq2,q⟩=>?_) (bQ hs [b]) (star_any [b] (by simp[hs2]))));subst ev;obtain⟨v1,v2,rfl,rv1,rv2⟩:=vals2 r1;obtain⟨o1,B1,hB1,hb1,hit1,hlt1⟩:=Src.begins I1 hq hx rv1;obtain⟨o2,B2,hB2,hb2,hit2,hlt2⟩:=Src.begins I1 hq2 hy rv2;refine zip_begins2 hB1 hB2 hb1 hb2 λh' hz hTI hTO e1 e2 hsz hk=>wpAny_pyIter_zip hz ?_;have I2:L2.Inv X pins σ H1 { s1 with heap:=h' }:=I1.kept (t':=s1.toks) hk;refine⟨s1.heap.objs.size+4,_,_,_,H1,rfl,I2,amS hlt1 hlt2,⟨hz,hTI,⟨_,_,hTO⟩,hit1 _ _ e1,hit2 _ _ e2⟩,λc hcm=>?_,q⟩;have hle:s1.heap.objs.size<=c:=by simp only[asN,ate,or_false]at hcm;rcases hcm with rfl | rfl | rfl | rfl | rfl<;>first | exact as6 _ | exact Nat.le_add_right _ _
 exact I1.fpOk hle (I1.hok.fresh hle)
end
section
variable{K:asv}{aj:aQ}{q:Bool}{g g':Gh}{H H':Hp}{v:V}{d:Dat}{σ:L2.St}{Z:Env}{M:Mo}
theorem jP.up{l:Addr}:∀{n:Bool} {kvs:List (Dat×Dat)} (r:Gr true g g' H H') (e:Ex H H') (k:Kd g H) (h:jP K aj g H l n kvs),jP K aj g' H' l n kvs
 |false,_,r,e,k,⟨kv,h1,h2,h3⟩=>⟨kv,e _ _ h1,h2,h3.gr r k⟩
 |true,_,r,e,k,⟨o,xs,vs,h1,h2,h3,h4,h5,h6⟩=>⟨o,xs,vs,e _ _ h1,h2,h3,h4.gr r k,h5,h6.gr r k⟩
theorem eZ.up{h:Nat}{f:Str}(r:Gr true g g' H H')(e:Ex H H')(k:Kd g H):∀{fl:jB},eZ K aj g H h f v fl->eZ K aj g' H' h f v fl
 |.dat _,z=>Rep.gr r k z
 |.lst _ _,⟨l,us,h1,h2,h3,h4,h5⟩=>⟨l,us,h1,e _ _ h2,by rw[(r.qg rfl).2];exact h3,h4.gr r k,r.tb h5⟩
 |.dic _ _,⟨l,h1,h2,h3⟩=>⟨l,h1,by rw[(r.qg rfl).2];exact h2,h3.up r e k⟩
theorem cR.up{h:Nat}(r:Gr true g g' H H')(e:Ex H H')(k:Kd g H):∀{fs:List (Str×V)} {gs:List (Str×jB)},cR K aj g H h fs gs->cR K aj g' H' h fs gs
 |_,_,.nil=>.nil
 |_,_,.cons z t=>.cons (eZ.up r e k z) (cR.up r e k t)
theorem gU.up(r:Gr true g g' H H')(e:Ex H H')(k:Kd g H)(w:gU K aj g H M):gU K aj g' H' M where
 len:=by rw[Gh.MJ (r.qg rfl).1];exact w.len
 inj:=by rw[Gh.MJ (r.qg rfl).1];exact w.inj
 ins:=λh a i ha hi hc=>by
  rw[Gh.MJ (r.qg rfl).1]at ha;obtain⟨C,dx,fs,c1,c2,c3⟩:=w.ins h a i ha hi hc;exact⟨C,dx,fs,c1,e _ _ c2,c3.up r e k⟩
 nd:=w.nd
 fd:=w.fd
 tw:=by rw[Gh.MJ (r.qg rfl).1,(r.qg rfl).2];exact w.tw
 dm:=w.dm
 nc:=w.nc
theorem SInv.up(r:Gr true g g' H H')(e:Ex H H')(k':Kd g' H')(I:SInv K aj σ H g Z M):SInv K aj σ H' g' Z M where
 kd:=k'
 wok:=I.wok.up r e I.kd
 len:=I.len
 dat:=λi d h=>by
  obtain⟨v,h1,h2⟩:=I.dat i d h;exact⟨v,h1,h2.gr r I.kd⟩
 own:=λi xs h=>by
  obtain⟨l,us,h1,h2,h3,h4⟩:=I.own i xs h;exact⟨l,us,h1,e _ _ h2,r.Lo l h3,h4.gr r I.kd⟩
 sep:=I.sep
def Gh.add(g:Gh)(D:Addr):Gh:={ g with Lo:=λa=>g.Lo a\/a=D }
theorem Gh.Iu{D:Addr}(n:H D=none)(e:Ex H H'):Gr true g (g.add D) H H' where
 keep:=λa o h _ _=>e a o h
 keepW:=λ_ a o h _=>e a o h
 dom:=Fd e
 tbl:=⟨[],by simp[Gh.add]⟩
 W:=λ_ h=>h
 nW:=λ_ h=>.inl h
 qg:=λ_=>⟨rfl,rfl⟩
 Lc:=rfl
 Lo:=λ_ h=>.inl h
 nLo:=λa h=>h.elim .inl λz=>.inr (by rw[z];exact n)
 kl:=rfl
theorem Gh.alT{D:Addr}{o:HO}(k:Kd g H)(n:H D=none)(e:Ex H H')(hD:H' D=some o)(m:JF o):Kd (g.add D) H' where
 ob:=λa z=>by
  rcases z with z|z|z|z
  .obtain⟨o,h,m⟩:=k.ob a (.inl z);exact⟨o,e a o h,m⟩
  .obtain⟨o,h,m⟩:=k.ob a (.inr (.inl z));exact⟨o,e a o h,m⟩
  .obtain⟨o,h,m⟩:=k.ob a (.inr (.inr z));exact⟨o,e a o h,m⟩
  .rw[z];exact⟨o,hD,m⟩
 lo:=λa z=>by
  rcases z with z|z
  .exact k.lo a z
  .intro w;subst z;exact k.fresh n (.inl w)
 lc:=λa z=>⟨(k.lc a z).1,λy=>y.elim (k.lc a z).2 λy=>by subst y;exact k.fresh n (.inr (.inl z))⟩
theorem SInv.add{D:Addr}{o:HO}(I:SInv K aj σ H g Z M)(n:H D=none)(e:Ex H H')(hD:H' D=some o)(m:JF o):SInv K aj σ H' (g.add D) Z M:=
 I.up (Gh.Iu n e) e (Gh.alT I.kd n e hD m)
theorem SInv.set{j:Nat}(I:SInv K aj σ H g Z M)(r:Rep K g H v d):SInv K aj (σ.set j (some v)) H g (Z.set j (some (.dat d))) M where
 kd:=I.kd
 wok:=I.wok
 len:=by rw[as5,as5];exact I.len
 dat:=λi e h=>by
  by_cases z:j=i
  .subst z;have hj:j<Z.length:=by
    have:=(asx.mp h).1;rw[as5]at this;exact this
   rw[asT hj]at h;cases h;exact⟨v,by rw[asT (by rw[I.len];exact hj)],r⟩
  .rw[asI z]at h;obtain⟨u,h1,h2⟩:=I.dat i e h;exact⟨u,by rw[asI z];exact h1,h2⟩
 own:=λi xs h=>by
  by_cases z:j=i
  .subst z;have hj:j<Z.length:=by
    have:=(asx.mp h).1;rw[as5]at this;exact this
   rw[asT hj]at h;cases h
  .rw[asI z]at h;obtain⟨l,us,h1,h2⟩:=I.own i xs h;exact⟨l,us,by rw[asI z];exact h1,h2⟩
 sep:=λi k xs ys l ne h1 h2 h3=>by
  have nj:∀{i:Nat} {xs:List Dat},(Z.set j (some (.dat d)))[i]?=some (some (.mut xs))->j≠i:=λ{i xs} h z=>by
   subst z;have hj:j<Z.length:=by have:=(asx.mp h).1;rw[as5]at this;exact this
   rw[asT hj]at h;cases h
  have n1:=nj h1;have n2:=nj h2;rw[asI n1]at h1 h3;rw[asI n2]at h2;rw[asI n2];exact I.sep i k xs ys l ne h1 h2 h3
theorem SInv.forget{j:Nat}(I:SInv K aj σ H g Z M):SInv K aj (σ.set j none) H g (Z.set j none) M where
 kd:=I.kd
 wok:=I.wok
 len:=by rw[as5,as5];exact I.len
 dat:=λi e h=>by
  by_cases z:j=i
  .subst z;have hj:j<Z.length:=by
    have:=(asx.mp h).1;rw[as5]at this;exact this
   rw[asT hj]at h;cases h
  .rw[asI z]at h |-
   exact I.dat i e h
 own:=λi xs h=>by
  by_cases z:j=i
  .subst z;have hj:j<Z.length:=by
    have:=(asx.mp h).1;rw[as5]at this;exact this
   rw[asT hj]at h;cases h
  .rw[asI z]at h |-
   exact I.own i xs h
 sep:=λi k xs ys l ne h1 h2 h3=>by
  have nj:∀{i:Nat} {xs:List Dat},(Z.set j none)[i]?=some (some (.mut xs))->j≠i:=λ{i xs} h z=>by
   subst z;have hj:j<Z.length:=by have:=(asx.mp h).1;rw[as5]at this;exact this
   rw[asT hj]at h;cases h
  have n1:=nj h1;have n2:=nj h2;rw[asI n1]at h1 h3;rw[asI n2]at h2;rw[asI n2];exact I.sep i k xs ys l ne h1 h2 h3
def cH(Z:Env):List Nat->Env
 |[]=>Z
 |j::js=>(cH Z js).set j none
theorem SInv.wipe(I:SInv K aj σ H g Z M):∀vs:List Nat,SInv K aj (L2.wipe σ vs) H g (cH Z vs) M
 |[]=>I
 |j::js=>(SInv.wipe I js).forget
end
abbrev gH:=Dat->Env->Option Env
def aF(j:Nat):gH:=λd Z=>some (Z.set j (some (.dat d)))
def vN:List Nat->List Dat->Env->Option Env
 |[],[],Z=>some Z
 |j::js,d::ds,Z=>vN js ds (Z.set j (some (.dat d)))
 |_,_,_=>none
def bF(js:List Nat):gH:=λd Z=>match d with
 |.tuple ds=>vN js ds Z
 |_=>none
def sets(σ:L2.St):List Nat->List V->L2.St
 |j::js,v::vs=>sets (σ.set j (some v)) js vs
 |_,_=>σ
def Ar(K:asv)(aj:aQ)(js:List Nat)(f:gH):TG:=λv σ H Q=>∃g Z M d Z',SInv K aj σ H g Z M/\Rep K g H v d/\f d Z=some Z'/\∀vs,SInv K aj (sets σ js vs) H g Z' M->Q (sets σ js vs) H
def QG(aj:aQ)(X:Cx)(tg:Expr)(js:List Nat)(f:gH):Prop:=PG X tg (Ar X.K aj js f)
theorem PG.weak{X:Cx}{e:Expr}{t t':TG}(h:PG X e t)(k:∀v σ H Q,t' v σ H Q->t v σ H Q):PG X e t':=⟨λpins s σ H v u Q I r q=>h.run pins s σ H v u Q I r (k v σ H Q q)⟩
section
variable{X:Cx}{aj:aQ}{pos:Pos}
theorem UJ{j:Nat}{x:Str}(hN:X.N.Nodup)(hi:X.N[j]?=some x)(hx:Loc X.env.scope x)(hf:X.fn x=true\/X.env.scope.names.lookup x=some .local):QG aj X (.Name x pos) [j] (aF j):=
 PG.weak (pg_name hN hi hx hf) λv σ H Q ⟨g,Z,M,d,Z',I,r,e,q⟩=>by
  cases e;exact q [v] (I.set r)
def Tp(X:Cx):List Expr->List Nat->Prop
 |[],[]=>True
 |.Name x _::es,j::js=>X.N[j]?=some x/\Loc X.env.scope x/\(X.fn x=true\/X.env.scope.names.lookup x=some .local)/\Tp X es js
 |_,_=>False
theorem agE{es:List Expr}{js:List Nat}(h:Tp X es js):(assignEach es X.env).length=js.length/\(assignEach es X.env).findIdx? (·.1)=none:=by
 induction es generalizing js with
 |nil=>
  cases js with
  |nil=>exact⟨by with_unfolding_all rfl,by with_unfolding_all rfl⟩
  |cons j js=>exact atX h
 |cons e es ih=>
  cases js with
  |nil=>cases e<;>exact atX h
  |cons j js=>
   cases e with
   |Name x p=>
    obtain⟨h1,h2⟩:=ih h.2.2.2;have e1:assignEach (.Name x p::es) X.env=(false,assign (.Name x p) X.env)::assignEach es X.env:=by with_unfolding_all rfl
    rw[e1];refine⟨by simp[h1],?_⟩;rw[List.findIdx?_cons,h2];rfl
   |_=>exact atX h
def gNs(js:List Nat):TGs:=λvs σ H Q=>vs.length=js.length/\Q (sets σ js vs) H
theorem WT(hN:X.N.Nodup):∀{es:List Expr} {js:List Nat},Tp X es js->PGs X es (gNs js)
 |[],[],_=>⟨λpins s σ H vs us Q I r h=>by
  obtain⟨e,h⟩:=h;have:vs=[]:=List.length_eq_zero_iff.mp e;subst this;exact pgs_nil.run pins s σ H [] us Q I r ⟨rfl,h⟩⟩
 |.Name x p::es,j::js,h=>by
  have hp:=pgs_cons (pg_name (pos:=p) hN h.1 h.2.1 h.2.2.1) (WT hN h.2.2.2) (by with_unfolding_all rfl);refine⟨λpins s σ H vs us Q I r hq=>?_⟩;obtain⟨e,hq⟩:=hq;cases vs with
  |nil=>cases e
  |cons v vs=>exact hp.run pins s σ H (v::vs) us Q I r ⟨v,vs,rfl,atR e,hq⟩
 |[],_::_,h=>atX h
 |.Name _ _::_,[],h=>atX h
theorem Ue{K:asv}{g:Gh}{H:Hp}{M:Mo}:∀{js:List Nat} {ds:List Dat} {vs:List V} {σ:L2.St} {Z Z':Env},SInv K aj σ H g Z M->aJ K g H vs ds->vN js ds Z=some Z'->vs.length=js.length/\SInv K aj (sets σ js vs) H g Z' M
 |[],_,_,_,_,_,I,.nil,e=>by cases e;exact⟨rfl,I⟩
 |[],_,_,_,_,_,I,.cons _ _,e=>by cases e
 |j::js,_,_,_,_,_,I,.nil,e=>by cases e
 |j::js,_,_,_,_,_,I,.cons r t,e=>by
  obtain⟨h1,h2⟩:=Ue (js:=js) (I.set (j:=j) r) t e;exact⟨by simp[h1],h2⟩
theorem aed{es:List Expr}{js:List Nat}{k:Nat}(hc:X.calm=true)(hN:X.N.Nodup)(h:Tp X es js):QG aj X (.Tuple es k pos) js (bF js):=by
 obtain⟨h1,h2⟩:=agE h;refine PG.weak (pg_tup (n:=js.length) hc (WT hN h) h1 h2) λv σ H Q ⟨g,Z,M,d,Z',I,r,e,q⟩=>?_;unfold bF at e;split at e
 .obtain⟨a,us,rfl,s1,t1⟩:=lV r.weak;obtain⟨l1,I1⟩:=Ue I t1 e;exact⟨a,us,rfl,s1,l1,l1,q us I1⟩
 .cases e
theorem Bc:∀(js:List Nat) (vs:List V) (σ:L2.St) (ws:List Nat),(∀j∈js,j∈ws)->L2.wipe (sets σ js vs) ws=L2.wipe σ ws
 |[],_,_,_,_=>by unfold sets;rfl
 |_::_,[],_,_,_=>by unfold sets;rfl
 |j::js,v::vs,σ,ws,h=>by
  show L2.wipe (sets (σ.set j (some v)) js vs) ws=_;rw[Bc js vs _ ws λk hk=>h k (asB _ hk)];have hj:j∈ws:=h j asC;have key:∀(ws:List Nat) (σ:L2.St),j∈ws->L2.wipe (σ.set j (some v)) ws=L2.wipe σ ws:=by
   intro ws
   induction ws with
   |nil=>intro σ z;cases z
   |cons k ws ih=>
    intro σ z
    show(L2.wipe (σ.set j (some v)) ws).set k none=(L2.wipe σ ws).set k none
    by_cases hk:j∈ws
    .rw[ih σ hk]
    .have e:j=k:=by
      rcases asN.mp z with z|z
      .exact z
      .exact absurd z hk
     subst e;have comm:∀(ws:List Nat),j∉ws->L2.wipe (σ.set j (some v)) ws=(L2.wipe σ ws).set j (some v):=by
      intro ws
      induction ws with
      |nil=>intro _;rfl
      |cons m ws ih2=>
       intro hm
       show(L2.wipe (σ.set j (some v)) ws).set m none=((L2.wipe σ ws).set m none).set j (some v)
       rw[ih2 λz=>hm (asB _ z),List.set_comm _ _ (λz=>hm (by rw[z];exact asC))]
     rw[comm ws hk,List.set_set]
  exact key ws σ hj
end
structure K6(K:asv)(J:It)(C:Gh->Hp->Prop)(ds:List Dat):Prop where
 go:∀g i H,C g H->i<ds.length->J.go i H
 yld:∀g i H x H' d,Kd g H->C g H->ds[i]?=some d->J.yld i H x H'->Ex H H'/\Rep K g H' x d
 stop:∀g i H,C g H->i=ds.length->J.stop i H
 ex:∀g H H',Kd g H->C g H->Ex H H'->C g H'
 add:∀g g' H H',Kd g H->C g H->Gr true g g' H H'->Ex H H'->C g' H'
def acL(C:Gh->Hp->Prop):Prop:=∀q g g' H H',Kd g H->C g H->Gr q g g' H H'->C g' H'
abbrev IF:=Mo->Env->Out (List Dat)
def tI(K:asv)(aj:aQ)(W:WX)(firm:Bool)(f:IF):TI:=λσ H R=>∃g Z M,SInv K aj σ H g Z M/\(f M Z).sat (λds=>∀J C H',Ex H H'->K6 K J C ds->C g H'->(firm=true->acL C)->R J H') (rB K aj W g H σ)
def QI(aj:aQ)(X:Cx)(W:WX)(firm:Bool)(tg e:Expr)(f:IF):Prop:=PI X tg e (tI X.K aj W firm f)
def Dt(x:Str):List Dat:=x.cps.toList.map λc=>.str ⟨#[c]⟩
def kW:Dat->Out (List Dat)
 |.list ds=>.ok ds
 |.tuple ds=>.ok ds
 |.str x=>.ok (Dt x)
 |_=>.bad
def dG(a:QF):IF:=λM Z=>(a M Z).bind kW
def Src.cw(K:asv)(S:Src)(ds:List Dat)(g:Gh)(H:Hp):Prop:=∃us,S.sq K H us/\aJ K g H us ds
def Src.cf(K:asv)(S:Src)(ds:List Dat)(g:Gh)(H:Hp):Prop:=∃us,(match S with
 |.lst a=>QK K g H a us
 |.tup a=>SqT K H a us
 |.str x=>us=chars x)/\aJ K g H us ds
section
variable{K:asv}{g g':Gh}{H H':Hp}{ds es:List Dat}{S T:Src}
theorem Src.amZ{us:List V}(e:Ex H H')(h:S.sq K H us):S.sq K H' us:=by
 cases S with
 |lst a=>exact ex_l e h
 |tup a=>exact ex_t e h
 |str x=>exact h
theorem Src.acy(h:S.cf K ds g H):S.cw K ds g H:=by
 obtain⟨us,h1,h2⟩:=h;refine⟨us,?_,h2⟩;cases S with
 |lst a=>exact QK.sq h1
 |tup a=>exact h1
 |str x=>exact h1
theorem Src.vB:acL (S.cf K ds):=λq g g' H H' k ⟨us,h1,h2⟩ r=>by
 refine⟨us,?_,h2.gr r k⟩;cases S with
 |lst a=>exact r.ls h1
 |tup a=>exact r.sqT k h1
 |str x=>exact h1
theorem Src.MK(k:Kd g H)(h:S.cw K ds g H)(r:Gr true g g' H H')(e:Ex H H'):S.cw K ds g' H':=by obtain⟨us,h1,h2⟩:=h;exact⟨us,Src.amZ e h1,h2.gr r k⟩
theorem Src.Yh(k:Kd g H)(h:S.cw K ds g H)(e:Ex H H'):S.cw K ds g H':=Src.MK k h (Gr.ex e) e
end
section
variable{K:asv}{ds es:List Dat}{S T:Src}
def ItS(K:asv):Src->It
 |.lst a=>Itl K a
 |.tup a=>Itt K a
 |.str x=>Its x
theorem Gn{g:Gh}{H:Hp}(x:Str):aJ K g H (chars x) (Dt x):=by
 unfold chars Dt
 induction x.cps.toList with
 |nil=>exact .nil
 |cons c cs ih=>exact .cons (.str _) ih
theorem K6.of{J:It}{C C':Gh->Hp->Prop}(w:K6 K J C ds)(h:∀g H,C' g H->C g H)(e:∀g H H',Kd g H->C' g H->Ex H H'->C' g H')(a:∀g g' H H',Kd g H->C' g H->Gr true g g' H H'->Ex H H'->C' g' H'):K6 K J C' ds where
 go:=λg i H c hi=>w.go g i H (h g H c) hi
 yld:=λg i H x H' d k c e y=>w.yld g i H x H' d k (h g H c) e y
 stop:=λg i H c e=>w.stop g i H (h g H c) e
 ex:=e
 add:=a
theorem abO:K6 K (ItS K S) (S.cw K ds) ds where
 go:=λg i H ⟨us,h1,h2⟩ hi=>by
  have hx:us[i]?=some (us[i]'(by rw[h2.length];exact hi)):=asz _;cases S with
  |lst a=>exact⟨us,_,h1,hx⟩
  |tup a=>exact⟨us,_,h1,hx⟩
  |str x=>
   show i<x.cps.size;have:=h2.length;rw[show us=chars x from h1]at this;unfold chars at this;rw[asK,ath]at this;omega
 yld:=λg i H x H' d k ⟨us,h1,h2⟩ e y=>by
  obtain⟨v,hv,rv⟩:=h2.get e;cases S with
  |lst a=>
   obtain⟨rfl,y⟩:=y;have:x=v:=asZ ((y us h1).symm.trans hv);rw[this];exact⟨Ex.refl _,rv⟩
  |tup a=>
   obtain⟨rfl,y⟩:=y;have:x=v:=asZ ((y us h1).symm.trans hv);rw[this];exact⟨Ex.refl _,rv⟩
  |str z=>
   obtain⟨rfl,c,hc,rfl⟩:=y;rw[show us=chars z from h1]at hv;unfold chars at hv;rw[asS,atl,hc]at hv;cases hv;exact⟨Ex.refl _,rv⟩
 stop:=λg i H ⟨us,h1,h2⟩ e=>by
  have hl:=h2.length;cases S with
  |lst a=>exact⟨us,h1,by omega⟩
  |tup a=>exact⟨us,h1,by omega⟩
  |str x=>
   show x.cps.size<=i;rw[show us=chars x from h1]at hl;unfold chars at hl;rw[asK,ath]at hl;omega
 ex:=λg H H' k h e=>Src.Yh k h e
 add:=λg g' H H' k h r e=>Src.MK k h r e
def mU(k₀:Int)(ds:List Dat):List Dat:=ds.mapIdx λi d=>.tuple [.int (k₀+(i:Int)),d]
theorem afY{k₀:Int}:K6 K (ItE K S k₀) (S.cw K ds) (mU k₀ ds) where
 go:=λg i H ⟨us,h1,h2⟩ hi=>by
  have hl:i<us.length:=by rw[h2.length];unfold mU at hi;rw[List.length_mapIdx]at hi;exact hi
  exact⟨us,us[i],h1,asz hl⟩
 yld:=λg i H x H' d k ⟨us,h1,h2⟩ e y=>by
  unfold mU at e;rw[atw]at e;cases hd:ds[i]? with
  |none=>rw[hd]at e;cases e
  |some d0=>
   rw[hd]at e;cases e;obtain⟨v,hv,rv⟩:=h2.get hd;obtain⟨T,x0,rfl,nT,rfl,y⟩:=y;have:x0=v:=asZ ((y us h1).symm.trans hv);subst this;exact⟨Ex.new nT,.tup (st_of at7) (.cons (.int _) (.cons (rv.ex (Ex.new nT) k) .nil))⟩
 stop:=λg i H ⟨us,h1,h2⟩ e=>by
  unfold mU at e;rw[List.length_mapIdx,<-h2.length]at e;exact⟨us,h1,e.symm⟩
 ex:=λg H H' k h e=>Src.Yh k h e
 add:=λg g' H H' k h r e=>Src.MK k h r e
def pB(ds es:List Dat):List Dat:=List.zipWith (λd e=>.tuple [d,e]) ds es
theorem ab7:K6 K (ItZ K S T) (λg H=>S.cw K ds g H/\T.cw K es g H) (pB ds es) where
 go:=λg i H ⟨⟨us,h1,h2⟩,⟨ws,h3,h4⟩⟩ hi=>by
  unfold pB at hi;rw[List.length_zipWith,<-h2.length,<-h4.length]at hi;exact⟨us,ws,us[i],ws[i],h1,h3,asz (by omega),asz (by omega)⟩
 yld:=λg i H x H' d k ⟨⟨us,h1,h2⟩,⟨ws,h3,h4⟩⟩ e y=>by
  unfold pB at e;rw[List.getElem?_zipWith]at e;cases hd:ds[i]? with
  |none=>rw[hd]at e;cases e
  |some d0=>
   cases he:es[i]? with
   |none=>rw[hd,he]at e;cases e
   |some e0=>
    rw[hd,he]at e;cases e;obtain⟨v,hv,rv⟩:=h2.get hd;obtain⟨u,hu,ru⟩:=h4.get he;obtain⟨U,x0,y0,rfl,nU,rfl,y1,y2⟩:=y;have:x0=v:=asZ ((y1 us h1).symm.trans hv);subst this;have:y0=u:=asZ ((y2 ws h3).symm.trans hu);subst this;exact⟨Ex.new nU,.tup (st_of at7) (.cons (rv.ex (Ex.new nU) k) (.cons (ru.ex (Ex.new nU) k) .nil))⟩
 stop:=λg i H ⟨⟨us,h1,h2⟩,⟨ws,h3,h4⟩⟩ e=>by
  unfold pB at e;rw[List.length_zipWith,<-h2.length,<-h4.length]at e;exact⟨us,ws,h1,h3,e⟩
 ex:=λg H H' k h e=>⟨Src.Yh k h.1 e,Src.Yh k h.2 e⟩
 add:=λg g' H H' k h r e=>⟨Src.MK k h.1 r e,Src.MK k h.2 r e⟩
def qP(lo:Int)(n:Nat):List Dat:=(List.range n).map λ(i:Nat)=>.int (lo+(i:Int))
theorem W4{lo:Int}{n:Nat}:K6 K (Itr lo n) (λ_ _=>True) (qP lo n) where
 go:=λg i H _ hi=>by
  unfold qP at hi;rw[asK,List.length_range]at hi;exact hi
 yld:=λg i H x H' d k _ e y=>by
  obtain⟨rfl,rfl⟩:=y;unfold qP at e;rw[asS]at e;cases hr:(List.range n)[i]? with
  |none=>rw[hr]at e;cases e
  |some j=>
   rw[hr]at e;cases e;have:j=i:=by obtain⟨h1,h2⟩:=asx.mp hr;rw[List.getElem_range]at h2;exact h2.symm
   subst this;exact⟨Ex.refl _,.int _⟩
 stop:=λg i H _ e=>by
  unfold qP at e;rw[asK,List.length_range]at e;show n<=i;omega
 ex:=λ_ _ _ _ _ _=>trivial
 add:=λ_ _ _ _ _ _ _ _=>trivial
end
section
variable{X:Cx}{aj:aQ}{W:WX}{tg a b:Expr}{fa fb:QF}{pos p tpos:Pos}{elts:List Expr}{kk:Nat}
theorem O6{K:asv}{g:Gh}{H:Hp}{v:V}{d:Dat}{ds:List Dat}{firm:Bool}(r:if firm=true then Rep K g H v d else dZ K g H v d)(h:kW d=.ok ds):∃S,srcOf v S/\S.cw K ds g H/\(firm=true->S.cf K ds g H):=by
 have rw:dZ K g H v d:=by
  cases firm with
  |true=>exact Rep.weak r
  |false=>exact r
 cases d with
 |list es=>
  cases h;obtain⟨l,us,rfl,h1,h2⟩:=iZ rw;refine⟨.lst l,.inl ⟨l,rfl,rfl,.inl rfl⟩,⟨us,h1,h2⟩,λz=>?_⟩;subst z;have r:Rep K g H (.ref l) (.list ds):=r;cases r with
  |lst h3 h4=>exact⟨_,h3,h4⟩
 |tuple es=>
  cases h;obtain⟨l,us,rfl,h1,h2⟩:=lV rw;exact⟨.tup l,.inl ⟨l,rfl,rfl,.inr rfl⟩,⟨us,h1,h2⟩,λ_=>⟨us,h1,h2⟩⟩
 |str x=>
  cases h;cases fV rw;exact⟨.str x,.inr ⟨x,rfl,rfl⟩,⟨_,rfl,Gn x⟩,λ_=>⟨_,rfl,Gn x⟩⟩
 |_=>cases h
def tF(K:asv)(aj:aQ)(W:WX)(firm:Bool)(f:QF):TE:=if firm=true then tQ K aj W f else tW K aj W f
def QF'(aj:aQ)(X:Cx)(W:WX)(firm:Bool)(e:Expr)(f:QF):Prop:=PE X e (tF X.K aj W firm f)
theorem tF.go{K:asv}{firm:Bool}{g:Gh}{H:Hp}{σ:L2.St}{Z:Env}{M:Mo}{f:QF}{k:Dat->Prop}{Q:VK}(I:SInv K aj σ H g Z M)(h:(f M Z).sat k (rB K aj W g H σ))(hk:∀d v H',k d->Ex H H'->(if firm=true then Rep K g H' v d else dZ K g H' v d)->Q v H'):tF K aj W firm f σ H Q:=by
 cases firm with
 |true=>exact tQ.go I h hk
 |false=>exact tW.go I h hk
theorem anj{K:asv}{firm:Bool}{g:Gh}{H H':Hp}{v:V}{d:Dat}(e:Ex H H')(k:Kd g H)(r:if firm=true then Rep K g H v d else dZ K g H v d):if firm=true then Rep K g H' v d else dZ K g H' v d:=by
 cases firm with
 |true=>exact Rep.ex e k r
 |false=>exact dZ.ex e k r
theorem wf{K:asv}{S:Src}{firm:Bool}{J:It}{ds es:List Dat}{R:It->Hp->Prop}{g:Gh}{H H1:Hp}(h:∀J C H',Ex H H'->K6 K J C ds->C g H'->(firm=true->acL C)->R J H')(e1:Ex H H1)(w:K6 K J (S.cw K es) ds)(hw:S.cw K es g H1)(hf:firm=true->S.cf K es g H1):R J H1:=by
 cases firm with
 |true=>exact h J (S.cf K es) H1 e1 (w.of (λ_ _ z=>Src.acy z) (λg H H' k c e=>Src.vB true g g H H' k c (Gr.ex e)) λg g' H H' k c r e=>Src.vB true g g' H H' k c r) (hf rfl) λ_=>Src.vB
 |false=>exact h J (S.cw K es) H1 e1 w hw λz=>nomatch z
theorem YC{firm:Bool}(ha:QF' aj X W firm a fa):QI aj X W firm tg a (dG fa):=by
 refine⟨λpins s σ H R I h=>?_⟩;obtain⟨g,Z,M,SI,hs⟩:=h;have hs:=hs.bnd;have fin:∀(S:Src) (x:V) (H1:Hp) (ds:List Dat),(∀J C H',Ex H H'->K6 X.K J C ds->C g H'->(firm=true->acL C)->R J H')->Ex H H1->S.cw X.K ds g H1->(firm=true->S.cf X.K ds g H1)->R (ItS X.K S) H1:=λS x H1 ds h e1 hw hf=>wf h e1 abO hw hf;cases hfa:fa M Z with
 |bad=>rw[hfa]at hs;exact atX hs
 |exc x=>
  rw[hfa]at hs;exact(pi_list ha).run pins s σ H R I (tF.go (k:=λ_=>False) SI (by rw[hfa];exact hs) λd v H' z=>atX z)
 |ok d=>
  rw[hfa]at hs;cases d with
  |list ds=>
   refine(pi_list ha).run pins s σ H R I (tF.go (k:=λz=>z=.list ds) SI (by rw[hfa];rfl) λd v H' z e1 r=>?_);subst z;obtain⟨S,hS,hw,hf⟩:=O6 (firm:=firm) r (ds:=ds) rfl;have rw:dZ X.K g H' v (.list ds):=by
    cases firm with
    |true=>exact Rep.weak r
    |false=>exact r
   obtain⟨l,us,rfl,h1,h2⟩:=iZ rw;refine⟨l,rfl,⟨us,h1⟩,?_⟩;rcases hS with⟨a',e,ha',hl|ht⟩|⟨y,_,e⟩
   .cases e;subst hl;exact fin (.lst l) (.ref l) H' ds hs e1 hw hf
   .cases e;subst ht;refine wf (S:=.lst l) hs e1 (abO (S:=.lst l)) ⟨us,h1,h2⟩ λz=>?_;subst z;have r:Rep X.K g H' (.ref l) (.list ds):=r;cases r with
    |lst h3 h4=>exact⟨_,h3,h4⟩
   .cases e
  |tuple ds=>
   refine(pi_tup ha).run pins s σ H R I (tF.go (k:=λz=>z=.tuple ds) SI (by rw[hfa];rfl) λd v H' z e1 r=>?_);subst z;have rw:dZ X.K g H' v (.tuple ds):=by
    cases firm with
    |true=>exact Rep.weak r
    |false=>exact r
   obtain⟨l,us,rfl,h1,h2⟩:=lV rw;exact⟨l,rfl,⟨us,h1⟩,fin (.tup l) (.ref l) H' ds hs e1 ⟨us,h1,h2⟩ λ_=>⟨us,h1,h2⟩⟩
  |str x=>
   refine(pi_str ha).run pins s σ H R I (tF.go (k:=λz=>z=.str x) SI (by rw[hfa];rfl) λd v H' z e1 r=>?_);subst z;have rw:dZ X.K g H' v (.str x):=by
    cases firm with
    |true=>exact Rep.weak r
    |false=>exact r
   cases fV rw;exact⟨x,rfl,fin (.str x) (.str x) H' _ hs e1 ⟨_,rfl,Gn x⟩ λ_=>⟨_,rfl,Gn x⟩⟩
  |_=>exact atX hs
def Ji(a:QF):IF:=λM Z=>(a M Z).bind λd=>(Bx d).bind λn=>Out.when (decide (n<=100000/\-100000<=n)) (.ok (qP 0 n.toNat))
def Dg(a b:QF):IF:=λM Z=>(a M Z).bind λd=>(b M Z).bind λe=>(Bx d).bind λlo=>(Bx e).bind λn=>Out.when (decide (n<=100000/\-100000<=n/\lo<=100000/\-100000<=lo)) (.ok (qP lo (n-lo).toNat))
def yC(k₀:Int)(a:QF):IF:=λM Z=>(a M Z).bind λd=>(kW d).bind λds=>.ok (mU k₀ ds)
def Kh(a b:QF):IF:=λM Z=>(a M Z).bind λd=>(b M Z).bind λe=>(kW d).bind λds=>(kW e).bind λes=>.ok (pB ds es)
theorem aeV{firm:Bool}(hg:Gl X "range")(hm:X.mg "range"=none)(ha:QW aj X W a fa)(hs:nst a=true):QI aj X W firm tg (.Call (.Name "range" p) [a] [] pos) (Ji fa):=by
 refine⟨λpins s σ H R I h=>?_⟩;refine(pi_range1 hg hm (pa_cons ha pa_nil (bQ hs [])) (bQ hs [])).run pins s σ H R I ?_;obtain⟨g,Z,M,SI,h⟩:=h;refine tW.go SI h.bnd λd v H1 h1 e1 r1=>?_;have h1:=h1.bnd;unfold Bx at h1;split at h1
 .obtain⟨hz,h1⟩:=h1.lE;have hz:=atZ hz;cases cG r1;exact⟨_,rfl,by omega,by omega,h1 _ _ H1 e1 W4 atV λ_=>λ_ _ _ _ _ _ _ _=>trivial⟩
 .exact atX h1
theorem ae8{firm:Bool}(hg:Gl X "range")(hm:X.mg "range"=none)(ha:QW aj X W a fa)(hb:QW aj X W b fb)(hs:nst a=true)(hs2:nst b=true):QI aj X W firm tg (.Call (.Name "range" p) [a,b] [] pos) (Dg fa fb):=by
 refine⟨λpins s σ H R I h=>?_⟩;refine(pi_range2 hg hm (pa_cons ha (pa_cons hb pa_nil (bQ hs2 [])) (bQ hs [b])) (by rw[bQ hs,bQ hs2];rfl) (bQ hs2 [])).run pins s σ H R I ?_;obtain⟨g,Z,M,SI,h⟩:=h;refine tW.go SI h.bnd λd v H1 h1 e1 r1=>?_;refine tW.go (SI.ex e1) (h1.bnd.mono (λ_ z=>z) λ_ z=>z.ex e1) λd2 v2 H2 h2 e2 r2=>?_;have h2:=h2.bnd;unfold Bx at h2;split at h2
 .have h2:=Out.sat.bnd h2;split at h2
  .obtain⟨hz,h2⟩:=Out.sat.lE h2;have hz:=atZ hz;cases cG r1;cases cG r2;exact⟨_,_,rfl,⟨by omega,by omega,by omega,by omega⟩,h2 _ _ H2 (e1.trans e2) W4 atV λ_=>λ_ _ _ _ _ _ _ _=>trivial⟩
  .exact atX h2
 .exact atX h2
theorem aho{firm:Bool}{k₀:Int}(σ:L2.St)(H:Hp)(R:It->Hp->Prop)(h:tI X.K aj W firm (yC k₀ fa) σ H R):iEn X.K (tCons (tF X.K aj W firm fa) tNil) k₀ σ H R:=by
 obtain⟨g,Z,M,SI,h⟩:=h;refine tF.go SI h.bnd λd v H1 h1 e1 r1=>?_;cases hd:kW d with
 |bad=>rw[hd]at h1;exact atX h1
 |exc x=>cases d<;>cases hd
 |ok ds=>
  rw[hd]at h1;obtain⟨S,hS,hw,hf⟩:=O6 r1 hd;exact⟨v,S,_,rfl,hS,hw.choose_spec.1,wf h1 e1 afY hw hf⟩
theorem aiF{firm:Bool}(hg:Gl X "enumerate")(hm:X.mg "enumerate"=none)(ha:QF' aj X W firm a fa)(hs:nst a=true):QI aj X W firm (.Tuple elts kk tpos) (.Call (.Name "enumerate" p) [a] [] pos) (yC 0 fa):=
 ⟨λpins s σ H R I h=>(amF hg hm (pa_cons ha pa_nil (bQ hs [])) hs).run pins s σ H R I (aho σ H R h)⟩
theorem afU{firm:Bool}{k₀:Int}{j:Nat}{kp kp2:Pos}(hk0 : -(2^63)<=k₀)(hk1:k₀<2^63)(hg:Gl X "enumerate")(hm:X.mg "enumerate"=none)(ha:QF' aj X W firm a fa)(hs:nst a=true):QI aj X W firm (.Tuple elts kk tpos) (.Call (.Name "enumerate" p) [a] [⟨some "start",.Constant (.int k₀) j kp,kp2⟩] pos) (yC k₀ fa):=
 ⟨λpins s σ H R I h=>(akP hk0 hk1 hg hm (pa_cons ha pa_nil (bQ hs [])) hs).run pins s σ H R I (aho σ H R h)⟩
theorem amx{firm:Bool}(hg:Gl X "zip")(hm:X.mg "zip"=none)(ha:QF' aj X W firm a fa)(hb:QF' aj X W firm b fb)(hs:nst a=true)(hs2:nst b=true):QI aj X W firm (.Tuple elts kk tpos) (.Call (.Name "zip" p) [a,b] [] pos) (Kh fa fb):=by
 refine⟨λpins s σ H R I h=>(am9 hg hm (pa_cons ha (pa_cons hb pa_nil (bQ hs2 [])) (bQ hs [b])) hs hs2).run pins s σ H R I ?_⟩;obtain⟨g,Z,M,SI,h⟩:=h;refine tF.go SI h.bnd λd v H1 h1 e1 r1=>?_;refine tF.go (SI.ex e1) (h1.bnd.mono (λ_ z=>z) λ_ z=>z.ex e1) λd2 v2 H2 h2 e2 r2=>?_;cases hd:kW d with
 |bad=>rw[hd]at h2;exact atX h2
 |exc x=>cases d<;>cases hd
 |ok ds=>
  cases he:kW d2 with
  |bad=>rw[hd,he]at h2;exact atX h2
  |exc x=>cases d2<;>cases he
  |ok es=>
   rw[hd,he]at h2;obtain⟨S,hS,hw,hf⟩:=O6 (anj e2 (SI.ex e1).kd r1) hd;obtain⟨T,hT,hw2,hf2⟩:=O6 r2 he;refine⟨v,v2,S,T,_,_,rfl,hS,hT,hw.choose_spec.1,hw2.choose_spec.1,?_⟩;cases firm with
   |true=>exact h2 _ (λg H=>S.cf X.K ds g H/\T.cf X.K es g H) H2 (e1.trans e2) (ab7.of (λ_ _ z=>⟨Src.acy z.1,Src.acy z.2⟩) (λg H H' k c e=>⟨Src.vB true g g H H' k c.1 (Gr.ex e),Src.vB true g g H H' k c.2 (Gr.ex e)⟩) λg g' H H' k c r e=>⟨Src.vB true g g' H H' k c.1 r,Src.vB true g g' H H' k c.2 r⟩) ⟨hf rfl,hf2 rfl⟩ λ_=>λq g g' H H' k c r=>⟨Src.vB q g g' H H' k c.1 r,Src.vB q g g' H H' k c.2 r⟩
   |false=>exact h2 _ _ H2 (e1.trans e2) ab7 ⟨hw,hw2⟩ λz=>nomatch z
end
def WF:WX:=λ_ _ _ _=>False
def yX{α:Type}:Out α->Out α
 |.ok a=>.ok a
 |_=>.bad
@[simp]theorem aag {α:Type} (a:α):yX (.ok a)=.ok a:=rfl
theorem Dk{α:Type}{o:Out α}{P:α->Prop}{E E':dX->Prop}(h:(yX o).sat P E):o.sat P E':=by
 cases o
 .exact h
 .exact atX h
 .exact h
def dY(tg:gH)(tt:QT)(te:QF)(M:Mo)(Z:Env):List Dat->Out (List Dat)
 |[]=>.ok []
 |d::ds=>match tg d Z with
  |none=>.bad
  |some Z1=>(yX (tt M Z1)).bind λb=>if b=true then(yX (te M Z1)).bind λy=>(dY tg tt te M Z ds).bind λr=>.ok (y::r) else dY tg tt te M Z ds
def fX(it:IF)(tg:gH)(vs:List Nat)(tt:QT)(te:QF):QF:=λM Z=>(it M Z).bind λds=>Out.when (decide (ds.length<=50000)) ((dY tg tt te M (cH Z vs) ds).bind λr=>.ok (.list r))
def jL:QT:=λ_ _=>.ok true
def tFr(K:asv)(aj:aQ)(W:WX)(f:IF):TE:=λσ H Q=>∃g Z M,SInv K aj σ H g Z M/\(f M Z).sat (λxs=>∀l us H',H l=none->Ex H H'->H' l=some (.lst us)->aJ K (g.add l) H' us xs->Q (.ref l) H') (rB K aj W g H σ)
def DQ(it:IF)(tg:gH)(vs:List Nat)(tt:QT)(te:QF):IF:=λM Z=>(it M Z).bind λds=>Out.when (decide (ds.length<=50000)) (dY tg tt te M (cH Z vs) ds)
section
variable{K:asv}{aj:aQ}{W:WX}
theorem Y7{g:Gh}{H:Hp}{D:Addr}{o o':HO}{vs:List V}{ds:List Dat}(k:Kd g H)(h:H D=some o)(l:g.Lo D)(r:aJ K g H vs ds):aJ K g (upd H D o') vs ds:=r.gr (Gr.upd (q:=true) k h (.inr l)) k
theorem aiQ{g:Gh}{H:Hp}{D:Addr}{o o':HO}{v:V}{d:Dat}(k:Kd g H)(h:H D=some o)(l:g.Lo D)(r:Rep K g H v d):Rep K g (upd H D o') v d:=r.gr (Gr.upd (q:=true) k h (.inr l)) k
theorem tO{tg:gH}{tt:QT}{te:QF}{M:Mo}{Z:Env}:∀{ds:List Dat} {x:dX},dY tg tt te M Z ds≠.exc x
 |[],_,h=>nomatch h
 |d::ds,x,h=>by
  rw[dY]at h;split at h
  .cases h
  .next Z1 e=>
   cases h1:tt M Z1 with
   |bad=>rw[h1]at h;cases h
   |exc y=>rw[h1]at h;cases h
   |ok b=>
    rw[h1]at h;cases b with
    |false=>exact tO h
    |true=>
     have h:((yX (te M Z1)).bind λy=>(dY tg tt te M Z ds).bind λr=>Out.ok (y::r))=.exc x:=h;cases h2:te M Z1 with
     |bad=>rw[h2]at h;cases h
     |exc y=>rw[h2]at h;cases h
     |ok y=>
      rw[h2]at h;cases h3:dY tg tt te M Z ds with
      |bad=>rw[h3]at h;cases h
      |exc z=>exact tO h3
      |ok r=>rw[h3]at h;cases h
theorem Ra(σ:L2.St)(i:Nat):∀vs:List Nat,(L2.wipe σ vs)[i]?=if i∈vs then(σ[i]?).map (λ_=>none) else σ[i]?
 |[]=>by simp[L2.wipe]
 |v::vs=>by
  show((L2.wipe σ vs).set v none)[i]?=_
  by_cases h:v=i
  .subst h;by_cases hl:v<σ.length
   .rw[asT (by rw[wipe_length];exact hl),at5 asC,asz hl];rfl
   .have h1:σ[v]?=none:=List.getElem?_eq_none_iff.mpr (by omega);rw[at5 asC,h1,List.getElem?_eq_none_iff.mpr (by rw[as5,wipe_length];omega)];rfl
  .rw[asI h,Ra σ i vs];have:i∈v::vs↔i∈vs:=⟨λz=>by
    rcases asN.mp z with z|z
    .exact absurd z.symm h
    .exact z,asB _⟩
   simp only[this]
theorem Fv(σ:L2.St)(vs:List Nat):L2.wipe (L2.wipe σ vs) vs=L2.wipe σ vs:=by
 apply ata;intro i;rw[Ra (L2.wipe σ vs) i vs,Ra σ i vs];split
 .cases σ[i]?<;>rfl
 .rfl
theorem YM{it:IF}{tg:gH}{js vs:List Nat}{tt:QT}{te:QF}(hj:∀j∈js,j∈vs)(σ:L2.St)(H:Hp)(Q:VK)(h:tFr K aj W (DQ it tg vs tt te) σ H Q) :
  tLc (tI K aj W false it) (Ar K aj js tg) (lQ K aj WF tt) (tQ K aj WF te) vs σ H Q:=by
 obtain⟨g,Z,M,I,h⟩:=h;refine⟨g,Z,M,I,h.bnd.mono (λds hk J C H1 e1 w c _ D nD=>?_) λ_ z=>z⟩;obtain⟨hz,hk⟩:=hk.lE;have hlen:=atZ hz;obtain⟨total,htot,hQ⟩:∃total,dY tg tt te M (cH Z vs) ds=.ok total/\∀l us H',H l=none->Ex H H'->H' l=some (.lst us)->aJ K (g.add l) H' us total->Q (.ref l) H':=by
  cases hc:dY tg tt te M (cH Z vs) ds with
  |bad=>rw[hc]at hk;exact atX hk
  |exc x=>exact absurd hc tO
  |ok total=>
   rw[hc]at hk;exact⟨total,rfl,hk⟩
 have I1:=(I.ex e1).wipe vs;have kD:∀{Ha:Hp} {us:List V},Ex H1 Ha->Ha D=some (.lst us)->SInv K aj (L2.wipe σ vs) Ha (g.add D) (cH Z vs) M:=λea hu=>I1.add nD ea hu atV
 let Pv:Nat->Hp->Prop:=λi Ha=>Ex H1 Ha/\i<=ds.length/\∃us ys,Ha D=some (.lst us)/\aJ K (g.add D) Ha us ys/\ys.length<=i/\(dY tg tt te M (cH Z vs) (ds.drop i)).sat (λr=>total=ys++r) λ_=>False
 refine⟨λi m Ha=>m=ds.length-i/\Pv i Ha,⟨ds.length,rfl,Ex.new nD,atk _,[],[],at7,.nil,as6 _,?_⟩,?_⟩
 .rw[atU,htot];rfl
 .rintro i m Ha ⟨rfl,ea,hi,us,ys,hu,hU,hy,hs⟩;have Ia:=kD ea hu;have Ca:=w.add g (g.add D) H1 Ha (I.kd.ex e1) c (Gh.Iu nD ea) ea;by_cases hlt:i<ds.length
  .refine .inr ⟨w.go _ i Ha Ca hlt,Pv (i+1),λH' p=>⟨ds.length-(i+1),by omega,rfl,p⟩,λx H' y=>?_⟩;have hd:ds[i]?=some ds[i]:=asz hlt;obtain⟨e2,rx⟩:=w.yld _ i Ha x H' _ Ia.kd Ca hd y;have I2:=Ia.ex e2;rw[atu hlt,dY]at hs;split at hs
   .exact atX hs
   .next Z1 he=>
    refine⟨g.add D,_,M,_,Z1,I2,rx,he,λws I3=>⟨Bc js ws _ vs hj |>.trans (Fv σ vs),?_⟩⟩;refine lQ.go I3 (Dk hs.bnd) λb H3 hb e3=>?_;have I4:=I3.ex e3;have hu3:=e3 _ _ (e2 _ _ hu);have hU3:=(hU.ex e2 Ia.kd).ex e3 I2.kd;cases b with
    |false=>
     have hb:(dY tg tt te M (cH Z vs) (ds.drop (i+1))).sat (λr=>total=ys++r) λ_=>False:=hb;exact⟨(ea.trans e2).trans e3,hlt,us,ys,hu3,hU3,Nat.le_succ_of_le hy,hb⟩
    |true=>
     have hb:((yX (te M Z1)).bind λy=>(dY tg tt te M (cH Z vs) (ds.drop (i+1))).bind λr=>Out.ok (y::r)).sat (λr=>total=ys++r) λ_=>False:=hb;refine tQ.go I4 (Dk hb.bnd) λy v H4 hyv e4 ry=>?_;have I5:=I4.ex e4;have hu4:=e4 _ _ hu3;have hU4:=hU3.ex e4 I4.kd;have lD:(g.add D).Lo D:=.inr rfl;refine⟨us,hu4,sz_lt (by rw[hU.length];omega),Ex.mut (((ea.trans e2).trans e3).trans e4) nD,hlt,us++[v],ys++[y],at7,?_,by simp;omega,hyv.bnd.mono (λr hr=>?_) λ_ z=>z⟩
     .exact Y7 I5.kd hu4 lD (hU4.append (.cons ry .nil))
     .have hr:total=ys++y::r:=hr;rw[hr];simp
  .have e:i=ds.length:=by omega
   refine .inl ⟨w.stop _ i Ha Ca e,?_⟩;rw[e,atz]at hs;have hs:total=ys++[]:=hs;rw[atp]at hs;subst hs;exact hQ D us Ha (Fd e1 D nD) (e1.trans ea) hu hU
theorem ahF{it:IF}{tg:gH}{js vs:List Nat}{tt:QT}{te:QF}(hj:∀j∈js,j∈vs)(σ:L2.St)(H:Hp)(Q:VK)(h:tQ K aj W (fX it tg vs tt te) σ H Q) :
  tLc (tI K aj W false it) (Ar K aj js tg) (lQ K aj WF tt) (tQ K aj WF te) vs σ H Q:=by
 obtain⟨g,Z,M,I,h⟩:=h;refine YM hj σ H Q ⟨g,Z,M,I,?_⟩;unfold DQ;unfold fX at h;cases hi:it M Z with
 |bad=>rw[hi]at h;exact atX h
 |exc x=>rw[hi]at h;exact h
 |ok ds=>
  rw[hi]at h;obtain⟨hz,h⟩:=Out.sat.lE h;have h:=h.bnd
  show(Out.when (decide (ds.length<=50000)) (dY tg tt te M (cH Z vs) ds)).sat _ _
  rw[hz,Out.Wq];exact h.mono (λxs z l us H' n e hl r=>z _ H' e (.lst (.inl ⟨hl,I.kd.fresh n⟩) (aJ.less (g:=g.add l) (g':=g) rfl (λa z=>z.elim .inl λz=>.inr (z.elim .inl λz=>.inr (.inl z))) r))) λ_ z=>z
end
section
variable{X:Cx}{aj:aQ}{W:WX}{elt tg iter:Expr}{pos p tpos:Pos}
theorem akC{X:Cx}:Takes X WF:=λu s' ⟨a,B,sI,pins,σ,H,cls,d,e,I,nb,up,sky,na,os,ag,w⟩=>atX w
theorem anF{scope:Scope}{own:List (Str×Nat)}{it:IF}{tgf:gH}{js:List Nat}{tt:QT}{te:QF}{ifs:List Expr}(hc:X.calm=true)(hN:X.N.Nodup)(hi:QI aj X W false tg iter it)(ok:blkC X.N X.env.scope scope own=true)(hj:∀j∈js,j∈own.map (·.2))
  (hg:∀(s:Shared) (H:Hp) (C:Addr) (cl:List (Str×Addr)) (fp:List Addr),QG aj (X.blk s H scope (compEnvC scope cl C X.env) fp) tg js tgf)
  (ht:∀(s:Shared) (H:Hp) (C:Addr) (cl:List (Str×Addr)) (fp:List Addr),PTs (X.blk s H scope (compEnvC scope cl C X.env) fp) ifs (lQ X.K aj WF tt))
  (he:∀(s:Shared) (H:Hp) (C:Addr) (cl:List (Str×Addr)) (fp:List Addr),QE aj (X.blk s H scope (compEnvC scope cl C X.env) fp) WF elt te) (hs:∀x,foldedSetIterable iter X.env x=pure x) :
  QE aj X W (.ListComp elt [⟨tg,iter,ifs,0⟩] scope pos) (fX it tgf (own.map (·.2)) tt te):=
 PE.weak (pe_lc (g:=Ar X.K aj js tgf) (tt:=lQ X.K aj WF tt) (te:=tQ X.K aj WF te) hc hN hi (blkOk_by ok) (λs H C cl fp=>hg s H C cl fp) ht (λs H C cl fp=>he s H C cl fp) hs) λσ H Q h=>ahF hj σ H Q h
theorem amG{scope:Scope}{own:List (Str×Nat)}{it:IF}{tgf:gH}{js:List Nat}{tt:QT}{te:QF}{ifs:List Expr}(hc:X.calm=true)(hN:X.N.Nodup)(hi:QI aj X W false tg iter it)(ok:blkC X.N X.env.scope scope own=true)(hj:∀j∈js,j∈own.map (·.2))
  (hg:∀(s:Shared) (H:Hp) (C:Addr) (cl:List (Str×Addr)) (fp:List Addr),QG aj (X.blk s H scope (compEnvC scope cl C X.env) fp) tg js tgf)
  (ht:∀(s:Shared) (H:Hp) (C:Addr) (cl:List (Str×Addr)) (fp:List Addr),PTs (X.blk s H scope (compEnvC scope cl C X.env) fp) ifs (lQ X.K aj WF tt))
  (he:∀(s:Shared) (H:Hp) (C:Addr) (cl:List (Str×Addr)) (fp:List Addr),QE aj (X.blk s H scope (compEnvC scope cl C X.env) fp) WF elt te) (hs:∀x,foldedSetIterable iter X.env x=pure x) :
  PE X (.ListComp elt [⟨tg,iter,ifs,0⟩] scope pos) (tFr X.K aj W (DQ it tgf (own.map (·.2)) tt te)):=
 PE.weak (pe_lc (g:=Ar X.K aj js tgf) (tt:=lQ X.K aj WF tt) (te:=tQ X.K aj WF te) hc hN hi (blkOk_by ok) (λs H C cl fp=>hg s H C cl fp) ht (λs H C cl fp=>he s H C cl fp) hs) λσ H Q h=>YM hj σ H Q h
end
def bx.sat{α:Type}(o:bx α)(P:α->Mo->Prop)(E:dX->Mo->Prop):Prop:=
 match o with
 |.ok a M=>P a M
 |.exc x M=>E x M
 |.bad=>False
def bx.bind{α β:Type}(o:bx α)(k:α->Mo->bx β):bx β:=
 match o with
 |.ok a M=>k a M
 |.exc x M=>.exc x M
 |.bad=>.bad
@[simp]theorem bx.zm {α β:Type} (a:α) (M:Mo) (k:α->Mo->bx β):(bx.ok a M).bind k=k a M:=rfl
@[simp]theorem bx.ahf {α β:Type} (x:dX) (M:Mo) (k:α->Mo->bx β):(bx.exc x M:bx α).bind k=.exc x M:=rfl
@[simp]theorem bx.agP {α β:Type} (k:α->Mo->bx β):(bx.bad:bx α).bind k=.bad:=rfl
theorem bx.sat.bnd{α β:Type}{o:bx α}{k:α->Mo->bx β}{P:β->Mo->Prop}{E:dX->Mo->Prop}(h:(o.bind k).sat P E):o.sat (λa M=>(k a M).sat P E) E:=by cases o<;>exact h
theorem bx.sat.mono{α:Type}{o:bx α}{P P':α->Mo->Prop}{E E':dX->Mo->Prop}(h:o.sat P E)(hp:∀a M,P a M->P' a M)(he:∀x M,E x M->E' x M):o.sat P' E':=by
 cases o
 .exact hp _ _ h
 .exact he _ _ h
 .exact h
def Out.at{α:Type}(o:Out α)(M:Mo):bx α:=
 match o with
 |.ok a=>.ok a M
 |.exc x=>.exc x M
 |.bad=>.bad
@[simp]theorem Out.ar7 {α:Type} (a:α) (M:Mo):(Out.ok a).at M=.ok a M:=rfl
@[simp]theorem Out.aqB {α:Type} (x:dX) (M:Mo):(Out.exc x:Out α).at M=.exc x M:=rfl
@[simp]theorem Out.aq9 {α:Type} (M:Mo):(Out.bad:Out α).at M=.bad:=rfl
theorem Out.iY{α:Type}{o:Out α}{M:Mo}{P:α->Mo->Prop}{E:dX->Mo->Prop}(h:(o.at M).sat P E):o.sat (λa=>P a M) λx=>E x M:=by cases o<;>exact h
abbrev GF:=Mo->Env->bx Dat
abbrev GT:=Mo->Env->bx Bool
def v8.sat(o:v8)(nx:Env->Mo->Prop)(rt:Dat->Mo->Prop)(bk ct:Env->Mo->Prop)(ex:dX->Env->Mo->Prop):Prop:=
 match o with
 |.next Z M=>nx Z M
 |.ret d M=>rt d M
 |.brk Z M=>bk Z M
 |.cont Z M=>ct Z M
 |.exc x Z M=>ex x Z M
 |.bad=>False
theorem v8.sat.mono{o:v8}{nx nx':Env->Mo->Prop}{rt rt':Dat->Mo->Prop}{bk bk' ct ct':Env->Mo->Prop}{ex ex':dX->Env->Mo->Prop}(h:o.sat nx rt bk ct ex)(h1:∀Z M,nx Z M->nx' Z M)(h2:∀d M,rt d M->rt' d M)(h3:∀Z M,bk Z M->bk' Z M)(h4:∀Z M,ct Z M->ct' Z M)(h5:∀x Z M,ex x Z M->ex' x Z M):o.sat nx' rt' bk' ct' ex':=by
 cases o
 .exact h1 _ _ h
 .exact h2 _ _ h
 .exact h3 _ _ h
 .exact h4 _ _ h
 .exact h5 _ _ _ h
 .exact h
abbrev SF:=Mo->Env->v8
def Gh.fr(g:Gh):Gh:={ g with Lo:=λ_=>False }
section
variable(K:asv)(aj:aQ)(W:WX)(q:Bool)
def gE(g:Gh)(H:Hp)(σ:L2.St)(Z:Env)(x:dX)(M':Mo):Prop:=∀H' g' c dd,Gr q g g' H H'->SInv K aj σ H' g' Z M'->rF K aj g' H' x c dd->W c dd σ H'
def tE(f:GF):TE:=λσ H Q=>∃g Z M,SInv K aj σ H g Z M/\(f M Z).sat (λd M'=>∀v H' g',Gr q g g' H H'->SInv K aj σ H' g' Z M'->Rep K g' H' v d->Q v H') (gE K aj W q g H σ Z)
def Sq(f:GT):TT:=λσ H Q=>∃g Z M,SInv K aj σ H g Z M/\(f M Z).sat (λb M'=>∀H' g',Gr q g g' H H'->SInv K aj σ H' g' Z M'->Q b H') (gE K aj W q g H σ Z)
def sN(k:L2.St->Hp->Prop)(g:Gh)(H:Hp)(Z':Env)(M':Mo):Prop:=∀σ' H' g',Gr q g g' H H'->SInv K aj σ' H' g' Z' M'->k σ' H'
def sR(k:VK)(g:Gh)(H:Hp)(d:Dat)(M':Mo):Prop:=∀v H' g',Gr q g g' H H'->Kd g'.fr H'->gU K aj g'.fr H' M'->Rep K g'.fr H' v d->k v H'
def sX(g:Gh)(H:Hp)(x:dX)(Z':Env)(M':Mo):Prop:=∀σ' H' g' c dd,Gr q g g' H H'->SInv K aj σ' H' g' Z' M'->rF K aj g'.fr H' x c dd->W c dd σ' H'
def tS(f:SF):TS:=λD σ H=>∃g Z M,SInv K aj σ H g Z M/\(f M Z).sat (sN K aj q D.nx g H) (sR K aj q D.rt g H) (sN K aj q D.bk g H) (sN K aj q D.ct g H) (sX K aj W q g H)
end
section
variable{K:asv}{aj:aQ}{W:WX}{q:Bool}{g g1:Gh}{H H1:Hp}{σ:L2.St}{Z:Env}{M:Mo}
theorem gE.gr{x:dX}{M':Mo}(r:Gr q g g1 H H1)(h:gE K aj W q g H σ Z x M'):gE K aj W q g1 H1 σ Z x M':=λH' g' c dd r' I z=>h H' g' c dd (r.trans r') I z
theorem sN.gr{k:L2.St->Hp->Prop}{Z':Env}{M':Mo}(r:Gr q g g1 H H1)(h:sN K aj q k g H Z' M'):sN K aj q k g1 H1 Z' M':=λσ' H' g' r' I=>h σ' H' g' (r.trans r') I
theorem sR.gr{k:VK}{d:Dat}{M':Mo}(r:Gr q g g1 H H1)(h:sR K aj q k g H d M'):sR K aj q k g1 H1 d M':=λv H' g' r' I z y=>h v H' g' (r.trans r') I z y
theorem sX.gr{x:dX}{Z':Env}{M':Mo}(r:Gr q g g1 H H1)(h:sX K aj W q g H x Z' M'):sX K aj W q g1 H1 x Z' M':=λσ' H' g' c dd r' I z=>h σ' H' g' c dd (r.trans r') I z
theorem tE.go{f:GF}{k:Dat->Mo->Prop}{Q:VK}(I:SInv K aj σ H g Z M)(h:(f M Z).sat k (gE K aj W q g H σ Z))(hk:∀d M' v H' g',k d M'->Gr q g g' H H'->SInv K aj σ H' g' Z M'->Rep K g' H' v d->Q v H'):tE K aj W q f σ H Q:=
 ⟨g,Z,M,I,h.mono (λd M' hd v H' g' e I' r=>hk d M' v H' g' hd e I' r) λ_ _ z=>z⟩
theorem Sq.go{f:GT}{k:Bool->Mo->Prop}{Q:Bool->Hp->Prop}(I:SInv K aj σ H g Z M)(h:(f M Z).sat k (gE K aj W q g H σ Z))(hk:∀b M' H' g',k b M'->Gr q g g' H H'->SInv K aj σ H' g' Z M'->Q b H'):Sq K aj W q f σ H Q:=
 ⟨g,Z,M,I,h.mono (λd M' hd H' g' e I'=>hk d M' H' g' hd e I') λ_ _ z=>z⟩
theorem tS.go{f:SF}{D:Ends}(I:SInv K aj σ H1 g1 Z M)(r:Gr q g g1 H H1)(h:(f M Z).sat (sN K aj q D.nx g H) (sR K aj q D.rt g H) (sN K aj q D.bk g H) (sN K aj q D.ct g H) (sX K aj W q g H)):tS K aj W q f D σ H1:=
 ⟨g1,Z,M,I,h.mono (λ_ _ z=>z.gr r) (λ_ _ z=>z.gr r) (λ_ _ z=>z.gr r) (λ_ _ z=>z.gr r) (λ_ _ _ z=>z.gr r)⟩
theorem mK.less{g':Gh}{fs:List (Str×V)}{gs:List (Str×Dat)}(e:g'.tk=g.tk)(n:∀a,g'.A a->g.A a)(h:mK K g H fs gs):mK K g' H fs gs:=by
 induction h with
 |nil=>exact .nil
 |cons r _ ih=>exact .cons (r.less e n) ih
theorem rF.less{g':Gh}{x:dX}{c:Value}{dd:Option Addr}(e:g'.tk=g.tk)(n:∀a,g'.A a->g.A a)(h:rF K aj g H x c dd):rF K aj g' H x c dd:=by obtain⟨C,h1,h2,h3⟩:=h;refine⟨C,h1,h2,h3.imp id λ⟨a,fs,e1,e2,e3⟩=>⟨a,fs,e1,e2,e3.less e n⟩⟩
theorem xU(g:Gh):∀a,g.fr.A a->g.A a:=λa z=>z.elim .inl λz=>.inr (z.elim .inl λz=>atX z)
theorem Rep.fr{v:V}{d:Dat}(h:Rep K g H v d):Rep K g.fr H v d:=Rep.less (g:=g) (g':=g.fr) rfl (xU g) h
theorem aJ.fr{v:List V}{d:List Dat}(h:aJ K g H v d):aJ K g.fr H v d:=aJ.less (g:=g) (g':=g.fr) rfl (xU g) h
theorem rF.fr{x:dX}{c:Value}{dd:Option Addr}(h:rF K aj g H x c dd):rF K aj g.fr H x c dd:=rF.less (g:=g) (g':=g.fr) rfl (xU g) h
end
def GE(aj:aQ)(X:Cx)(W:WX)(q:Bool)(e:Expr)(f:GF):Prop:=PE X e (tE X.K aj W q f)
def IW(aj:aQ)(X:Cx)(W:WX)(q:Bool)(e:Expr)(f:GT):Prop:=PT X e (Sq X.K aj W q f)
def SE(aj:aQ)(X:Cx)(W:WX)(q:Bool)(s:Stmt)(f:SF):Prop:=PS X s (tS X.K aj W q f)
def Ge(aj:aQ)(X:Cx)(W:WX)(q:Bool)(s:List Stmt)(f:SF):Prop:=PSs X s (tS X.K aj W q f)
theorem PS.weak{X:Cx}{e:Stmt}{t t':TS}(h:PS X e t)(k:∀D σ H,t' D σ H->t D σ H):PS X e t':=⟨λpins s σ H D I z=>h.run pins s σ H D I (k D σ H z)⟩
theorem PSs.weak{X:Cx}{e:List Stmt}{t t':TS}(h:PSs X e t)(k:∀D σ H,t' D σ H->t D σ H):PSs X e t':=⟨λpins s σ H D I z=>h.run pins s σ H D I (k D σ H z)⟩
def gOf(f:QF):GF:=λM Z=>(f M Z).at M
def ac1(f:QT):GT:=λM Z=>(f M Z).at M
section
variable{X:Cx}{aj:aQ}{W:WX}{q:Bool}{a b e:Expr}{pos:Pos}
theorem ahP{f:QF}(h:QE aj X W e f):GE aj X W q e (gOf f):=PE.weak h λσ H Q ⟨g,Z,M,I,z⟩=>
 ⟨g,Z,M,I,(Out.iY z).mono (λd k v H' e r=>k v H' g (Gr.ex e) (I.ex e) r) λx k H' c dd e r=>k H' g c dd (Gr.ex e) (I.ex e) r⟩
theorem ant{f:QT}(h:uE aj X W e f):IW aj X W q e (ac1 f):=PT.weak h λσ H Q ⟨g,Z,M,I,z⟩=>
 ⟨g,Z,M,I,(Out.iY z).mono (λd k H' e=>k H' g (Gr.ex e) (I.ex e)) λx k H' c dd e r=>k H' g c dd (Gr.ex e) (I.ex e) r⟩
def aH:SF:=λM Z=>.next Z M
def aC(f k:SF):SF:=λM Z=>match f M Z with
 |.next Z' M'=>k M' Z'
 |o=>o
theorem alG:Ge aj X W q [] aH:=PSs.weak pss_nil λD σ H ⟨g,Z,M,I,z⟩=>z σ H g .refl I
theorem ajQ{s:Stmt}{f:SF}(h:SE aj X W q s f):Ge aj X W q [s] f:=pss_one h
theorem aiH{s:Stmt}{ss:List Stmt}{f k:SF}(h:SE aj X W q s f)(hs:Ge aj X W q ss k):Ge aj X W q (s::ss) (aC f k):=by
 refine PSs.weak (pss_cons h hs) λD σ H ⟨g,Z,M,I,z⟩=>?_;refine⟨g,Z,M,I,?_⟩;unfold aC at z;cases hf:f M Z with
 |next Z' M'=>
  rw[hf]at z;exact λσ' H' g' r I'=>tS.go I' r z
 |ret d M'=>rw[hf]at z;exact z
 |brk Z' M'=>rw[hf]at z;exact z
 |cont Z' M'=>rw[hf]at z;exact z
 |exc x Z' M'=>rw[hf]at z;exact z
 |bad=>rw[hf]at z;exact z
def bx.then{α:Type}(o:bx α)(Z:Env)(k:α->Mo->v8):v8:=
 match o with
 |.ok a M=>k a M
 |.exc x M=>.exc x Z M
 |.bad=>.bad
@[simp]theorem bx.apO {α:Type} (a:α) (M:Mo) (Z:Env) (k:α->Mo->v8):(bx.ok a M).then Z k=k a M:=rfl
@[simp]theorem bx.aoc {α:Type} (x:dX) (M:Mo) (Z:Env) (k:α->Mo->v8):(bx.exc x M:bx α).then Z k=.exc x Z M:=rfl
@[simp]theorem bx.aoh {α:Type} (Z:Env) (k:α->Mo->v8):(bx.bad:bx α).then Z k=.bad:=rfl
theorem dw{α:Type}{K:asv}{g:Gh}{H:Hp}{σ:L2.St}{Z:Env}{o:bx α}{k:α->Mo->v8}{nx bk ct:Env->Mo->Prop}{rt:Dat->Mo->Prop}(h:(o.then Z k).sat nx rt bk ct (sX K aj W q g H)):o.sat (λa M=>(k a M).sat nx rt bk ct (sX K aj W q g H)) (gE K aj W q g H σ Z):=by
 cases o with
 |ok a M=>exact h
 |exc x M=>exact λH' g' c dd r I z=>h σ H' g' c dd r I z.fr
 |bad=>exact h
def aR(tg:gH)(f:GF):SF:=λM Z=>(f M Z).then Z λd M'=>match tg d Z with
 |some Z'=>.next Z' M'
 |none=>.bad
theorem YH{tg:Expr}{js:List Nat}{tf:gH}{f:GF}(he:GE aj X W q e f)(hg:QG aj X tg js tf)(hs:swapsWithSole [tg] e pos.line X.env=pure false)(hw:swappedStores [tg] e X.env=pure none)(h1:(assignEach [tg] X.env).map (·.2)=[assign tg X.env]):SE aj X W q (.Assign [tg] e pos) (aR tf f):=by
 refine PS.weak (ps_asg he hg hs hw h1) λD σ H ⟨g,Z,M,I,z⟩=>?_;refine tE.go I (dw (σ:=σ) z) λd M' v H' g' k r I' rv=>?_;split at k
 .next Z' e'=>exact⟨g',Z,M',d,Z',I',rv,e',λvs I2=>k _ H' g' r I2⟩
 .exact atX k
def cM(f:GF):SF:=λM Z=>(f M Z).then Z λ_ M'=>.next Z M'
theorem VN{f:GF}(he:GE aj X W q e f)(hs:swapsWith e none pos.line X.env=pure false):SE aj X W q (.Expr e pos) (cM f):=by refine PS.weak (ps_expr he hs) λD σ H ⟨g,Z,M,I,z⟩=>?_;exact tE.go I (dw (σ:=σ) z) λd M' v H' g' k r I' rv=>k σ H' g' r I'
end
def Rm:Cell->Cell
 |.mut xs=>.dat (.list xs)
 |c=>c
def tY(Z:Env):Env:=Z.map λo=>o.map Rm
section
variable{K:asv}{aj:aQ}{W:WX}{q:Bool}{g:Gh}{H:Hp}{σ:L2.St}{Z:Env}{M:Mo}
theorem jP.less{g':Gh}{l:Addr}(e:g'.tk=g.tk)(n:∀a,g'.A a->g.A a):∀{b:Bool} {kvs:List (Dat×Dat)},jP K aj g H l b kvs->jP K aj g' H l b kvs
 |false,_,⟨kv,h1,h2,h3⟩=>⟨kv,h1,h2,h3.less e n⟩
 |true,_,⟨o,xs,vs,h1,h2,h3,h4,h5,h6⟩=>⟨o,xs,vs,h1,h2,h3,h4.less e n,h5,h6.less e n⟩
theorem eZ.less{g':Gh}{h:Nat}{f:Str}{v:V}(e:g'.tk=g.tk)(e2:g'.ow=g.ow)(n:∀a,g'.A a->g.A a):∀{fl:jB},eZ K aj g H h f v fl->eZ K aj g' H h f v fl
 |.dat _,z=>Rep.less e n z
 |.lst _ _,⟨l,us,h1,h2,h3,h4,h5⟩=>⟨l,us,h1,h2,by rw[e2];exact h3,h4.less e n,by rw[Gh.MJ e];exact h5⟩
 |.dic _ _,⟨l,h1,h2,h3⟩=>⟨l,h1,by rw[e2];exact h2,h3.less e n⟩
theorem cR.less{g':Gh}{h:Nat}(e:g'.tk=g.tk)(e2:g'.ow=g.ow)(n:∀a,g'.A a->g.A a):∀{fs:List (Str×V)} {gs:List (Str×jB)},cR K aj g H h fs gs->cR K aj g' H h fs gs
 |_,_,.nil=>.nil
 |_,_,.cons z t=>.cons (eZ.less e e2 n z) (cR.less e e2 n t)
theorem gU.less{g':Gh}(e:g'.tk=g.tk)(e2:g'.ow=g.ow)(n:∀a,g'.A a->g.A a)(w:gU K aj g H M):gU K aj g' H M where
 len:=by rw[Gh.MJ e];exact w.len
 inj:=by rw[Gh.MJ e];exact w.inj
 ins:=λh a i ha hi hc=>by
  rw[Gh.MJ e]at ha;obtain⟨C,dx,fs,c1,c2,c3⟩:=w.ins h a i ha hi hc;exact⟨C,dx,fs,c1,c2,c3.less e e2 n⟩
 nd:=w.nd
 fd:=w.fd
 tw:=by rw[Gh.MJ e,e2];exact w.tw
 dm:=w.dm
 nc:=w.nc
theorem Qh{i:Nat}{c:Cell}(h:(tY Z)[i]?=some (some c)):∃c',Z[i]?=some (some c')/\c=Rm c':=by
 unfold tY at h;rw[asS]at h;cases hr:Z[i]? with
 |none=>rw[hr]at h;cases h
 |some o=>
  rw[hr]at h;cases o with
  |none=>cases h
  |some c'=>
   cases h;exact⟨c',rfl,rfl⟩
theorem SInv.tY(I:SInv K aj σ H g Z M):SInv K aj σ H g.fr (tY Z) M where
 kd:=⟨λa z=>I.kd.ob a (xU g a z),λa z=>atX z,λa z=>⟨(I.kd.lc a z).1,λy=>y⟩⟩
 wok:=gU.less (g:=g) (g':=g.fr) rfl rfl (xU g) I.wok
 len:=by unfold Rf.tY;rw[asK];exact I.len
 dat:=λi d h=>by
  obtain⟨c,h1,h2⟩:=Qh h;cases c with
  |dat d'=>
   cases h2;obtain⟨v,e1,e2⟩:=I.dat i _ h1;exact⟨v,e1,e2.fr⟩
  | «mut» xs=>
   cases h2;obtain⟨l,us,e1,e2,e3,e4⟩:=I.own i _ h1;refine⟨_,e1,.lst (.inl ⟨e2,λz=>?_⟩) e4.fr⟩;rcases z with z|z|z
   .exact I.kd.lo l e3 z
   .exact(I.kd.lc l z).2 e3
   .exact z
 own:=λi xs h=>by
  obtain⟨c,h1,h2⟩:=Qh h;cases c<;>cases h2
 sep:=λi j xs ys l ne h1=>by
  obtain⟨c,h1,h2⟩:=Qh h1;cases c<;>cases h2
end
section
variable{K:asv}{aj:aQ}{W:WX}{q:Bool}{g g':Gh}{H H':Hp}{σ:L2.St}{Z:Env}{M:Mo}
theorem Kd.fr(k:Kd g H):Kd g.fr H:=⟨λa z=>k.ob a (xU g a z),λa z=>atX z,λa z=>⟨(k.lc a z).1,λy=>y⟩⟩
theorem gU.fr(w:gU K aj g H M):gU K aj g.fr H M:=gU.less (g:=g) (g':=g.fr) rfl rfl (xU g) w
theorem bK{α:Type}{l:List (Option α)}{j i:Nat}{c:α}{o:Option α}(h:(l.set j o)[i]?=some (some c)):(j=i/\o=some c/\j<l.length)\/(j≠i/\l[i]?=some (some c)):=by
 by_cases z:j=i
 .subst z;have hj:j<l.length:=by
   have:=(asx.mp h).1;rw[as5]at this;exact this
  rw[asT hj]at h;exact .inl ⟨rfl,asZ h,hj⟩
 .rw[asI z]at h;exact .inr ⟨z,h⟩
theorem SInv.ami{j:Nat}{l:Addr}{us:List V}{xs:List Dat}(I:SInv K aj σ H g Z M)(n:H l=none)(e:Ex H H')(hl:H' l=some (.lst us))(r:aJ K (g.add l) H' us xs):SInv K aj (σ.set j (some (.ref l))) H' (g.add l) (Z.set j (some (.mut xs))) M:=by
 have I1:=I.add n e hl atV;have nl:∀(i:Nat) (ys:List Dat),Z[i]?=some (some (.mut ys))->σ[i]?≠some (some (.ref l)):=λi ys h z=>by
  obtain⟨l',us',h1,h2,_⟩:=I.own i ys h;rw[z]at h1;cases h1;rw[n]at h2;cases h2
 refine⟨I1.kd,I1.wok,by rw[as5,as5];exact I.len,λi d h=>?_,λi ys h=>?_,λi k ys zs a ne h1 h2 h3 h4=>?_⟩
 .rcases bK h with⟨_,h,_⟩|⟨ne,h⟩
  .cases h
  .rw[asI ne];exact I1.dat i d h
 .rcases bK h with⟨rfl,h,hj⟩|⟨ne,h⟩
  .cases h;exact⟨l,us,by rw[asT (by rw[I.len];exact hj)],hl,.inr rfl,r⟩
  .rw[asI ne];exact I1.own i ys h
 .rcases bK h1 with⟨rfl,h1,hj⟩|⟨n1,h1⟩
  .rcases bK h2 with⟨rfl,h2,_⟩|⟨n2,h2⟩
   .exact ne rfl
   .rw[asT (by rw[I.len];exact hj)]at h3;cases h3;rw[asI n2]at h4;exact nl k zs h2 h4
  .rcases bK h2 with⟨rfl,h2,hj⟩|⟨n2,h2⟩
   .rw[asT (by rw[I.len];exact hj)]at h4;cases h4;rw[asI n1]at h3;exact nl i ys h1 h3
   .rw[asI n1]at h3;rw[asI n2]at h4;exact I.sep i k ys zs a ne h1 h2 h3 h4
theorem eZ.loc{l:Addr}{o o':HO}{h:Nat}{f:Str}{v:V}(k:Kd g H)(hl:H l=some o)(lo:g.Lo l):∀{fl:jB},eZ K aj g H h f v fl->eZ K aj g (upd H l o') h f v fl:=λ{fl} z=>by
 have r:Gr true g g H (upd H l o'):=Gr.upd k hl (.inr lo);cases fl with
 |dat d=>exact Rep.gr r k z
 |lst n xs=>
  obtain⟨a,ws,h1,h2,h3,h4,h5⟩:=z;exact⟨a,ws,h1,by rw[upd_ne (λz=>by subst z;exact k.lo _ lo (.inr (by rw[h3];exact λz=>nomatch z)))];exact h2,h3,h4.gr r k,h5⟩
 |dic n kvs=>
  obtain⟨a,h1,h2,h3⟩:=z;have na:a≠l:=λz=>by subst z;exact k.lo _ lo (.inr (by rw[h2];exact λz=>nomatch z))
  refine⟨a,h1,h2,?_⟩;cases n with
  |false=>
   obtain⟨kv,h3,h4,h5⟩:=h3;exact⟨kv,by rw[upd_ne na];exact h3,h4,h5.gr r k⟩
  |true=>
   obtain⟨o,xs,vs,h3,h4,h5,h6,h7,h8⟩:=h3;exact⟨o,xs,vs,by rw[upd_ne na];exact h3,h4,h5,h6.gr r k,h7,h8.gr r k⟩
theorem cR.loc{l:Addr}{o o':HO}{h:Nat}(k:Kd g H)(hl:H l=some o)(lo:g.Lo l):∀{fs:List (Str×V)} {gs:List (Str×jB)},cR K aj g H h fs gs->cR K aj g (upd H l o') h fs gs
 |_,_,.nil=>.nil
 |_,_,.cons z t=>.cons (eZ.loc k hl lo z) (cR.loc k hl lo t)
theorem gU.loc{l:Addr}{o o':HO}(k:Kd g H)(hl:H l=some o)(lo:g.Lo l)(w:gU K aj g H M):gU K aj g (upd H l o') M where
 len:=w.len
 inj:=w.inj
 ins:=λh a i ha hi hc=>by
  obtain⟨C,dx,fs,c1,c2,c3⟩:=w.ins h a i ha hi hc;exact⟨C,dx,fs,c1,by rw[upd_ne (λz=>by subst z;exact k.lo _ lo (.inl (asH ha)))];exact c2,c3.loc k hl lo⟩
 nd:=w.nd
 fd:=w.fd
 tw:=w.tw
 dm:=w.dm
 nc:=w.nc
theorem SInv.change{j:Nat}{xs ys:List Dat}(I:SInv K aj σ H g Z M)(hj:Z[j]?=some (some (.mut xs))):∃l us,σ[j]?=some (some (.ref l))/\H l=some (.lst us)/\g.Lo l/\aJ K g H us xs/\∀us',aJ K g H us' ys->SInv K aj σ (upd H l (.lst us')) g (Z.set j (some (.mut ys))) M:=by
 obtain⟨l,us,h1,h2,h3,h4⟩:=I.own j xs hj;refine⟨l,us,h1,h2,h3,h4,λus' r=>?_⟩;have gr:Gr true g g H (upd H l (.lst us')):=Gr.upd I.kd h2 (.inr h3);refine⟨I.kd.upd atV,I.wok.loc I.kd h2 h3,by rw[as5];exact I.len,λi d h=>?_,λi zs h=>?_,λi k zs ws a ne e1 e2 e3 e4=>?_⟩
 .rcases bK h with⟨_,h,_⟩|⟨ne,h⟩
  .cases h
  .obtain⟨v,e1,e2⟩:=I.dat i d h;exact⟨v,e1,e2.gr gr I.kd⟩
 .rcases bK h with⟨rfl,h,_⟩|⟨ne,h⟩
  .cases h;exact⟨l,us',h1,at7,h3,r.gr gr I.kd⟩
  .obtain⟨l',ws,e1,e2,e3,e4⟩:=I.own i zs h;have nl:l'≠l:=λz=>by
    subst z;exact I.sep i j zs xs l' (Ne.symm ne) h hj e1 h1
   exact⟨l',ws,e1,by rw[upd_ne nl];exact e2,e3,e4.gr gr I.kd⟩
 .have k1:∃xs,Z[i]?=some (some (.mut xs)):=by
   rcases bK e1 with⟨rfl,_,_⟩|⟨_,h⟩
   .exact⟨xs,hj⟩
   .exact⟨zs,h⟩
  have k2:∃xs,Z[k]?=some (some (.mut xs)):=by
   rcases bK e2 with⟨rfl,_,_⟩|⟨_,h⟩
   .exact⟨xs,hj⟩
   .exact⟨ws,h⟩
  obtain⟨x1,k1⟩:=k1;obtain⟨x2,k2⟩:=k2;exact I.sep i k x1 x2 a ne k1 k2 e3 e4
end
section
variable{X:Cx}{aj:aQ}{W:WX}{q:Bool}{a b e:Expr}{pos:Pos}
def aN(f:QF):SF:=λM Z=>((f M (tY Z)).at M).then Z λd M'=>.ret d M'
def dh(f:GF):SF:=λM Z=>(f M Z).then Z λd M'=>.ret d M'
theorem alU{f:QF}(he:QE aj X W e f):SE aj X W q (.Return (some e) pos) (aN f):=by
 refine PS.weak (ps_ret he) λD σ H ⟨g,Z,M,I,z⟩=>?_;refine⟨g.fr,tY Z,M,I.tY,?_⟩;unfold aN at z;cases hf:f M (tY Z) with
 |ok d=>
  rw[hf]at z;exact λv H' e r=>z v H' g (Gr.ex e) (I.ex e).kd.fr (I.ex e).wok.fr r
 |exc x=>
  rw[hf]at z;exact λH' c dd e r=>z σ H' g c dd (Gr.ex e) (I.ex e) r
 |bad=>rw[hf]at z;exact atX z
theorem ahU{f:GF}(he:GE aj X W q e f):SE aj X W q (.Return (some e) pos) (dh f):=by refine PS.weak (ps_ret he) λD σ H ⟨g,Z,M,I,z⟩=>?_;exact tE.go I (dw (σ:=σ) z) λd M' v H' g' k r I' rv=>k v H' g' r I'.kd.fr I'.wok.fr rv.fr
def bB(t:QT)(f k:SF):SF:=λM Z=>((t M (tY Z)).at M).then Z λc M'=>if c=true then f M' Z else k M' Z
def QS(t:GT)(f k:SF):SF:=λM Z=>(t M Z).then Z λc M'=>if c=true then f M' Z else k M' Z
theorem amK{c:Expr}{s1 s2:List Stmt}{t:QT}{f k:SF}(hc:uE aj X W c t)(h1:Ge aj X W q s1 f)(h2:Ge aj X W q s2 k):SE aj X W q (.If c s1 s2 pos) (bB t f k):=by
 refine PS.weak (ps_if hc h1 h2) λD σ H ⟨g,Z,M,I,z⟩=>?_;refine⟨g.fr,tY Z,M,I.tY,?_⟩;unfold bB at z;cases hf:t M (tY Z) with
 |ok d=>
  rw[hf]at z;intro H' e;cases d with
  |true=>exact tS.go (I.ex e) (Gr.ex e) z
  |false=>exact tS.go (I.ex e) (Gr.ex e) z
 |exc x=>
  rw[hf]at z;exact λH' c dd e r=>z σ H' g c dd (Gr.ex e) (I.ex e) r
 |bad=>rw[hf]at z;exact atX z
theorem akL{c:Expr}{s1 s2:List Stmt}{t:GT}{f k:SF}(hc:IW aj X W q c t)(h1:Ge aj X W q s1 f)(h2:Ge aj X W q s2 k):SE aj X W q (.If c s1 s2 pos) (QS t f k):=by
 refine PS.weak (ps_if hc h1 h2) λD σ H ⟨g,Z,M,I,z⟩=>?_;refine Sq.go I (dw (σ:=σ) z) λb M' H' g' kk r I'=>?_;cases b with
 |true=>exact tS.go I' r kk
 |false=>exact tS.go I' r kk
def eO(tg:gH)(body:SF):List Dat->Mo->Env->v8
 |[],M,Z=>.next Z M
 |d::ds,M,Z=>match tg d Z with
  |none=>.bad
  |some Z1=>match body M Z1 with
   |.next Z2 M2=>eO tg body ds M2 Z2
   |.cont Z2 M2=>eO tg body ds M2 Z2
   |.brk Z2 M2=>.next Z2 M2
   |.ret d M2=>.ret d M2
   |.exc x Z2 M2=>.exc x Z2 M2
   |.bad=>.bad
def rQ(it:IF)(tg:gH)(body:SF):SF:=λM Z=>((it M Z).at M).then Z λds M'=>eO tg body ds M' Z
theorem alj{tg iter:Expr}{body:List Stmt}{it:IF}{js:List Nat}{tf:gH}{f:SF}(hp:PassesOwn (model X.prog X.w) X.A X.env X.xe)(hc:X.calm=true)(hi:QI aj X W true tg iter it)(hg:QG aj X tg js tf)(hb:Ge aj X W q body f)(hs:∀x,foldedSetIterable iter X.env x=pure x) :
  SE aj X W q (.For tg iter body [] pos) (rQ it tf f):=by
 refine PS.weak (ps_for hp hc hi hg hb hs) λD σ H ⟨g,Z,M,I,z⟩=>?_;refine⟨g,Z,M,I,?_⟩;unfold rQ at z;cases hf:it M Z with
 |exc x=>
  rw[hf]at z;exact λH' c dd e r=>z σ H' g c dd (Gr.ex e) (I.ex e) r.fr
 |bad=>rw[hf]at z;exact atX z
 |ok ds=>
  rw[hf]at z;intro J C H1 e1 w c1 firm;have firm:=firm rfl;have z:(eO tf f ds M Z).sat (sN X.K aj q D.nx g H) (sR X.K aj q D.rt g H) (sN X.K aj q D.bk g H) (sN X.K aj q D.ct g H) (sX X.K aj W q g H):=z
  let Pv:Nat->L2.St->Hp->Prop:=λi σi Hi=>i<=ds.length/\∃gi ρi Mi,Gr q g gi H Hi/\SInv X.K aj σi Hi gi ρi Mi/\C gi Hi/\(eO tf f (ds.drop i) Mi ρi).sat (sN X.K aj q D.nx g H) (sR X.K aj q D.rt g H) (sN X.K aj q D.bk g H) (sN X.K aj q D.ct g H) (sX X.K aj W q g H)
  refine⟨λi m σi Hi=>m=ds.length-i/\Pv i σi Hi,⟨ds.length,rfl,atk _,g,Z,M,Gr.ex e1,I.ex e1,c1,by rw[atU];exact z⟩,?_⟩;rintro i m σi Hi ⟨rfl,hi,gi,ρi,Mi,ri,Ii,Ci,zi⟩;by_cases hlt:i<ds.length
  .refine .inr ⟨w.go _ i Hi Ci hlt,Pv (i+1),λσ' H' p=>⟨ds.length-(i+1),by omega,rfl,p⟩,λx H' y=>?_⟩;have hd:ds[i]?=some ds[i]:=asz hlt;obtain⟨e2,rx⟩:=w.yld _ i Hi x H' _ Ii.kd Ci hd y;rw[atu hlt,eO]at zi;split at zi
   .exact atX zi
   .next Z1 he=>
    have I2:=Ii.ex e2;refine⟨gi,ρi,Mi,_,Z1,I2,rx,he,λvs I3=>⟨gi,Z1,Mi,I3,?_⟩⟩;have r2:=ri.trans (Gr.ex e2);cases hb':f Mi Z1 with
    |next Z2 M2=>
     rw[hb']at zi;exact λσ' H2 g2 r I'=>⟨hlt,g2,Z2,M2,r2.trans r,I',firm q gi g2 H' H2 I2.kd (w.ex _ _ _ Ii.kd Ci e2) r,zi⟩
    |cont Z2 M2=>
     rw[hb']at zi;exact λσ' H2 g2 r I'=>⟨hlt,g2,Z2,M2,r2.trans r,I',firm q gi g2 H' H2 I2.kd (w.ex _ _ _ Ii.kd Ci e2) r,zi⟩
    |brk Z2 M2=>
     rw[hb']at zi;exact sN.gr r2 zi
    |ret d M2=>
     rw[hb']at zi;exact sR.gr r2 zi
    |exc x Z2 M2=>
     rw[hb']at zi;exact sX.gr r2 zi
    |bad=>rw[hb']at zi;exact atX zi
  .have e:i=ds.length:=by omega
   refine .inl ⟨w.stop _ i Hi Ci e,?_⟩;rw[e,atz]at zi;exact zi σi Hi gi ri Ii
def GZ(j:Nat)(f:QF):SF:=λM Z=>match Z[j]? with
 |some (some (.dat (.int i)))=>((f M Z).at M).then Z λd M'=>match d with
  |.int k=>.next (Z.set j (some (.dat (.int (i+k))))) M'
  |_=>.bad
 |_=>.bad
theorem amy{j:Nat}{x:Str}{f:QF}{pos':Pos}(hN:X.N.Nodup)(hi:X.N[j]?=some x)(hx:Loc X.env.scope x)(hf:X.fn x=true\/X.env.scope.names.lookup x=some .local)(he:QE aj X W e f):SE aj X W q (.AugAssign (.Name x pos') .Add e pos) (GZ j f):=by
 refine PS.weak (ps_aug hN hi hx he ip_add hf) λD σ H ⟨g,Z,M,I,z⟩=>?_;unfold GZ at z;split at z
 .next i hj=>
  obtain⟨v,h1,h2⟩:=I.dat j _ hj;cases h2;refine⟨.int i,h1,⟨g,Z,M,I,?_⟩⟩;cases hf':f M Z with
  |exc x=>rw[hf']at z;exact λH' c dd e r=>z σ H' g c dd (Gr.ex e) (I.ex e) r.fr
  |bad=>rw[hf']at z;exact atX z
  |ok d=>
   rw[hf']at z;intro u H' e r;cases d with
   |int k=>
    cases r;exact⟨i,k,rfl,rfl,z _ H' g (Gr.ex e) ((I.ex e).set (.int _))⟩
   |_=>exact atX z
 .exact atX z
def FE(aj:aQ)(X:Cx)(W:WX)(e:Expr)(f:IF):Prop:=PE X e (tFr X.K aj W f)
def Ew(j:Nat)(f:IF):SF:=λM Z=>((f M Z).at M).then Z λxs M'=>.next (Z.set j (some (.mut xs))) M'
theorem aeS{j:Nat}{f:IF}(D:Ends)(σ:L2.St)(H:Hp)(h:tS X.K aj W q (Ew j f) D σ H):tAsg (tFr X.K aj W f) (gName j) D σ H:=by
 obtain⟨g,Z,M,I,z⟩:=h;refine⟨g,Z,M,I,?_⟩;unfold Ew at z;cases hf:f M Z with
 |exc x=>rw[hf]at z;exact λH' c dd e r=>z σ H' g c dd (Gr.ex e) (I.ex e) r.fr
 |bad=>rw[hf]at z;exact atX z
 |ok xs=>
  rw[hf]at z;intro l us H' n e hl r;have gr:Gr true g (g.add l) H H':=Gh.Iu n e;refine z _ H' (g.add l) ?_ (I.ami n e hl r);cases q with
  |true=>exact gr
  |false=>exact gr.loud
theorem aeW{j:Nat}{x:Str}{f:IF}{pos':Pos}(hN:X.N.Nodup)(hi:X.N[j]?=some x)(hx:Loc X.env.scope x)(hf:X.fn x=true\/X.env.scope.names.lookup x=some .local)(he:FE aj X W e f)(hs:swapsWith e (some (.Name x pos')) pos.line X.env=pure false):SE aj X W q (.Assign [.Name x pos'] e pos) (Ew j f):=
 PS.weak (ps_set hN hi hx he hs hf) λD σ H h=>aeS D σ H h
def M7(f:QA):IF:=λM Z=>(f M Z).bind λxs=>Out.when (decide (xs.length<=100000)) (.ok xs)
theorem ag5{K:asv}{g:Gh}{H:Hp}{l:Addr}{vs:List V}{ds:List Dat}(k:Kd g H)(n:H l=none)(r:aJ K g H vs ds){o:HO}:aJ K (g.add l) (upd H l o) vs ds:=r.gr (Gh.Iu n (Ex.new n)) k
theorem akD{es:List Expr}{fr:QA}(h:Hz aj X W es fr):FE aj X W (.List es pos) (M7 fr):=
 PE.weak (pe_lst h) λσ H Q ⟨g,Z,M,I,h⟩=>by
  refine PN.go I h.bnd λds vs H1 h1 e1 r1=>?_;obtain⟨hz,h1⟩:=h1.lE;have hl:vs.length<=100000:=by rw[r1.length];exact atZ hz
  exact⟨sz_of hl,λp np=>h1 p vs _ (Fd e1 p np) (e1.trans (Ex.new np)) at7 (ag5 (I.kd.ex e1) np r1)⟩
def X5:Dat->Out (List Dat)
 |.list ds=>.ok ds
 |.tuple ds=>.ok ds
 |_=>.bad
def agk(f:QF):IF:=λM Z=>(f M Z).bind X5
def baseOk:Expr->Bool
 |.Call (.Name _ _) _ _ _=>false
 |_=>true
theorem iU{o:Expr}{m:Str}{env:PySem.Env}{w:Sem Value}(h:baseOk o=true):attributeBase o m env w=w:=by
 cases o with
 | Call f as ks p=>cases f<;>first | rfl | cases h
 |_=>rfl
theorem Ei{env:PySem.Env}{pos:Pos}:∀(es:List Expr),es.all nst=true->(backTo pos (starEach es env)).all (λx=>!x.1)=true
 |[],_=>by with_unfolding_all rfl
 |a::es,h=>by
  rw[atc,asw]at h;rw[bQ h.1];have ih:=Ei (env:=env) (pos:=pos) es h.2;unfold backTo at ih |-
  rw[asy,atc,ih];rfl
theorem few{env:PySem.Env}{pos:Pos}{es:List Expr}(h:es.all nst=true)(hl:es.length<30):((backTo pos (starEach es env)).all (λx=>!x.1)&&(backToKw pos (keywordEach [] env)).all (λx=>x.1.isSome)&&decide (es.length+([]:List Keyword).length+(if ([]:List Keyword).isEmpty then 0 else 1)<30))=true:=by
 rw[Ei es h];have:(backToKw pos (keywordEach [] env)).all (λx=>x.1.isSome)=true:=by with_unfolding_all rfl
 rw[this];simpa using hl
def zB(j:Nat)(f:QF):SF:=λM Z=>match Z[j]? with
 |some (some (.mut xs))=>((f M Z).at M).then Z λd M'=>if xs.length<100000 then .next (Z.set j (some (.mut (xs++[d])))) M' else .bad
 |_=>.bad
theorem akU{j:Nat}{x:Str}{f:QF}{p apos:Pos}{epos:Pos}(hN:X.N[j]?=some x)(hv:Vis X.env.scope x)(hd:(x==("__debug__" : Str))=false)(hcd:(x==("__classdict__" : Str))=false)(he:QE aj X W e f)(hs:nst e=true)
  (hl:(apos.endLine==pos.line)=true):SE aj X W q (.Expr (.Call (.Attribute (.Name x p) "append" apos) [e] [] pos) epos) (zB j f):=by
 have h0:=pe_var (X:=X) (pos:=p) hN hv hd hcd;have h1:=pa_cons he pa_nil (bQ hs []);have key:=pe_bm (X:=X) (cpos:=pos) (apos:=apos) PySem.F.plainAttrs_list PySem.F.slot_list_append PySem.F.type_list_append mt_append h0 h1 (iU rfl) (few (by simp[hs]) (by simp)) hl (bQ hs []) (by with_unfolding_all rfl);refine PS.weak (ps_expr key (by with_unfolding_all rfl)) λD σ H ⟨g,Z,M,I,z⟩=>?_;unfold zB at z;split at z
 .next xs hj=>
  obtain⟨l,us,e1,e2,e3,e4⟩:=I.own j xs hj;refine⟨.ref l,e1,.inl ⟨rfl,us,sq_of e2⟩,⟨g,Z,M,I,?_⟩⟩;cases hf:f M Z with
  |exc x=>rw[hf]at z;exact λH' c dd e r=>z σ H' g c dd (Gr.ex e) (I.ex e) r.fr
  |bad=>rw[hf]at z;exact atX z
  |ok d=>
   rw[hf]at z;intro v H' e r;have z:(if xs.length<100000 then v8.next (Z.set j (some (.mut (xs++[d])))) M else .bad).sat (sN X.K aj q D.nx g H) (sR X.K aj q D.rt g H) (sN X.K aj q D.bk g H) (sN X.K aj q D.ct g H) (sX X.K aj W q g H):=z;split at z
   .next hlen=>
    have I1:=I.ex e;obtain⟨l',us',f1,f2,f3,f4,f5⟩:=I1.change (ys:=xs++[d]) hj;rw[e1]at f1;cases f1;rw[e _ _ e2]at f2;cases f2;refine⟨l,us,v,rfl,rfl,e _ _ e2,sz_lt (by rw[e4.length];exact hlen),?_⟩;exact z _ _ g ((Gr.ex e).trans (Gr.upd I1.kd (e _ _ e2) (.inr f3))) (f5 _ (f4.append (.cons r .nil)))
   .exact atX z
 .exact atX z
def amE(j:Nat)(fi f:QF):SF:=λM Z=>match Z[j]? with
 |some (some (.mut xs))=>((f M Z).at M).then Z λd M'=>((fi M' Z).at M').then Z λi M2=>match i with
  |.int k=>match ixN xs.length k with
   |some n=>.next (Z.set j (some (.mut (xs.set n d)))) M2
   |none=>.bad
  |_=>.bad
 |_=>.bad
end
structure Gc(g g':Gh)(H H':Hp):Prop where
 keep:∀a o,H a=some o->¬g.W a->H' a=some o
 dom:∀a,H' a=none->H a=none
 tbl:∃more,g'.tbl=g.tbl++more
 W:∀a,g.W a->g'.W a
 nW:∀a,g'.W a->g.W a\/H a=none
 Lc:g'.Lc=g.Lc
 Lo:g'.Lo=g.Lo
 kl:g'.kl=g.kl
def TY(K:asv)(aj:aQ)(n:Nat)(m:Mo->List Dat->Out Dat):Sp:=λvs H Q E=>vs.length=n/\∃g M ds,Kd g H/\gU K aj g H M/\aJ K g H vs ds/\
 (m M ds).sat (λd=>∀v H',Ex H H'->Rep K g H' v d->Q v H') λx=>∀H' c dd,Ex H H'->rF K aj g H' x c dd->E c dd H'
def Jm(K:asv)(aj:aQ)(n:Nat)(m:Mo->List Dat->bx Dat):Sp:=λvs H Q E=>vs.length=n/\∃g M ds,Kd g H/\gU K aj g H M/\aJ K g H vs ds/\
 (m M ds).sat (λd M'=>∀v H' g',Gc g g' H H'->Kd g' H'->gU K aj g' H' M'->Rep K g' H' v d->Q v H') λx M'=>∀H' g' c dd,Gc g g' H H'->Kd g' H'->gU K aj g' H' M'->rF K aj g' H' x c dd->E c dd H'
section
variable{K:asv}{aj:aQ}{W:WX}{g g':Gh}{H H':Hp}{σ:L2.St}{Z:Env}{M M':Mo}
theorem Gc.gr(r:Gc g g' H H'):Gr false g g' H H':=⟨λa o h n _=>r.keep a o h n,(λz=>nomatch z),r.dom,r.tbl,r.W,r.nW,(λz=>nomatch z),r.Lc,λa h=>by rw[r.Lo];exact h,λa h=>by rw[r.Lo]at h;exact .inl h,r.kl⟩
theorem SInv.call(r:Gc g g' H H')(k':Kd g' H')(w':gU K aj g' H' M')(I:SInv K aj σ H g Z M):SInv K aj σ H' g' Z M' where
 kd:=k'
 wok:=w'
 len:=I.len
 dat:=λi d h=>by
  obtain⟨v,h1,h2⟩:=I.dat i d h;exact⟨v,h1,h2.gr r.gr I.kd⟩
 own:=λi xs h=>by
  obtain⟨l,us,h1,h2,h3,h4⟩:=I.own i xs h;exact⟨l,us,h1,r.keep _ _ h2 (I.kd.lo l h3),by rw[r.Lo];exact h3,h4.gr r.gr I.kd⟩
 sep:=I.sep
def Gh.in(g:Gh):Gh:={ g with Lc:=λa=>g.Lc a\/g.Lo a,Lo:=λ_=>False }
theorem aak(g:Gh)(a:Addr):g.in.A a↔g.A a:=by
 constructor
 .rintro(z|(z|z)|z)
  .exact .inl z
  .exact .inr (.inl z)
  .exact .inr (.inr z)
  .exact atX z
 .rintro(z|z|z)
  .exact .inl z
  .exact .inr (.inl (.inl z))
  .exact .inr (.inl (.inr z))
theorem Kd.in(k:Kd g H):Kd g.in H:=⟨λa z=>k.ob a ((aak g a).mp z),λa z=>atX z,λa z=>⟨z.elim (λz=>(k.lc a z).1) (λz=>k.lo a z),λy=>y⟩⟩
def ini(n:Nat)(ds:List Dat):Env:=ds.map (λd=>some (.dat d))++List.replicate (n-ds.length) none
theorem acn{N:List Str}{vs:List V}{ds:List Dat}(k:Kd g H)(w:gU K aj g H M)(r:aJ K g H vs ds):SInv K aj (start N vs) H g (ini N.length ds) M where
 kd:=k
 wok:=w
 len:=by unfold L2.start ini;rw[ati,ati,asK,asK,List.length_replicate,List.length_replicate,r.length]
 dat:=λi d h=>by
  unfold ini at h;unfold L2.start;by_cases hi:i<ds.length
  .rw[asM (by rw[asK];exact hi),asS]at h;cases hd:ds[i]? with
   |none=>rw[hd]at h;cases h
   |some d'=>
    rw[hd]at h;cases h;obtain⟨v,h1,h2⟩:=r.get hd;refine⟨v,?_,h2⟩;rw[asM (by rw[asK,r.length];exact hi),asS,h1];rfl
  .rw[asU (by rw[asK];omega)]at h;rw[List.getElem?_replicate]at h;split at h<;>cases h
 own:=λi xs h=>by
  unfold ini at h;by_cases hi:i<ds.length
  .rw[asM (by rw[asK];exact hi),asS]at h;cases hd:ds[i]? with
   |none=>rw[hd]at h;cases h
   |some d'=>rw[hd]at h;cases h
  .rw[asU (by rw[asK];omega)]at h;rw[List.getElem?_replicate]at h;split at h<;>cases h
 sep:=λi j xs ys l ne h=>by
  unfold ini at h;by_cases hi:i<ds.length
  .rw[asM (by rw[asK];exact hi),asS]at h;cases hd:ds[i]? with
   |none=>rw[hd]at h;cases h
   |some d'=>rw[hd]at h;cases h
  .rw[asU (by rw[asK];omega)]at h;rw[List.getElem?_replicate]at h;split at h<;>cases h
end
def mQ(n:Nat)(body:SF):Mo->List Dat->Out Dat:=λM ds=>match body M (ini n ds) with
 |.ret d _=>.ok d
 |.next _ _=>.ok .none
 |.exc x _ _=>.exc x
 |_=>.bad
def mG(n:Nat)(body:SF):Mo->List Dat->bx Dat:=λM ds=>match body M (ini n ds) with
 |.ret d M'=>.ok d M'
 |.next _ M'=>.ok .none M'
 |.exc x _ M'=>.exc x M'
 |_=>.bad
section
variable{P:Program}{w:World}{K:asv}{mg:Str->Option Value}{base:Heap}{aj:aQ}
def agw(E:XK):WX:=λc d _ H=>E c d H
theorem Rep.same{g g':Gh}{H:Hp}{v:V}{d:Dat}(e:g'.tk=g.tk)(n:∀a,g'.A a↔g.A a)(h:Rep K g H v d):Rep K g' H v d:=h.less e λa z=>(n a).mp z
theorem acJ{g g':Gh}{H H':Hp}(r:Gr true g.in g' H H'):Ex H H':=λa o h=>by
 by_cases w:g.W a
 .exact r.keepW rfl a o h w
 .exact r.keep a o h w λz=>z
theorem akf{q:Bool}{g g':Gh}{H H':Hp}(r:Gr q g.in g' H H')(a:Addr):g'.fr.A a↔(g'.W a\/g.Lc a\/g.Lo a):=by
 have hl:g'.Lc=g.in.Lc:=r.Lc;constructor
 .rintro(z|z|z)
  .exact .inl z
  .have z:g'.Lc a:=z;rw[hl]at z;exact .inr z
  .exact atX z
 .rintro(z|z)
  .exact .inl z
  .refine .inr (.inl ?_);show g'.Lc a;rw[hl];exact z
theorem Fun.okC{C:CXT}{x qual:Str}{st:Stmt}{f:Addr}{fd:FuncData}{N ps:List Str}{k:Nat}{sp:Sp}(F:Fun K x qual st f fd)(S:FnScope N ps (defScope st))(len:∀vs H Q E,sp vs H Q E->vs.length=ps.length)
  (hbody:∀(cdv:Value) (A:Around) (outer:List PySem.Env) (s:Shared) (H:Hp) (vs:List V) (Q:VK) (E:XK),Room k (A.deeper (envOfC qual (defScope st) s.heap.objs.size f cdv))->sp vs H Q E->
   ∃t,PSs (cxOf C P w K mg base N qual (defScope st) f cdv A outer s H E) (defBody st) t/\t { nx:=λ_ H'=>Q .non H',rt:=Q } (start N vs) H):FnOk P w K mg base C (k+1) f fd ps sp:=by
 obtain⟨oc,od,kV,doc,pm,an,cdv,ct,osl,rfl,lk,hcd⟩:=F.ex;exact fn_of lk hcd S len λA outer s H vs Q E hr hsp=>hbody cdv A outer s H vs Q E hr hsp
theorem an0{C:CXT}{x qual:Str}{st:Stmt}{f:Addr}{fd:FuncData}{N ps:List Str}{k:Nat}{body:SF}(F:Fun K x qual st f fd)(S:FnScope N ps (defScope st))
  (hb:∀(cdv:Value) (A:Around) (outer:List PySem.Env) (s:Shared) (H:Hp) (E:XK),Room k (A.deeper (envOfC qual (defScope st) s.heap.objs.size f cdv))->Ge aj (cxOf C P w K mg base N qual (defScope st) f cdv A outer s H E) (agw E) true (defBody st) body) :
  FnOk P w K mg base C (k+1) f fd ps (TY K aj ps.length (mQ N.length body)):=by
 refine Fun.okC F S (λvs H Q E h=>h.1) (λcdv A outer s H vs Q E hr h=>⟨_,hb cdv A outer s H E hr,?_⟩);obtain⟨hl,g,M,ds,kd,wk,rs,h⟩:=h;have wk':gU K aj g.in H M:=gU.less (g:=g) (g':=g.in) rfl rfl (λa z=>(aak g a).mp z) wk;refine⟨g.in,ini N.length ds,M,acn kd.in wk' (aJ.less (g:=g) (g':=g.in) rfl (λa z=>(aak g a).mp z) rs),?_⟩;have back:∀{g':Gh} {H':Hp},Gr true g.in g' H H'->∀a,g.A a↔g'.fr.A a:=λ{g' H'} r a=>by
  rw[akf r a];have e:=(r.qg rfl);have ew:g'.W a↔g.W a:=by unfold Gh.W;rw[Gh.MJ e.1,e.2];rfl
  unfold Gh.A;rw[ew]
 unfold mQ at h;cases hf:body M (ini N.length ds) with
 |next Z' M'=>
  rw[hf]at h;exact λσ' H' g' r I'=>h _ H' (acJ r) .non
 |ret d M'=>
  rw[hf]at h;exact λv H' g' r k' w' rv=>h v H' (acJ r) (Rep.same (g:=g'.fr) (g':=g) (r.qg rfl).1.symm (back r) rv)
 |exc x Z' M'=>
  rw[hf]at h;exact λσ' H' g' c dd r I' rx=>h H' c dd (acJ r) (rF.less (g:=g'.fr) (g':=g) (r.qg rfl).1.symm (λa z=>(back r a).mp z) rx)
 |brk Z' M'=>rw[hf]at h;exact atX h
 |cont Z' M'=>rw[hf]at h;exact atX h
 |bad=>rw[hf]at h;exact atX h
theorem aoy{x qual:Str}{st:Stmt}{f:Addr}{fd:FuncData}{N ps:List Str}{k:Nat}{body:SF}(F:Fun K x qual st f fd)(S:FnScope N ps (defScope st))
  (hb:∀(cdv:Value) (A:Around) (outer:List PySem.Env) (s:Shared) (H:Hp) (E:XK),Room k (A.deeper (envOfC qual (defScope st) s.heap.objs.size f cdv))->Ge aj (cxOf (L2.CX P w) P w K mg base N qual (defScope st) f cdv A outer s H E) (agw E) false (defBody st) body) :
  FnOk P w K mg base (L2.CX P w) (k+1) f fd ps (Jm K aj ps.length (mG N.length body)):=by
 refine F.okX S (λvs H Q E h=>h.1) (λcdv A outer s H vs Q E hr h=>⟨_,hb cdv A outer s H E hr,?_⟩);obtain⟨hl,g,M,ds,kd,wk,rs,h⟩:=h;have wk':gU K aj g.in H M:=gU.less (g:=g) (g':=g.in) rfl rfl (λa z=>(aak g a).mp z) wk;refine⟨g.in,ini N.length ds,M,acn kd.in wk' (aJ.less (g:=g) (g':=g.in) rfl (λa z=>(aak g a).mp z) rs),?_⟩
 let gb:Gh->Gh:=λg'=>{ tbl:=g'.tbl,ow:=g'.ow,Lc:=g.Lc,Lo:=g.Lo,kl:=g'.kl }
 have gc:∀{g':Gh} {H':Hp},Gr false g.in g' H H'->Gc g (gb g') H H':=λ{g' H'} r=>⟨λa o h n=>r.keep a o h n λz=>z,r.dom,r.tbl,r.W,r.nW,rfl,rfl,r.kl⟩;have eA:∀{g':Gh} {H':Hp},Gr false g.in g' H H'->∀a,(gb g').A a↔g'.fr.A a:=λ{g' H'} r a=>by
  rw[akf r a];exact Iff.rfl
 have kk:∀{g':Gh} {H':Hp},Gr false g.in g' H H'->Kd g'.fr H'->Kd (gb g') H':=λ{g' H'} r k'=>by
  have nw:∀a,(g.Lc a\/g.Lo a)->¬g'.W a:=λa z y=>by
   have:g'.fr.Lc a:=by show g'.Lc a;rw[show g'.Lc=g.in.Lc from r.Lc];exact z
   exact(k'.lc a this).1 y
  exact⟨λa z=>k'.ob a ((eA r a).mp z),λa z=>nw a (.inr z),λa z=>⟨nw a (.inl z),(kd.lc a z).2⟩⟩
 unfold mG at h;cases hf:body M (ini N.length ds) with
 |next Z' M'=>
  rw[hf]at h;exact λσ' H' g' r I'=>h _ H' (gb g') (gc r) (kk r I'.kd.fr) (gU.less (g:=g'.fr) (g':=gb g') rfl rfl (λa z=>(eA r a).mp z) I'.wok.fr) .non
 |ret d M'=>
  rw[hf]at h;exact λv H' g' r k' w' rv=>h v H' (gb g') (gc r) (kk r k') (gU.less (g:=g'.fr) (g':=gb g') rfl rfl (λa z=>(eA r a).mp z) w') (Rep.same (g:=g'.fr) (g':=gb g') rfl (eA r) rv)
 |exc x Z' M'=>
  rw[hf]at h;exact λσ' H' g' c dd r I' rx=>h H' (gb g') c dd (gc r) (kk r I'.kd.fr) (gU.less (g:=g'.fr) (g':=gb g') rfl rfl (λa z=>(eA r a).mp z) I'.wok.fr) (rF.less (g:=g'.fr) (g':=gb g') rfl (λa z=>(eA r a).mp z) rx)
 |brk Z' M'=>rw[hf]at h;exact atX h
 |cont Z' M'=>rw[hf]at h;exact atX h
 |bad=>rw[hf]at h;exact atX h
end
def aU(m:Mo->List Dat->Out Dat)(as:QA):QF:=λM Z=>(as M Z).bind λds=>m M ds
section
variable{X:Cx}{aj:aQ}{W:WX}{q:Bool}{a b e:Expr}{es:List Expr}{pos p:Pos}{x:Str}{k:Nat}{f:Addr}{fd:FuncData}{ps:List Str}
theorem aiw{C:CXT}{m:Mo->List Dat->Out Dat}{as:QA}(tk:∀σ,PassesAt C X σ (WE W σ))(F:FnOk X.prog X.w X.K X.mg X.base C k f fd ps (TY X.K aj ps.length m))(hr:Room k X.A)(hg:Gl X x)(hm:X.mg x=some (.ref f))(hk:PySem.W.keepIn X.K (.ref f)=true)(hb:Binds X.K fd ps [])
  (ha:Hz aj X W (e::es) as) (hl:(e::es).length=ps.length) (hd:(x==("__debug__" : Str))=false) (hs:(e::es).all nst=true) (hn:∀M Z ds,as M Z=.ok ds->ds.length=(e::es).length):QE aj X W (.Call (.Name x p) (e::es) [] pos) (aU m as):=by
 have hs':=hs;rw[atc,asw]at hs';refine PE.weak (pe_callS (E:=λσ=>WE W σ) F hr hg hm hk hb tk ha hd (bQ hs'.1 es) (star_any es hs'.2)) λσ H Q ⟨g,Z,M,I,h⟩=>?_;refine⟨g,Z,M,I,?_⟩;have h:=h.bnd;cases has:as M Z with
 |exc x=>rw[has]at h;exact h
 |bad=>rw[has]at h;exact h
 |ok ds=>
  rw[has]at h;have h:(m M ds).sat (λd=>∀v H',Ex H H'->Rep X.K g H' v d->Q v H') (rB X.K aj W g H σ):=h;intro vs H1 e1 r1;refine⟨by rw[r1.length,hn M Z ds has];exact hl,g,M,ds,I.kd.ex e1,I.wok.ex e1 I.kd,r1,h.mono (λd k v H' e' r'=>k v H' (e1.trans e') r') λx k H' c dd e' r'=>k H' c dd (e1.trans e') r'⟩
end
theorem agv{n:Nat}(h:n<=16001):n<=sizeLine:=as9 h (by decide)
theorem amU{prog:Program}{w:World}{A:Around}{E:Value->Shared->Prop}{s:Shared}{l:Addr}{v0:Value}{vs:List Value}{Q:List Value->Shared->Prop}(hh:A.handled=none)(hl:s.heap.IsList l (v0::vs).toArray\/IsTup s.heap l (v0::vs).toArray)(hz:vs.length<=16000)
  (h:∀(h₂:Heap) (tk:Nat),(∀b o,s.heap.get? b=some o->h₂.get? b=some o)->Q [v0,.ref h₂.objs.size] { s with heap:=h₂.push { cls:=.type "list",data:=.seq vs.toArray },toks:=tk }):wpAny (model prog w) A (unpackItems (.ref l) 2 (some 1)) Q E s:=by
 have hll:l<s.heap.objs.size:=by rcases hl with⟨o,ho,_⟩|⟨o,ho,_⟩<;>exact Heap.lt_size ho
 have hlt:l≠s.heap.objs.size:=atg hll;have hsz:(v0::vs).toArray.size=vs.length+1:=by simp
 have hb:(v0::vs).toArray.size<=sizeLine:=agv (by rw[hsz];omega);have hd:(v0::vs).toArray.toList.drop 1=vs:=by simp
 have ht:((v0::vs).toArray.toList.drop 0).take 1=[v0]:=by simp
 have fin:∀(h₂:Heap) (tk:Nat),(∀b o,b≠s.heap.objs.size->s.heap.get? b=some o->h₂.get? b=some o)->wpAny (model prog w) A (newList vs >>= λd=>pure ([v0]++[d]++[])) Q E { s with heap:=h₂,toks:=tk }:=λh₂ tk k=>by
  refine at3 (wpAny_newObj_type (at4 ?_) (agv (by simp;omega)));exact h h₂ tk λb o e=>k b o (atg (Heap.lt_size e)) e
 unfold unpackItems;refine at3 ?_;unfold notIterableAtAll;rcases hl with hl|hl
 .refine at3 (wpAny_specialOf hl.typeIs slot_list_iter.lookup (at4 ?_));simp only[as7,if_false];refine at3 (wpAny_holding (wpAny_pyIter_list hl ?_));refine at3 (wpAny_holding (PySem.W.kun_draw hlt 1 0 _ _ ⟨_,Heap.get?_push_size _ rfl,rfl,rfl⟩ (hl.push _) (by rw[hsz];omega) λh₁ i1 b1=>?_));have hl₁:=(hl.push _).extBut b1.extBut hlt;obtain⟨oi,hoi,_⟩:=id i1;obtain⟨ol,hol,_⟩:=id hl₁;rw[ht];refine at3 (wpAny_holding (PySem.W.kun_collect (s:={ s with heap:=h₁ }) (T:="list_iterator") (.inr (.inr (.inl rfl))) (Walks.list (A:=A.in1) hh s.heap.objs.size l hlt (v0::vs).toArray) (λj u st=>st.1.typeIs) (k:=1) (by rw[hsz];omega) ⟨i1,hl₁⟩ (Heap.lt_size hoi) (Heap.lt_size hol) (λh₂ tk hk=>?_) hb))
  rw[hd];show wpAny _ _ (if vs.length<0 then _ else newList (vs.take (vs.length-0)) >>= λd=>pure ([v0]++[d]++vs.drop (vs.length-0))) _ _ _;rw[at6 (Nat.not_lt_zero _),Nat.sub_zero,List.take_length,atz];exact fin h₂ tk λb o ne e=>hk b o ne (b1.extBut b o ne (Heap.get?_push_of_some _ e))
 .refine at3 (wpAny_specialOf hl.typeIs slot_tuple_iter.lookup (at4 ?_));simp only[as7,if_false];refine at3 (wpAny_holding (iter_tuple hl ?_));refine at3 (wpAny_holding (draw_tuple hlt 1 0 _ _ ⟨_,Heap.get?_push_size _ rfl,rfl,rfl⟩ (hl.push _) (by rw[hsz];omega) λh₁ i1 b1=>?_));have hl₁:IsTup h₁ l (v0::vs).toArray:=(hl.push _).extBut b1.extBut hlt;obtain⟨oi,hoi,_⟩:=id i1;obtain⟨ol,hol,_⟩:=id hl₁;rw[ht];refine at3 (wpAny_holding (PySem.W.kun_collect (s:={ s with heap:=h₁ }) (T:="tuple_iterator") (.inr (.inr (.inr rfl))) (Walks.tuple (A:=A.in1) hh s.heap.objs.size l hlt (v0::vs).toArray) (λj u st=>st.1.typeIs) (k:=1) (by rw[hsz];omega) ⟨i1,hl₁⟩ (Heap.lt_size hoi) (Heap.lt_size hol) (λh₂ tk hk=>?_) hb))
  rw[hd];show wpAny _ _ (if vs.length<0 then _ else newList (vs.take (vs.length-0)) >>= λd=>pure ([v0]++[d]++vs.drop (vs.length-0))) _ _ _;rw[at6 (Nat.not_lt_zero _),Nat.sub_zero,List.take_length,atz];exact fin h₂ tk λb o ne e=>hk b o ne (b1.extBut b o ne (Heap.get?_push_of_some _ e))
def ahI(K:asv)(i j:Nat):TG:=λv σ H Q=>∃a v0 us,v=.ref a/\(SqL K H a (v0::us)\/SqT K H a (v0::us))/\us.length<=16000/\∀D,H D=none->Q ((σ.set i (some v0)).set j (some (.ref D))) (upd H D (.lst us))
def Vz(X:Cx)(j:Nat)(x:Str):Prop:=X.N[j]?=some x/\Loc X.env.scope x/\(X.fn x=true\/X.env.scope.names.lookup x=some .local)
theorem ahZ{X:Cx}{i j k:Nat}{x y:Str}{px py ps pos:Pos}(hc:X.calm=true)(hN:X.N.Nodup)(hx:Vz X i x)(hy:Vz X j y):PG X (.Tuple [.Name x px,.Starred (.Name y py) ps] k pos) (ahI X.K i j):=by
 refine⟨λpins s σ H v u Q I r h=>?_⟩;obtain⟨a,v0,us,rfl,hq,hz,q⟩:=h;cases r;have e1:assign (.Tuple [.Name x px,.Starred (.Name y py) ps] k pos) X.env (.ref a)=(do standAt pos;unpack (.ref a) (assignEach [.Name x px,.Starred (.Name y py) ps] X.env)):=by with_unfolding_all rfl
 have e2:assignEach [.Name x px,.Starred (.Name y py) ps] X.env=[(false,assign (.Name x px) X.env),(true,assign (.Name y py) X.env)]:=by with_unfolding_all rfl
 rw[e1,e2];refine at3 (wpAny_standAt ?_);unfold unpack;obtain⟨w0,ws,hlw,rv0,rvs⟩:∃w0 ws,(s.heap.IsList a (w0::ws).toArray\/IsTup s.heap a (w0::ws).toArray)/\RelV v0 w0/\Vals us ws:=by
  rcases hq with hq|hq
  .obtain⟨its,rv,p,_⟩:=I.list hq;cases rv with
   |cons r t=>exact⟨_,_,.inl p.isList,r,t⟩
  .obtain⟨its,rv,p,_⟩:=I.tuple hq;cases rv with
   |cons r t=>exact⟨_,_,.inr p,r,t⟩
 refine at3 (wpAny_holding (amU (I.ok.hd hc) hlw (by rw[<-rvs.length];exact hz) λh₂ tk hk=>?_));have I2:L2.Inv X pins σ H { s with heap:=h₂,toks:=tk }:=I.kept (t':=tk) hk;have I3:=I2.lnew (t':=tk) rvs (agv (by omega));refine assignInOrder_cons (wpAny_assign_Name (store_ok I3 hN hx.1 hx.2.1 rv0 (λs4 I4=>?_) hx.2.2));refine assignInOrder_cons (wpAny_assign_Name (store_ok I4 hN hy.1 hy.2.1 (v:=.ref h₂.objs.size) rfl (λs5 I5=>assignInOrder_nil ?_) hy.2.2));exact⟨_,_,I5,q _ I2.fresh⟩
section
variable{X:Cx}{aj:aQ}{W:WX}{q:Bool}{e:Expr}{pos:Pos}
def X4(i j:Nat)(f:GF):SF:=λM Z=>(f M Z).then Z λd M'=>match d with
 |.list (d0::ds)=>if ds.length<=16000 then .next ((Z.set i (some (.dat d0))).set j (some (.dat (.list ds)))) M' else .bad
 |.tuple (d0::ds)=>if ds.length<=16000 then .next ((Z.set i (some (.dat d0))).set j (some (.dat (.list ds)))) M' else .bad
 |_=>.bad
theorem aii{i j k:Nat}{x y:Str}{px py ps tp:Pos}{f:GF}(hc:X.calm=true)(hN:X.N.Nodup)(hx:Vz X i x)(hy:Vz X j y)(he:GE aj X W q e f)(hs:swapsWithSole [.Tuple [.Name x px,.Starred (.Name y py) ps] k tp] e pos.line X.env=pure false)(hw:swappedStores [.Tuple [.Name x px,.Starred (.Name y py) ps] k tp] e X.env=pure none) :
  SE aj X W q (.Assign [.Tuple [.Name x px,.Starred (.Name y py) ps] k tp] e pos) (X4 i j f):=by
 refine PS.weak (ps_asg he (ahZ hc hN hx hy) hs hw (by with_unfolding_all rfl)) λD σ H ⟨g,Z,M,I,z⟩=>?_;refine tE.go I (dw (σ:=σ) z) λd M' v H' g' kk r I' rv=>?_;have fin:∀{a:Addr} {v0:V} {us:List V} {d0:Dat} {ds:List Dat},v=.ref a->(SqL X.K H' a (v0::us)\/SqT X.K H' a (v0::us))->Rep X.K g' H' v0 d0->aJ X.K g' H' us ds->(if ds.length<=16000 then v8.next ((Z.set i (some (.dat d0))).set j (some (.dat (.list ds)))) M' else .bad).sat (sN X.K aj q D.nx g H) (sR X.K aj q D.rt g H) (sN X.K aj q D.bk g H) (sN X.K aj q D.ct g H) (sX X.K aj W q g H)->ahI X.K i j v σ H' D.nx:=λ{a v0 us d0 ds} ev hq r0 rs kk=>by
  split at kk
  .next hz=>
   refine⟨a,v0,us,ev,hq,by rw[rs.length];exact hz,λp np=>?_⟩;have e1:=Ex.new (o:=.lst us) np;have I2:=I'.ex e1;refine kk _ _ g' (r.trans (Gr.ex e1)) ((I2.set (r0.ex e1 I'.kd)).set (.lst (.inl ⟨at7,I'.kd.fresh np⟩) (rs.ex e1 I'.kd)))
  .exact atX kk
 split at kk
 .obtain⟨a,us,ev,s1,t1⟩:=iZ rv.weak;cases t1 with
  |cons r0 rs=>exact fin ev (.inl s1) r0 rs kk
 .obtain⟨a,us,ev,s1,t1⟩:=lV rv.weak;cases t1 with
  |cons r0 rs=>exact fin ev (.inr s1) r0 rs kk
 .exact atX kk
def RN(i j:Nat)(f:GF):SF:=λM Z=>(f M Z).then Z λd M'=>.next ((Z.set i (some (.dat d))).set j (some (.dat d))) M'
theorem aiV{i j:Nat}{x y:Str}{px py:Pos}{f:GF}(hN:X.N.Nodup)(hx:Vz X i x)(hy:Vz X j y)(he:GE aj X W q e f)(hw:swappedStores [.Name x px,.Name y py] e X.env=pure none):SE aj X W q (.Assign [.Name x px,.Name y py] e pos) (RN i j f):=by refine PS.weak (ps_asg2 he (pg_name hN hx.1 hx.2.1 hx.2.2) (pg_name hN hy.1 hy.2.1 hy.2.2) (by with_unfolding_all rfl) hw) λD σ H ⟨g,Z,M,I,z⟩=>?_;exact tE.go I (dw (σ:=σ) z) λd M' v H' g' kk r I' rv=>kk _ H' g' r ((I'.set rv).set rv)
def sPN(js:List Nat)(as:QA):SF:=λM Z=>((as M Z).at M).then Z λds M'=>match vN js ds Z with
 |some Z'=>.next Z' M'
 |none=>.bad
theorem ams{j:Nat}{y:Str}{py:Pos}{elt tg iter:Expr}{cpos:Pos}{scope:Scope}{own:List (Str×Nat)}{it:IF}{tgf:gH}{js:List Nat}{tt:QT}{te:QF}{ifs:List Expr}(hc:X.calm=true)(hN:X.N.Nodup)(hy:X.N[j]?=some y)(hyl:X.env.scope.names.lookup y=some .local)
  (hsw:swapsWith (.ListComp elt [⟨tg,iter,ifs,0⟩] scope cpos) (some (.Name y py)) pos.line X.env=pure true) (hi:QI aj X W false tg iter it) (ok:blkC X.N X.env.scope scope own=true) (hj:∀j∈js,j∈own.map (·.2))
  (hg:∀(s:Shared) (H:Hp) (C:Addr) (cl:List (Str×Addr)) (fp:List Addr),QG aj (X.blk s H scope (compEnvC scope cl C X.env) fp) tg js tgf)
  (ht:∀(s:Shared) (H:Hp) (C:Addr) (cl:List (Str×Addr)) (fp:List Addr),PTs (X.blk s H scope (compEnvC scope cl C X.env) fp) ifs (lQ X.K aj WF tt))
  (he:∀(s:Shared) (H:Hp) (C:Addr) (cl:List (Str×Addr)) (fp:List Addr),QE aj (X.blk s H scope (compEnvC scope cl C X.env) fp) WF elt te) (hs:∀x,foldedSetIterable iter X.env x=pure x) :
  SE aj X W q (.Assign [.Name y py] (.ListComp elt [⟨tg,iter,ifs,0⟩] scope cpos) pos) (aR (aF j) (gOf (fX it tgf (own.map (·.2)) tt te))):=by
 refine PS.weak (ps_setLc (g:=Ar X.K aj js tgf) (tt:=lQ X.K aj WF tt) (te:=tQ X.K aj WF te) hc hN hy hyl hsw hi (blkOk_by ok) (λs H C cl fp=>hg s H C cl fp) ht (λs H C cl fp=>he s H C cl fp) hs) λD σ H ⟨g,Z,M,I,z⟩=>?_;refine ahF hj σ H _ ⟨g,Z,M,I,(Out.iY (dw (σ:=σ) z)).mono (λd kk v H' e r=>?_) λx kk H' c dd e r=>kk H' g c dd (Gr.ex e) (I.ex e) r⟩;exact kk _ H' g (Gr.ex e) ((I.ex e).set r)
end
inductive GV where
 |con (d:Dat)
 |fq (n:Nat) (m:Mo->List Dat->Out Dat)
 |fg (n:Nat) (m:Mo->List Dat->bx Dat)
 |dic (kvs:List (Str×Dat))
 |exc
 |exi (fs:List Str)
 |cls (n:Nat) (m:Mo->List Dat->bx Dat)
 |kin (κ:Str->Option (List Bool))
def GV.soft:GV->Bool
 |.con _=>false
 |.dic _=>false
 |.exc=>false
 |_=>true
inductive MV where
 |q (n:Nat) (m:Mo->List Dat->Out Dat)
 |g (n:Nat) (m:Mo->List Dat->bx Dat)
def FQ(P:Program)(w:World)(K:asv)(mg:Str->Option Value)(base:Heap)(aj:aQ)(k:Nat)(f:Addr)(n:Nat)(m:Mo->List Dat->Out Dat):Prop:=
 ∃(fd:FuncData) (ps:List Str) (j:Nat),j<=k/\ps.length=n/\Binds K fd ps []/\FnOk P w K mg base (L2.CX P w) j f fd ps (TY K aj ps.length m)
def FG(P:Program)(w:World)(K:asv)(mg:Str->Option Value)(base:Heap)(aj:aQ)(k:Nat)(f:Addr)(n:Nat)(m:Mo->List Dat->bx Dat):Prop:=
 ∃(fd:FuncData) (ps:List Str) (j:Nat),j<=k/\ps.length=n/\Binds K fd ps []/\FnOk P w K mg base (L2.CX P w) j f fd ps (Jm K aj ps.length m)
def jN(K:asv)(aj:aQ):Prop:=∀c C f,aj c=some C->f∈aj.fl c->Cls K C/\NoAttr K C f
def cC(P:Program)(w:World)(K:asv)(mg:Str->Option Value)(base:Heap)(aj:aQ)(k:Nat)(c m:Str)(v:MV):Prop:=
 ∃C f,aj c=some C/\Cls K C/\Meth K C m f/\m∉aj.fl c/\match v with
  |.q n mm=>FQ P w K mg base aj k f n mm
  |.g n mm=>FG P w K mg base aj k f n mm
def agi(C:Addr)(fs:List Str):Sp:=λvs H Q _=>∃(a:Addr) (xs:List V),vs=.ref a::xs/\xs.length=fs.length/\H a=some (exo a C none)/\
 ∀(dx:Addr) (H':Hp),H dx=none->(∀b o,b≠a->H b=some o->H' b=some o)->(∀b,H' b=none->H b=none)->H' a=some (exo a C (some dx))->H' dx=some (exd dx (fs.zip xs).reverse)->Q .non H'
def adn(w:World)(K:asv)(a:Addr)(kvs:List (Str×Dat)):Prop:=∃(es:Array DictEntry) (n:Nat),KDict K w a es n/\(kvs.map (·.1)).Nodup/\
 ∀x:Str,match kvs.lookup x with
  |some d=>∃v u,PySem.W.nsIn K a x=some (some u)/\RelV v u/\∀g H,Rep K g H v d
  |none=>PySem.W.nsIn K a x=some none
def FnK(P:Program)(w:World)(K:asv)(mg:Str->Option Value)(base:Heap)(aj:aQ)(k:Nat)(f:Addr)(fd:FuncData)(ps:List Str)(κ:Str->Option (List Bool)):Prop:=
 ∀(A:Around) (outer:List PySem.Env) (s:Shared) (H:Hp) (args:Args) (p:Addr×Obj) (cls:Value) (d:Option Addr) (n:Str) (bs:List Bool) (Q:VK) (E:XK),L2H.RoomH k A->Zc cls d p.2->(∃vs,p.2.data=.fields vs)->
  (d=none\/∃b fs,d=some b/\H b=some (.xd fs))->L2H.PinOk outer H s p->Env0 P w K mg base A outer s H->BindsTo s fd args (ps.zip [.ref p.1])->(∃C,aj n=some C/\cls=.ref C)->κ n=some bs->
  (∀l H',Ex H H'->H l=none->H' l=some (.lst (bs.map V.bl))->Q (.ref l) H')->codeAny (model P w) A (.call (.ref f) args) (CR (L2.CX P w) outer P w H s Q E) s
def bh(P:Program)(w:World)(K:asv)(mg:Str->Option Value)(base:Heap)(aj:aQ)(k:Nat)(x:Str):GV->Prop
 |.con d=>∃v u,mg x=some u/\RelV v u/\(∀g H,Rep K g H v d)/\∀a ds,v=.ref a->d=.tuple ds->∃o,K.lookup a=some o/\o.cls=.type "tuple"/\o.dict=none
 |.fq n m=>∃f,mg x=some (.ref f)/\PySem.W.keepIn K (.ref f)=true/\FQ P w K mg base aj k f n m
 |.fg n m=>∃f,mg x=some (.ref f)/\PySem.W.keepIn K (.ref f)=true/\FG P w K mg base aj k f n m
 |.dic kvs=>∃a,mg x=some (.ref a)/\adn w K a kvs
 |.exc=>∃C,mg x=some (.ref C)/\aj x=some C/\PySem.W.excIn K C He.veBase "ValueError.__new__"=true/\PySem.W.keepIn K (.ref C)=true/\PySem.W.subIn K (.ref C) (.type "BaseException")=some true/\PySem.W.typeIn K (.ref C)=some (.type "type")
 |.exi fs=>∃(C fI:Addr) (fd:FuncData) (ps:List Str),mg x=some (.ref C)/\aj x=some C/\OexC K C/\PySem.W.findIn K (.ref C) "__init__"=some (some (.ref fI))/\PySem.W.typeIn K (.ref fI)=some (.type "function")/\2<=k/\ps.length=fs.length+1/\Binds K fd ps []/\FnOk P w K mg base CX0 1 fI fd ps (agi C fs)
 |.cls n m=>∃(C f:Addr) (fd:FuncData) (ps:List Str) (j:Nat),mg x=some (.ref C)/\aj x=some C/\Cls K C/\Mk K C f/\j+1<=k/\ps.length=n+1/\Binds K fd ps []/\FnOk P w K mg base (L2.CX P w) j f fd ps (Jm K aj ps.length m)
 |.kin κ=>∃f,mg x=some (.ref f)/\PySem.W.keepIn K (.ref f)=true/\∃(fd:FuncData) (ps:List Str) (j:Nat),j<=k/\ps.length=1/\Binds K fd ps []/\FnK P w K mg base aj j f fd ps κ
def adt(K:asv)(aj:aQ)(y:Str)(tk:Str->Option Bool):Prop:=∀x b C,tk x=some b->aj x=some C->∀D,aj y=some D->PySem.W.exmOne K (.ref C) (.ref D)=some b
def putL(f:Str)(x:jB):List (Str×jB)->List (Str×jB)
 |[]=>[(f,x)]
 |(g,y)::r=>if g=f then(g,x)::r else(g,y)::putL f x r
def Inst.put(i:Inst)(f:Str)(x:jB):Inst:=⟨i.cls,putL f x i.fs⟩
theorem Kg(f:Str)(x:jB):∀gs:List (Str×jB),(putL f x gs).map (·.1)=if f∈gs.map (·.1) then gs.map (·.1) else gs.map (·.1)++[f]
 |[]=>by simp[putL]
 |(g,y)::r=>by
  have ih:=Kg f x r;rw[putL];by_cases e:g=f
  .subst e;simp
  .rw[at6 e,asy,ih];by_cases h:f∈r.map (·.1)
   .rw[at5 h,at5 (by simp[h])];rfl
   .rw[at6 h,at6 (by
     rw[asy,asN]
     rintro(z|z)
     .exact e z.symm
     .exact h z)]
    rfl
theorem adi{f:Str}{x:jB}{gs:List (Str×jB)}(h:(gs.map (·.1)).Nodup):((putL f x gs).map (·.1)).Nodup:=by
 rw[Kg];split
 .exact h
 .next n=>
  rw[ato];refine⟨h,by simp,λa ha b hb e=>?_⟩;subst e;rw[asF]at hb;subst hb;exact n ha
theorem Mf{f:Str}{v:V}:∀{fs:List (Str×V)},fs.lookup f=some v->putF f v fs=fs
 |[],h=>nomatch h
 |(g,y)::r,h=>by
  rw[asY]at h;rw[show putF f v ((g,y)::r)=(if g=f then(g,v)::r else(g,y)::putF f v r) from rfl];by_cases e:g=f
  .subst e;simp at h;rw[at5 rfl,h]
  .have ne:(f==g)=false:=by simpa using λz=>e z.symm
   rw[ne]at h;rw[at6 e,Mf h]
section
variable{K:asv}{aj:aQ}{W:WX}{g g':Gh}{H H':Hp}{σ:L2.St}{Z:Env}{M:Mo}{h:Nat}{f:Str}{v:V}{fl:jB}
theorem cR.put(hk:∀f' v' fl',f'≠f->eZ K aj g H h f' v' fl'->eZ K aj g' H' h f' v' fl')(new:eZ K aj g' H' h f v fl):∀{fs:List (Str×V)} {gs:List (Str×jB)},cR K aj g H h fs gs->(gs.map (·.1)).Nodup->cR K aj g' H' h (putF f v fs) (putL f fl gs)
 |_,_,.nil,_=>.cons new .nil
 |_,_,.cons (f:=f') (v:=v') (fl:=fl') (fs:=fs) (gs:=gs) z t,nd=>by
  rw[show putF f v ((f',v')::fs)=(if f'=f then(f',v)::fs else(f',v')::putF f v fs) from rfl,putL];rw[asy,atO]at nd;by_cases e:f'=f
  .subst e;rw[at5 rfl,at5 rfl];refine .cons new ?_;have go:∀{fs:List (Str×V)} {gs:List (Str×jB)},cR K aj g H h fs gs->f'∉gs.map (·.1)->cR K aj g' H' h fs gs:=λ{fs gs} t=>by
    induction t with
    |nil=>exact λ_=>.nil
    |cons z _ ih=>
     intro n;rw[asy,asN,not_or]at n;exact .cons (hk _ _ _ (λq=>n.1 q.symm) z) (ih n.2)
   exact go t nd.1
  .rw[at6 e,at6 e];exact .cons (hk _ _ _ e z) (cR.put hk new t nd.2)
structure Chg(M:Mo)(g g':Gh)(H H':Hp)(h:Nat)(f:Str):Prop where
 gc:Gc g g' H H'
 kd:Kd g' H'
 tbl:g'.tbl=g.tbl
 ow:∀a p,g.ow a=some p->g'.ow a=some p
 oth:∀a p,g.ow a=some p->p≠(h,f)->H' a=H a
 ins:∀(k:Nat) (a:Addr) (i:Inst),g.tbl[k]?=some a->M[k]?=some i->i.cls≠""->k≠h->H' a=H a
 nt:∀(k:Nat) (a:Addr) (i:Inst),g.tbl[k]?=some a->M[k]?=some i->i.cls≠""->∀p,g'.ow a≠some p
theorem jP.chg{l:Addr}(r:Gr false g g' H H')(k:Kd g H)(e:H' l=H l):∀{n:Bool} {kvs:List (Dat×Dat)},jP K aj g H l n kvs->jP K aj g' H' l n kvs
 |false,_,⟨kv,h1,h2,h3⟩=>⟨kv,e.trans h1,h2,h3.gr r k⟩
 |true,_,⟨o,xs,vs,h1,h2,h3,h4,h5,h6⟩=>⟨o,xs,vs,e.trans h1,h2,h3,h4.gr r k,h5,h6.gr r k⟩
theorem eZ.chg(c:Chg M g g' H H' h f)(k:Kd g H){h':Nat}{f':Str}{v':V}(ne:(h',f')≠(h,f)):∀{fl':jB},eZ K aj g H h' f' v' fl'->eZ K aj g' H' h' f' v' fl'
 |.dat _,z=>Rep.gr c.gc.gr k z
 |.lst _ _,⟨l,us,h1,h2,h3,h4,h5⟩=>⟨l,us,h1,(c.oth l _ h3 ne).trans h2,c.ow l _ h3,h4.gr c.gc.gr k,c.gc.gr.tb h5⟩
 |.dic _ _,⟨l,h1,h2,h3⟩=>⟨l,h1,c.ow l _ h2,h3.chg c.gc.gr k (c.oth l _ h2 ne)⟩
theorem gU.chg(w:gU K aj g H M)(k:Kd g H)(c:Chg M g g' H H' h f){a:Addr}{i:Inst}(ha:g.tbl[h]?=some a)(hi:M[h]?=some i)(hne:i.cls≠"")(hf:f∈aj.fl i.cls){C dx:Addr}{fs:List (Str×V)}(hC:aj i.cls=some C)(R:cR K aj g H h fs i.fs)
  (e':H' a=some (.ins C dx (putF f v fs))) (new:eZ K aj g' H' h f v fl):gU K aj g' H' (M.set h (i.put f fl)) where
 len:=by rw[c.tbl,as5];exact w.len
 inj:=by rw[c.tbl];exact w.inj
 ins:=λh' a' i' ha' hi' hc'=>by
  rw[c.tbl]at ha';by_cases z:h'=h
  .subst z;rw[ha]at ha';cases ha';rw[asT (asx.mp hi).1]at hi';cases hi';exact⟨C,dx,_,hC,e',R.put (λf' v' fl' ne z=>z.chg c k λq=>ne (congrArg Prod.snd q)) new (w.nd _ i hi)⟩
  .rw[asI (Ne.symm z)]at hi';obtain⟨C',dx',fs',c1,c2,c3⟩:=w.ins h' a' i' ha' hi' hc';refine⟨C',dx',fs',c1,(c.ins h' a' i' ha' hi' hc' z).trans c2,?_⟩;have go:∀{fs:List (Str×V)} {gs:List (Str×jB)},cR K aj g H h' fs gs->cR K aj g' H' h' fs gs:=λ{fs gs} t=>by
    induction t with
    |nil=>exact .nil
    |cons y _ ih=>exact .cons (y.chg c k λq=>z (congrArg Prod.fst q)) ih
   exact go c3
 nd:=λh' i' hi'=>by
  by_cases z:h'=h
  .subst z;rw[asT (asx.mp hi).1]at hi';cases hi';exact adi (w.nd _ i hi)
  .rw[asI (Ne.symm z)]at hi';exact w.nd h' i' hi'
 fd:=λh' i' hi' f' hf'=>by
  by_cases z:h'=h
  .subst z;rw[asT (asx.mp hi).1]at hi';cases hi';have hf':f'∈(putL f fl i.fs).map (·.1):=hf';rw[Kg]at hf';split at hf'
   .exact w.fd _ i hi f' hf'
   .rcases asR.mp hf' with y|y
    .exact w.fd _ i hi f' y
    .rw[asF]at y;rw[y];exact hf
  .rw[asI (Ne.symm z)]at hi';exact w.fd h' i' hi' f' hf'
 tw:=λk' a' i' ha' hi' hc'=>by
  rw[c.tbl]at ha';have:∃i0,M[k']?=some i0/\i0.cls≠"":=by
   by_cases z:k'=h
   .subst z;exact⟨i,hi,hne⟩
   .rw[asI (Ne.symm z)]at hi';exact⟨i',hi',hc'⟩
  obtain⟨i0,m1,m2⟩:=this;cases hz:g'.ow a' with
  |none=>rfl
  |some p=>exact absurd hz (c.nt k' a' i0 ha' m1 m2 p)
 dm:=λh' i' hi' hc'=>by
  by_cases z:h'=h
  .subst z;rw[asT (asx.mp hi).1]at hi';cases hi';exact absurd hc' hne
  .rw[asI (Ne.symm z)]at hi';exact w.dm h' i' hi' hc'
 nc:=w.nc
theorem anw{a:Addr}(ha:g.tbl[h]?=some a):g.W a:=.inl (asH ha)
theorem U8(k:Kd g H)(w:gU K aj g H M){a:Addr}{i:Inst}(ha:g.tbl[h]?=some a)(hi:M[h]?=some i)(hc:i.cls≠""){C dx:Addr}{fs':List (Str×V)}:Chg M g g H (upd H a (.ins C dx fs')) h f where
 gc:=⟨λb o hb n=>by rw[upd_ne (λz=>by subst z;exact n (anw ha))];exact hb,λb hb=>by
  by_cases z:b=a
  .subst z;rw[at7]at hb;cases hb
  .rw[upd_ne z]at hb;exact hb,⟨[],by simp⟩,λ_ z=>z,λ_ z=>.inl z,rfl,rfl,rfl⟩
 kd:=k.upd atV
 tbl:=rfl
 ow:=λ_ _ z=>z
 oth:=λb p hb _=>upd_ne λz=>by
  subst z;rw[w.tw h _ i ha hi hc]at hb;cases hb
 ins:=λj b i' hb _ _ ne=>upd_ne λz=>by
  subst z;exact ne (w.inj _ _ _ hb ha)
 nt:=λj b i' hb hj hcj p z=>by
  rw[w.tw j b i' hb hj hcj]at z;cases z
def Gh.own(g:Gh)(l:Addr)(h:Nat)(f:Str):Gh:={ g with ow:=λb=>if b=l then some (h,f) else g.ow b }
theorem amH{l a:Addr}(hl:l∈g.tbl):(g.own l h f).W a↔g.W a:=by
 constructor
 .rintro(z|z)
  .exact .inl z
  .by_cases y:a=l
   .subst y;exact .inl hl
   .have z:(if a=l then some (h,f) else g.ow a)≠none:=z;rw[at6 y]at z;exact .inr z
 .rintro(z|z)
  .exact .inl z
  .refine .inr ?_
   show(if a=l then some (h,f) else g.ow a)≠none
   split
   .exact λq=>nomatch q
   .exact z
theorem UW(k:Kd g H)(w:gU K aj g H M){a l:Addr}{n:Nat}{i:Inst}(ha:g.tbl[h]?=some a)(hi:M[h]?=some i)(hc:i.cls≠"")(hl:g.tbl[n]?=some l)(hn:M[n]?=some ⟨"",[]⟩)(nl:g.ow l=none){C dx:Addr}{fs':List (Str×V)}:Chg M g (g.own l h f) H (upd H a (.ins C dx fs')) h f:=by
 have W':∀{b:Addr},(g.own l h f).W b↔g.W b:=λ{b}=>amH (asH hl);have d:=U8 (f:=f) (C:=C) (dx:=dx) (fs':=fs') k w ha hi hc;refine⟨⟨d.gc.keep,d.gc.dom,⟨[],by simp[Gh.own]⟩,λb z=>W'.mpr z,λb z=>.inl (W'.mp z),rfl,rfl,rfl⟩,⟨λb z=>d.kd.ob b ?_,λb z y=>d.kd.lo b z (W'.mp y),λb z=>⟨λy=>(d.kd.lc b z).1 (W'.mp y),(d.kd.lc b z).2⟩⟩,rfl,λb p z=>?_,d.oth,d.ins,λj b i' hb hj hcj p z=>?_⟩
 .rcases z with z|z|z
  .exact .inl (W'.mp z)
  .exact .inr (.inl z)
  .exact .inr (.inr z)
 .show(if b=l then some (h,f) else g.ow b)=some p
  rw[at6 (λy=>by subst y;rw[nl]at z;cases z)];exact z
 .have z:(if b=l then some (h,f) else g.ow b)=some p:=z;by_cases y:b=l
  .subst y;cases w.inj _ _ _ hb hl;rw[hn]at hj;cases hj;exact hcj rfl
  .rw[at6 y,w.tw j b i' hb hj hcj]at z;cases z
theorem aex(k:Kd g H)(w:gU K aj g H M){l:Addr}{o':HO}(ho:g.ow l=some (h,f))(mo:JF o'):Chg M g g H (upd H l o') h f where
 gc:=⟨λb u hb n=>by rw[upd_ne (λz=>by subst z;exact n (.inr (by rw[ho];exact λy=>nomatch y)))];exact hb,λb hb=>by
  by_cases z:b=l
  .subst z;rw[at7]at hb;cases hb
  .rw[upd_ne z]at hb;exact hb,⟨[],by simp⟩,λ_ z=>z,λ_ z=>.inl z,rfl,rfl,rfl⟩
 kd:=k.upd mo
 tbl:=rfl
 ow:=λ_ _ z=>z
 oth:=λb p hb ne=>upd_ne λz=>by
  subst z;rw[ho]at hb;exact ne (asZ hb).symm
 ins:=λj b i' hb hj hcj ne=>upd_ne λz=>by
  subst z;rw[w.tw j _ i' hb hj hcj]at ho;cases ho
 nt:=λj b i' hb hj hcj p z=>by
  rw[w.tw j b i' hb hj hcj]at z;cases z
theorem cR.len{fs:List (Str×V)}{gs:List (Str×jB)}(t:cR K aj g H h fs gs):fs.length=gs.length:=by
 induction t with
 |nil=>rfl
 |cons _ _ ih=>simp[ih]
end
def M6(M:Mo)(f:Str):Dat->Option jB
 |.dict [(.none,.int (.ofNat h))]=>(M[h]?).bind λi=>i.fs.lookup f
 |_=>none
def iQ(f:Str)(o:QF):QF:=λM Z=>(o M Z).bind λd=>match M6 M f d with
 |some (.dat x)=>.ok x
 |_=>.bad
def bM(f:Str)(o:QF):QF:=λM Z=>(o M Z).bind λd=>match M6 M f d with
 |some (.dat x)=>.ok x
 |some (.lst _ xs)=>.ok (.list xs)
 |_=>.bad
theorem aeT{M:Mo}{f:Str}{d:Dat}{fl:jB}(h:M6 M f d=some fl):∃n i,d=obj n/\M[n]?=some i/\i.fs.lookup f=some fl:=by
 unfold M6 at h;split at h
 .next n=>
  obtain⟨i,h1,h2⟩:=asu.mp h;exact⟨n,i,rfl,h1,h2⟩
 .cases h
theorem lookup_mem{f:Str}{fl:jB}:∀{gs:List (Str×jB)},gs.lookup f=some fl->f∈gs.map (·.1)
 |[],h=>nomatch h
 |(g,y)::r,h=>by
  rw[asY]at h;cases hb:f==g with
  |true=>rw[at8 hb];simp
  |false=>
   rw[hb]at h;exact asB _ (lookup_mem h)
section
variable{K:asv}{aj:aQ}{g:Gh}{H:Hp}{M:Mo}
theorem YT(co:jN K aj)(w:gU K aj g H M){f:Str}{d:Dat}{fl:jB}{v:V}(h:M6 M f d=some fl)(r:dZ K g H v d):∃n i a C dx fs u,d=obj n/\M[n]?=some i/\i.fs.lookup f=some fl/\g.tbl[n]?=some a/\v=.ref a/\aj i.cls=some C/\H a=some (.ins C dx fs)/\cR K aj g H n fs i.fs/\Cls K C/\NoAttr K C f/\fs.lookup f=some u/\eZ K aj g H n f u fl:=by
 obtain⟨n,i,rfl,h1,h2⟩:=aeT h;obtain⟨a,rfl,ha⟩:=Nm r;have hc:i.cls≠"":=λz=>by
  rw[w.dm n i h1 z]at h2;cases h2
 obtain⟨C,dx,fs,c1,c2,c3⟩:=w.ins n a i ha h1 hc;obtain⟨u,l1,l2⟩:=c3.get h2;obtain⟨k1,k2⟩:=co i.cls C f c1 (w.fd n i h1 f (lookup_mem h2));exact⟨n,i,a,C,dx,fs,u,rfl,h1,h2,ha,rfl,c1,c2,c3,k1,k2,l1,l2⟩
end
section
variable{X:Cx}{aj:aQ}{W:WX}{o e:Expr}{es:List Expr}{fo:QF}{f m:Str}{pos apos:Pos}
theorem akA(co:jN X.K aj)(ho:QW aj X W o fo)(hb:baseOk o=true):QE aj X W (.Attribute o f pos) (iQ f fo):=
 PE.weak (pe_fld ho (iU hb)) λσ H Q ⟨g,Z,M,I,h⟩=>by
  refine tW.go I h.bnd λd v H1 h1 e1 r1=>?_;split at h1
  .next x hx=>
   obtain⟨n,i,a,C,dx,fs,u,_,_,_,_,rfl,_,c2,_,k1,k2,l1,l2⟩:=YT co (I.ex e1).wok hx r1;exact⟨a,C,dx,fs,u,rfl,c2,k1,k2,l1,h1 u H1 e1 l2⟩
  .exact atX h1
theorem akS(co:jN X.K aj)(ho:QW aj X W o fo)(hb:baseOk o=true):QW aj X W (.Attribute o f pos) (bM f fo):=
 PE.weak (pe_fld ho (iU hb)) λσ H Q ⟨g,Z,M,I,h⟩=>by
  refine tW.go I h.bnd λd v H1 h1 e1 r1=>?_;split at h1
  .next x hx=>
   obtain⟨n,i,a,C,dx,fs,u,_,_,_,_,rfl,_,c2,_,k1,k2,l1,l2⟩:=YT co (I.ex e1).wok hx r1;exact⟨a,C,dx,fs,u,rfl,c2,k1,k2,l1,h1 u H1 e1 (Rep.weak l2)⟩
  .next xs hx=>
   obtain⟨n,i,a,C,dx,fs,u,_,_,_,_,rfl,_,c2,_,k1,k2,l1,l,us,rfl,s1,s2,s3,_⟩:=YT co (I.ex e1).wok hx r1;exact⟨a,C,dx,fs,_,rfl,c2,k1,k2,l1,h1 _ H1 e1 ⟨l,us,rfl,sq_of s1,s3⟩⟩
  .exact atX h1
def T8(X:Cx)(W:WX)(m:Str)(ta:TE)(t:TA):TE:=λσ H Q=>ta σ H λx H1=>∃(a C dx:Addr) (fs:List (Str×V)) (f:Addr) (fd:FuncData) (ps:List Str) (sp:Sp) (k:Nat),x=.ref a/\H1 a=some (.ins C dx fs)/\fs.lookup m=none/\Cls X.K C/\Meth X.K C m f/\Room k X.A/\Binds X.K fd ps []/\
 FnOk X.prog X.w X.K X.mg X.base (L2.CX X.prog X.w) k f fd ps sp/\t σ H1 λvs H2=>sp (x::vs) H2 Q (WE W σ)
theorem Wi{M:Model}{A:Around}{E:Value->Shared->Prop}{s:Shared}{env:PySem.Env}{args:List Expr}{Q:Value->Shared->Prop}(hbase:baseOk o=true)(hs:args.all nst=true)(hz:args.length<30)(hl:(apos.endLine==pos.line)=true)
  (h:wpAny M A (eval o env) (λov s₁=>∀pl:Sem Bool,wpAny M A (getMethod ov m pl) (λfx s₂=>wpAny M A (callWith pos fx.1 fx.2 (backTo pos (starEach args env)) (backToKw pos (keywordEach [] env))) Q E s₂) E s₁) E s) :
  wpAny M A (eval (.Call (.Attribute o m apos) args [] pos) env) Q E s:=by
 have hform:methodCallForm (args.length+([]:List Keyword).length) (backTo pos (starEach args env)) (backToKw pos (keywordEach [] env))=true:=few hs hz;have hpos:methodCallPos true o env apos pos=pure pos:=by unfold methodCallPos;simp[hl]
 rw[arm_eval_Call,iU hbase];refine at3 (wpAny_mono h (λov s₁ h₁=>?_) λ_ _ e=>e);refine at3 (wpAny_standAt ?_);unfold methodCall;rw[hform];refine at3 (wpAny_holding ?_);refine wpAny_mono (h₁ _) (λfx s₂ h₂=>?_) λ_ _ e=>e;exact at3 (wpAny_of_eq hpos h₂)
theorem Z9{ta:TE}{t:TA}(tk:Takes X W)(ho:PE X o ta)(ha:PA X (e::es) t)(hb:baseOk o=true)(hs:(e::es).all nst=true)(hl:(apos.endLine==pos.line)=true)(hz:(e::es).length<30):PE X (.Call (.Attribute o m apos) (e::es) [] pos) (T8 X W m ta t):=by have hs':=hs;rw[atc,asw]at hs';refine⟨λpins s σ H Q I h=>?_⟩;refine Wi hb hs hz hl (thn (ho.run pins s σ H _ I h) λu s1 ⟨x,G,J,rx,a,C,dx,fs,f,fd,ps,sp,k,ex,ea,l,c,hm,hr,hB,F,q⟩ pl=>?_);subst ex;cases rx;refine getmeth_ok J ea c hm l ?_;refine PySem.W.callWith_K (first:=[.ref a]) (h₀:=X.base) I.ok.mod.kin hm.kp (thn (ha.run pos pins s1 σ G _ J q) λus s2 ⟨vs,G2,J2,r,q2⟩=>⟨J2.kIn,?_⟩) (bQ hs'.1 es) (star_any es hs'.2);exact run_fnS (us:=.ref a::us) (vs:=.ref a::vs) F hr hB (passAt tk σ) J2 (.cons rfl r) q2
theorem Xl{ta:TE}(tk:Takes X W)(ho:PE X o ta)(hb:baseOk o=true)(hl:(apos.endLine==pos.line)=true):PE X (.Call (.Attribute o m apos) [] [] pos) (T8 X W m ta tNil):=by refine⟨λpins s σ H Q I h=>?_⟩;refine Wi hb rfl (by decide) hl (thn (ho.run pins s σ H _ I h) λu s1 ⟨x,G,J,rx,a,C,dx,fs,f,fd,ps,sp,k,ex,ea,l,c,hm,hr,hB,F,q⟩ pl=>?_);subst ex;cases rx;refine getmeth_ok J ea c hm l ?_;exact PySem.W.callWith_K0 (first:=[.ref a]) J.kIn hm.kp (run_fnS (us:=[.ref a]) (vs:=[.ref a]) F hr hB (passAt tk σ) J (.cons rfl .nil) q)
def Gq(tb:List (Str×MV))(M:Mo):Dat->Option MV
 |.dict [(.none,.int (.ofNat h))]=>(M[h]?).bind λi=>tb.lookup i.cls
 |_=>none
def aX(tb:List (Str×MV))(o:QF)(as:QA):QF:=λM Z=>(o M Z).bind λd=>match Gq tb M d with
 |some (.q _ m)=>(as M Z).bind λds=>m M (d::ds)
 |_=>.bad
def bR(tb:List (Str×MV))(o:QF)(as:QA):GF:=λM Z=>((o M Z).at M).bind λd _=>match Gq tb M d with
 |some (.q _ m)=>((as M Z).at M).bind λds _=>(m M (d::ds)).at M
 |some (.g _ m)=>((as M Z).at M).bind λds _=>m M (d::ds)
 |none=>.bad
def Ka(X:Cx)(aj:aQ)(k:Nat)(m:Str)(n:Nat)(tb:List (Str×MV)):Prop:=∀c v,tb.lookup c=some v->cC X.prog X.w X.K X.mg X.base aj k c m v/\match v with
  |.q j _=>j=n
  |.g j _=>j=n
theorem Ka.cls{k n:Nat}{tb:List (Str×MV)}(T:Ka X aj k m n tb):∀c v,tb.lookup c=some v->aj c≠none:=λc v h z=>by
 obtain⟨⟨C,f,c1,_⟩,_⟩:=T c v h;rw[z]at c1;cases c1
theorem Vv{K:asv}{g:Gh}{H:Hp}{M:Mo}{tb:List (Str×MV)}{d:Dat}{v:V}{mv:MV}(ht:∀c v,tb.lookup c=some v->aj c≠none)(w:gU K aj g H M)(h:Gq tb M d=some mv)(r:dZ K g H v d):∃n i a C dx fs,d=obj n/\M[n]?=some i/\tb.lookup i.cls=some mv/\g.tbl[n]?=some a/\v=.ref a/\aj i.cls=some C/\H a=some (.ins C dx fs)/\cR K aj g H n fs i.fs:=by
 unfold Gq at h;split at h
 .next n=>
  obtain⟨i,h1,h2⟩:=asu.mp h;obtain⟨a,rfl,ha⟩:=Nm r;obtain⟨C,dx,fs,c1,c2,c3⟩:=w.ins n a i ha h1 λz=>ht _ _ h2 (by rw[z];exact w.nc);exact⟨n,i,a,C,dx,fs,rfl,h1,h2,ha,rfl,c1,c2,c3⟩
 .cases h
theorem Z0{K:asv}{g:Gh}{H:Hp}{M:Mo}{n:Nat}{i:Inst}{fs:List (Str×V)}(w:gU K aj g H M)(hi:M[n]?=some i)(R:cR K aj g H n fs i.fs)(h:m∉aj.fl i.cls):fs.lookup m=none:=by
 refine R.no ?_;cases hl:i.fs.lookup m with
 |none=>rfl
 |some x=>exact absurd (w.fd n i hi m (lookup_mem hl)) h
theorem afA{tb:List (Str×MV)}{as:QA}{n k:Nat}{t:TA}(hr:Room k X.A)(T:Ka X aj k m n tb)(hn:∀M Z ds,as M Z=.ok ds->ds.length+1=n)(ht:∀σ H Q,PN X.K aj W as σ H Q->t σ H Q)(σ:L2.St)(H:Hp)(Q:VK)(h:tQ X.K aj W (aX tb fo as) σ H Q):T8 X W m (tW X.K aj W fo) t σ H Q:=by
 obtain⟨g,Z,M,I,h⟩:=h;refine tW.go I h.bnd λd v H1 h1 e1 r1=>?_;have I1:=I.ex e1;split at h1
 .next j mm hmv=>
  obtain⟨hd,i,a,C,dx,fs,rfl,hi,hl,ha,rfl,c1,c2,c3⟩:=Vv T.cls I1.wok hmv r1;obtain⟨⟨C',f,cc,cl,me,nf,fd,ps,j',hj,hp,hB,F⟩,en⟩:=T _ _ hl;have en:j=n:=en;rw[c1]at cc;cases cc;refine⟨a,C,dx,fs,f,fd,ps,_,j',rfl,c2,Z0 I1.wok hi c3 nf,cl,me,hr.mono hj,hB,F,ht σ H1 _ ⟨g,Z,M,I1,?_⟩⟩;have h2:=h1.bnd;cases has:as M Z with
  |exc x=>rw[has]at h2;exact rB.ex e1 h2
  |bad=>rw[has]at h2;exact atX h2
  |ok ds=>
   rw[has]at h2;intro vs H2 e2 r2;refine⟨by rw[hp,en,<-hn M Z ds has,asQ,r2.length],g,M,obj hd::ds,(I1.ex e2).kd,(I1.ex e2).wok,.cons (.obj ha) r2,?_⟩;exact Out.sat.mono h2 (λd k v H' e' r'=>k v H' ((e1.trans e2).trans e') r') λx k H' c dd e' r'=>k H' c dd ((e1.trans e2).trans e') r'
 .exact atX h1
theorem ahT{tb:List (Str×MV)}{as:QA}{k:Nat}(tk:Takes X W)(hr:Room k X.A)(T:Ka X aj k m ((e::es).length+1) tb)(ho:QW aj X W o fo)(ha:Hz aj X W (e::es) as)(hn:∀M Z ds,as M Z=.ok ds->ds.length=(e::es).length)(hb:baseOk o=true)(hs:(e::es).all nst=true)(hl:(apos.endLine==pos.line)=true)(hz:(e::es).length<30) :
  QE aj X W (.Call (.Attribute o m apos) (e::es) [] pos) (aX tb fo as):=
 PE.weak (Z9 tk ho ha hb hs hl hz) λσ H Q h=>afA hr T (λM Z ds z=>by rw[hn M Z ds z]) (λ_ _ _ z=>z) σ H Q h
theorem ahg{tb:List (Str×MV)}{k:Nat}(tk:Takes X W)(hr:Room k X.A)(T:Ka X aj k m 1 tb)(ho:QW aj X W o fo)(hb:baseOk o=true)(hl:(apos.endLine==pos.line)=true) :
  QE aj X W (.Call (.Attribute o m apos) [] [] pos) (aX tb fo au):=
 PE.weak (Xl tk ho hb hl) λσ H Q h=>afA hr T (λM Z ds z=>by cases z;rfl) (λσ H Q ⟨g,Z,M,I,z⟩=>z [] H (Ex.refl H) .nil) σ H Q h
theorem afx{tb:List (Str×MV)}{as:QA}{n k:Nat}{t:TA}(hr:Room k X.A)(T:Ka X aj k m n tb)(hn:∀M Z ds,as M Z=.ok ds->ds.length+1=n)(ht:∀σ H Q,PN X.K aj W as σ H Q->t σ H Q)(σ:L2.St)(H:Hp)(Q:VK)(h:tE X.K aj W false (bR tb fo as) σ H Q):T8 X W m (tW X.K aj W fo) t σ H Q:=by
 obtain⟨g,Z,M,I,h⟩:=h;have quiet:∀{x:dX},gE X.K aj W false g H σ Z x M->rB X.K aj W g H σ x:=λ{x} z H' c dd e r=>z H' g c dd (Gr.ex e) (I.ex e) r;have h:=h.bnd;refine⟨g,Z,M,I,?_⟩;cases ho:fo M Z with
 |exc x=>rw[ho]at h;exact quiet h
 |bad=>rw[ho]at h;exact atX h
 |ok d=>
  rw[ho]at h;intro v H1 e1 r1;have I1:=I.ex e1;have h:(match Gq tb M d with
   |some (.q _ m)=>((as M Z).at M).bind λds _=>(m M (d::ds)).at M
   |some (.g _ m)=>((as M Z).at M).bind λds _=>m M (d::ds)
   |none=>.bad).sat (λd M'=>∀v H' g',Gr false g g' H H'->SInv X.K aj σ H' g' Z M'->Rep X.K g' H' v d->Q v H') (gE X.K aj W false g H σ Z):=h
  split at h
  .next j mm hmv=>
   obtain⟨hd,i,a,C,dx,fs,rfl,hi,hl,ha,rfl,c1,c2,c3⟩:=Vv T.cls I1.wok hmv r1;obtain⟨⟨C',f,cc,cl,me,nf,fd,ps,j',hj,hp,hB,F⟩,en⟩:=T _ _ hl;have en:j=n:=en;rw[c1]at cc;cases cc;refine⟨a,C,dx,fs,f,fd,ps,_,j',rfl,c2,Z0 I1.wok hi c3 nf,cl,me,hr.mono hj,hB,F,ht σ H1 _ ⟨g,Z,M,I1,?_⟩⟩;have h2:=h.bnd;cases has:as M Z with
   |exc x=>rw[has]at h2;exact rB.ex e1 (quiet h2)
   |bad=>rw[has]at h2;exact atX h2
   |ok ds=>
    rw[has]at h2;intro vs H2 e2 r2;have e12:=e1.trans e2;refine⟨by rw[hp,en,<-hn M Z ds has,asQ,r2.length],g,M,obj hd::ds,(I1.ex e2).kd,(I1.ex e2).wok,.cons (.obj ha) r2,?_⟩;exact Out.sat.mono (Out.iY h2) (λd k v H' e' r'=>k v H' g (Gr.ex (e12.trans e')) (I.ex (e12.trans e')) r') λx k H' c dd e' r'=>k H' g c dd (Gr.ex (e12.trans e')) (I.ex (e12.trans e')) r'
  .next j mm hmv=>
   obtain⟨hd,i,a,C,dx,fs,rfl,hi,hl,ha,rfl,c1,c2,c3⟩:=Vv T.cls I1.wok hmv r1;obtain⟨⟨C',f,cc,cl,me,nf,fd,ps,j',hj,hp,hB,F⟩,en⟩:=T _ _ hl;have en:j=n:=en;rw[c1]at cc;cases cc;refine⟨a,C,dx,fs,f,fd,ps,_,j',rfl,c2,Z0 I1.wok hi c3 nf,cl,me,hr.mono hj,hB,F,ht σ H1 _ ⟨g,Z,M,I1,?_⟩⟩;have h2:=h.bnd;cases has:as M Z with
   |exc x=>rw[has]at h2;exact rB.ex e1 (quiet h2)
   |bad=>rw[has]at h2;exact atX h2
   |ok ds=>
    rw[has]at h2;intro vs H2 e2 r2;have e12:=e1.trans e2;refine⟨by rw[hp,en,<-hn M Z ds has,asQ,r2.length],g,M,obj hd::ds,(I1.ex e2).kd,(I1.ex e2).wok,.cons (.obj ha) r2,?_⟩;exact bx.sat.mono h2 (λd M' k v H' g' c kd wk r'=>k v H' g' ((Gr.ex e12).trans c.gr) ((I.ex e12).call c kd wk) r') λx M' k H' g' cc dd c kd wk r'=>k H' g' cc dd ((Gr.ex e12).trans c.gr) ((I.ex e12).call c kd wk) r'
  .exact atX h
theorem aiM{tb:List (Str×MV)}{as:QA}{k:Nat}(tk:Takes X W)(hr:Room k X.A)(T:Ka X aj k m ((e::es).length+1) tb)(ho:QW aj X W o fo)(ha:Hz aj X W (e::es) as)(hn:∀M Z ds,as M Z=.ok ds->ds.length=(e::es).length)(hb:baseOk o=true)(hs:(e::es).all nst=true)(hl:(apos.endLine==pos.line)=true)(hz:(e::es).length<30) :
  GE aj X W false (.Call (.Attribute o m apos) (e::es) [] pos) (bR tb fo as):=
 PE.weak (Z9 tk ho ha hb hs hl hz) λσ H Q h=>afx hr T (λM Z ds z=>by rw[hn M Z ds z]) (λ_ _ _ z=>z) σ H Q h
theorem agt{tb:List (Str×MV)}{k:Nat}(tk:Takes X W)(hr:Room k X.A)(T:Ka X aj k m 1 tb)(ho:QW aj X W o fo)(hb:baseOk o=true)(hl:(apos.endLine==pos.line)=true) :
  GE aj X W false (.Call (.Attribute o m apos) [] [] pos) (bR tb fo au):=
 PE.weak (Xl tk ho hb hl) λσ H Q h=>afx hr T (λM Z ds z=>by cases z;rfl) (λσ H Q ⟨g,Z,M,I,z⟩=>z [] H (Ex.refl H) .nil) σ H Q h
end
def fH(x:Str):SF:=λM Z=>.exc ⟨x,[]⟩ Z M
def Dr(x:Str)(fs:List Str)(as:QA):SF:=λM Z=>((as M Z).at M).then Z λds M'=>.exc ⟨x,(fs.zip ds).reverse⟩ Z M'
section
variable{X:Cx}{aj:aQ}{W:WX}{q:Bool}{x:Str}{pos p p1:Pos}{k:Nat}
theorem af5(hc:X.calm=true)(tk:Takes X W)(hg:Gl X x)(hd:(x==("__debug__" : Str))=false)(g:bh X.prog X.w X.K X.mg X.base aj k x .exc):SE aj X W q (.Raise (some (.Call (.Name x p) [] [] p1)) none pos) (fH x):=by obtain⟨C,g1,g2,g3,g4,g5,g6⟩:=g;exact PS.weak (ps_raise hc tk (Ear.af8 PySem.F.excBase_ValueError g3 g1 g4 (raises_own g5 g6) hg hd)) λD σ H ⟨g,Z,M,I,z⟩=>z σ H g (.ref C) none Gr.refl I ⟨C,g2,rfl,.inl ⟨rfl,rfl⟩⟩
theorem mK.gr{K:asv}{g g':Gh}{H H':Hp}{q:Bool}(r:Gr q g g' H H')(k:Kd g H){fs:List (Str×V)}{gs:List (Str×Dat)}(h:mK K g H fs gs):mK K g' H' fs gs:=by
 induction h with
 |nil=>exact .nil
 |cons z _ ih=>exact .cons (z.gr r k) ih
theorem mK.snoc{K:asv}{g:Gh}{H:Hp}{f:Str}{v:V}{d:Dat}(z:Rep K g H v d){fs:List (Str×V)}{gs:List (Str×Dat)}(h:mK K g H fs gs):mK K g H (fs++[(f,v)]) (gs++[(f,d)]):=by
 induction h with
 |nil=>exact .cons z .nil
 |cons y _ ih=>exact .cons y ih
theorem afw{K:asv}{g:Gh}{H:Hp}:∀{fs:List Str} {vs:List V} {ds:List Dat},aJ K g H vs ds->mK K g H (fs.zip vs).reverse (fs.zip ds).reverse
 |[],_,_,_=>.nil
 |_::_,_,_,.nil=>.nil
 |f::fs,_,_,.cons z t=>by
  rw[atj,atj,List.reverse_cons,List.reverse_cons];exact(afw t).snoc z
theorem adH{e:Expr}{es:List Expr}{fs:List Str}{as:QA}(hc:X.calm=true)(tk:Takes X W)(hr:Room k X.A)(hg:Gl X x)(hd:(x==("__debug__" : Str))=false)(g:bh X.prog X.w X.K X.mg X.base aj k x (.exi fs))(ha:Hz aj X W (e::es) as)
  (hs:(e::es).all nst=true) (hn:∀M Z ds,as M Z=.ok ds->ds.length=fs.length) (hz:fs.length<=1000):SE aj X W q (.Raise (some (.Call (.Name x p) (e::es) [] p1)) none pos) (Dr x fs as):=by
 obtain⟨C,fI,fd,ps,g1,g2,g3,g4,g5,hk,hp,hB,F⟩:=g;have hs':=hs;rw[atc,asw]at hs';refine PS.weak (ps_raise hc tk (pmk_oex g3 g4 g5 F (hr.mono hk) hB .nil pass0 hg g1 ha hd (bQ hs'.1 es) (star_any es hs'.2))) λD σ H ⟨g,Z,M,I,z⟩=>?_;refine⟨g,Z,M,I,?_⟩;unfold Dr at z;cases has:as M Z with
 |exc y=>rw[has]at z;exact λH' c dd e r=>z σ H' g c dd (Gr.ex e) (I.ex e) r.fr
 |bad=>rw[has]at z;exact atX z
 |ok ds=>
  rw[has]at z;intro vs H1 e1 r1;have hl:vs.length=fs.length:=by rw[r1.length,hn M Z ds has]
  refine⟨by omega,λa na=>⟨a,vs++[],rfl,by simpa using hl,at7,λdx H' nd kp dm ha' hd'=>?_⟩⟩;have ne:dx≠a:=λz=>by
   subst z;rw[at7]at nd;cases nd
  rw[upd_ne ne]at nd;refine⟨rfl,dx,_,ha',hd',nd,?_⟩;have kp':∀b o,H1 b=some o->(upd (del H' a) dx (.xd (fs.zip (vs++[])).reverse)) b=some o:=λb o hb=>by
   have nb:b≠a:=λz=>by subst z;rw[na]at hb;cases hb
   have nd':b≠dx:=λz=>by subst z;rw[nd]at hb;cases hb
   rw[upd_ne nd',del_ne nb];exact kp b o nb (by rw[upd_ne nb];exact hb)
  have ex:Ex H1 (upd (del H' a) dx (.xd (fs.zip (vs++[])).reverse)):=λb o hb=>kp' b o hb;have I1:=I.ex e1;refine z σ _ g (.ref C) (some dx) (Gr.ex (e1.trans ex)) (I1.ex ex) ⟨C,g2,rfl,.inr ⟨dx,_,rfl,at7,?_⟩⟩;rw[atp];have:=(afw (fs:=fs) r1).gr (Gr.ex (q:=true) ex) I1.kd;rw[atp]at this;exact mK.less (g:=g) (g':=g.fr) rfl (xU g) this
end
section
variable{P:Program}{w:World}{K:asv}{mg:Str->Option Value}{base:Heap}{C f:Addr}{fd:FuncData}{qual:Str}{st:Stmt}
theorem vis_par{N ps:List Str}{sc:Scope}(S:FnScope N ps sc){y:Str}(h:y∈ps):Vis sc y:=(S.par y h).elim (λz=>.inl z) λz=>.inr (.inl z)
theorem adN{s a1 a2 a3 f1 f2 f3:Str}{p1 p2 p3 p4 p5 p6 p7 p8 p9 p10 p11 p12:Pos}(F:L2.Fun K "__init__" qual st f fd)(S:FnScope [s,a1,a2,a3] [s,a1,a2,a3] (defScope st))(T:OexC K C)
  (hb:defBody st=[.Assign [.Attribute (.Name s p1) f1 p2] (.Name a1 p3) p4,.Assign [.Attribute (.Name s p5) f2 p6] (.Name a2 p7) p8,.Assign [.Attribute (.Name s p9) f3 p10] (.Name a3 p11) p12])
  (dz:∀y∈[s,a1,a2,a3],(y==("__debug__" : Str))=false/\(y==("__classdict__" : Str))=false) (n1:PySem.W.findIn K (.ref C) f1=some none) (n2:PySem.W.findIn K (.ref C) f2=some none) (n3:PySem.W.findIn K (.ref C) f3=some none) :
  FnOk P w K mg base CX0 1 f fd [s,a1,a2,a3] (agi C [f1,f2,f3]):=by
 refine F.ok S (λvs H Q E h=>?_) (λcdv A outer s0 H vs Q E hr h=>?_)
 .obtain⟨a,xs,rfl,hl,_⟩:=h;simp[hl]
 .obtain⟨a,xs,rfl,hl,ha,q⟩:=h
  match xs,hl with
  |[x,y,z],_=>
  rw[hb];have v0:=vis_par S (y:=s) (by simp);have v1:=vis_par S (y:=a1) (by simp);have v2:=vis_par S (y:=a2) (by simp);have v3:=vis_par S (y:=a3) (by simp);obtain⟨c0,k0⟩:=dz s (by simp);obtain⟨c1,k1⟩:=dz a1 (by simp);obtain⟨c2,k2⟩:=dz a2 (by simp);obtain⟨c3,k3⟩:=dz a3 (by simp);refine⟨_,pss_cons (ps_ost (pe_var (i:=0) rfl v0 c0 k0) (pe_var (i:=1) rfl v1 c1 k1)) (pss_cons (ps_ost (pe_var (i:=0) rfl v0 c0 k0) (pe_var (i:=2) rfl v2 c2 k2)) (pss_one (ps_ost (pe_var (i:=0) rfl v0 c0 k0) (pe_var (i:=3) rfl v3 c3 k3)))),?_⟩;refine⟨_,rfl,_,rfl,a,C,rfl,T,n1,.inl ⟨ha,λdx nd ne=>?_⟩⟩;refine⟨_,rfl,_,rfl,a,C,rfl,T,n2,.inr ⟨dx,[(f1,x)],at7,(by rw[upd_ne ne];exact at7),(show 1<=900 by decide),?_⟩⟩;refine⟨_,rfl,_,rfl,a,C,rfl,T,n3,.inr ⟨dx,_,(by rw[upd_ne ne.symm];exact at7),at7,(show 2<=900 by decide),?_⟩⟩;refine q dx _ nd (λb o hb hB=>?_) (λb hB=>?_) (by rw[upd_ne ne.symm,upd_ne ne.symm];exact at7) at7
  .have hbd:b≠dx:=ne_of_none hB nd;rw[upd_ne hbd,upd_ne hbd,upd_ne hb,upd_ne hbd];exact hB
  .by_cases e:b=dx
   .rw[e];exact nd
   .by_cases e2:b=a
    .subst e2;rw[upd_ne e,upd_ne e,at7]at hB;cases hB
    .rw[upd_ne e,upd_ne e,upd_ne e2,upd_ne e]at hB;exact hB
end
structure Cl where
 c:Value
 nm:Option Nat
 ts:Addr->Value->Option Addr->TS
def an5(D:Ends)(i:Nat):Ends:={ nx:=λτ G=>D.nx (τ.set i none) G,rt:=D.rt,bk:=λτ G=>D.bk (τ.set i none) G,ct:=λτ G=>D.ct (τ.set i none) G }
def aaz(K:asv)(Wo:WX)(D:Ends):List Cl->WX
 |[]=>Wo
 |l::r=>λcls d τ G=>∃b,PySem.W.exmOne K cls l.c=some b/\(b=true->∀a,G a=none->(match l.nm with
   |none=>l.ts a cls d D τ G
   |some i=>l.ts a cls d (an5 D i) (τ.set i (some (.ref a))) G))/\(b=false->aaz K Wo D r cls d τ G)
inductive Dc(X:Cx):List ExceptHandler->List Cl->Prop
 |nil:Dc X [] []
 |one {x:Str} {l:Cl} {s0:Stmt} {su:List Stmt} {np cp:Pos} {hds:List ExceptHandler} {ls:List Cl} (hc:Names X x l.c) (hn:l.nm=none)
   (hsu:∀(a:Addr) (oe:Obj) (cls:Value) (d:Option Addr) (pn:List (Addr×Obj)),Zc cls d oe->(∃vs,oe.data=.fields vs)->PSs (X.suite a ((a,oe)::pn)) (s0::su) (l.ts a cls d)) (r:Dc X hds ls) :
   Dc X (.ExceptHandler (some (.Name x np)) none (s0::su) cp::hds) (l::ls)
 |as {x n:Str} {i:Nat} {l:Cl} {s0:Stmt} {su:List Stmt} {np cp:Pos} {hds:List ExceptHandler} {ls:List Cl} (hc:Names X x l.c) (hn:l.nm=some i) (hi:X.N[i]?=some n) (hl:X.env.kindOf n=some .local)
   (hsu:∀(a:Addr) (oe:Obj) (cls:Value) (d:Option Addr) (pn:List (Addr×Obj)),Zc cls d oe->(∃vs,oe.data=.fields vs)->PSs (X.suite a ((a,oe)::pn)) (s0::su) (l.ts a cls d)) (r:Dc X hds ls) :
   Dc X (.ExceptHandler (some (.Name x np)) (some n) (s0::su) cp::hds) (l::ls)
section
variable{X:Cx}{body:List Stmt}{h0:ExceptHandler}{hds:List ExceptHandler}{ls:List Cl}{pos:Pos}{tb:WX->TS}{Wo:WX}
theorem aiU(hs:X.stack=X.env::X.outer)(hf:X.env.frame=some X.env.locals)(hN:X.N.Nodup)(tk:Takes X Wo)
  (hb:∀(W:WX) (pn:List (Addr×Obj)) (xe:Value->Shared->Prop),Takes (X.tr pn xe) W->PassesOwn (model X.prog X.w) X.A X.env xe->PSs (X.tr pn xe) body (tb W))
  (hh:Dc X (h0::hds) ls):PS X (.Try body (h0::hds) [] [] pos) (λD σ H=>tb (aaz X.K Wo D ls) D σ H):=by
 constructor;intro pins s σ H D I h;have ok:=I.ok;have frm:X.A.frames=some (X.env::X.outer):=by rw[ok.frames,hs]
 have run:=(hb (aaz X.K Wo D ls) (X.pn++pins) (λe t₁=>wpAny (model X.prog X.w) X.A (noteFrame e X.env) (λ_ t₂=>wpAny (model X.prog X.w) X.A (setFlight e none) (λ_ t₃=>wpAny (model X.prog X.w) X.A (handleBy e X.env (h0::hds)) (SP X pins D) X.xe t₃) X.xe t₂) X.xe t₁) (λu t xx=>by
  obtain⟨a,B,sI,pins2,τ,G,cls,d,rfl,J2,nb,up,sky,na,os,ag,w⟩:=xx;have J:Inv X pins τ G sI:=J2.ofTry ok;have sky2:Sky B (X.env::X.outer) a (Zc cls d) X.env.locals t.heap:=by rw[<-hs];exact sky
  show wpAny (model X.prog X.w) X.A (noteFrame (.ref a) X.env) _ _ _;refine Sky.land Zc.steady frm hf sky2 ?_;intro h3 fl3 up3;have J3:Inv X pins τ G { t with heap:=h3 }:=J.landed nb fl3.1 (up.trans up3) os ag;obtain⟨oe3,vs3,he3,hz3,hd3⟩:=fl3.there;have notF:a∉frs (X.env::X.outer):=λhm=>by
   obtain⟨_,o,eo,hnf⟩:=Heap.FunFrames.mem fl3.2.2.1 hm;rw[he3]at eo;cases eo;exact hnf _ hd3
  have nL:a≠X.env.locals:=λz=>notF (List.mem_filterMap.mpr ⟨X.env,asC,(by rw[hf,z])⟩);have nF:a∉X.fs:=λhm=>by
   obtain⟨e,he,q⟩:=List.mem_filterMap.mp hm;exact notF (List.mem_filterMap.mpr ⟨e,asB _ he,q⟩)
  have S3:=J3.suite he3 hd3 na nL nF;have look:PySem.W.Looks (model X.prog X.w) h3 (typeOf (.ref a)) cls:=λA Q E s k q=>wpAny_typeOf_ref (k _ _ he3) (by rw[hz3.1];exact q);have named:∀{x:Str} {c:Value} {np:Pos} {Q:Value->Shared->Prop} {E:Value->Shared->Prop},Names X x c->Q c { t with heap:=h3 }->wpAny (model X.prog X.w) (X.A.mark (some (.ref a))) (eval (.Name x np) X.env) Q E { t with heap:=h3 }:=by
   intro x c np Q E hc q;obtain⟨hg,hdb,hm⟩:=hc;rcases hm with hm|⟨hm,hv,hnn⟩
   .exact ld_glob (X:=X.suite a ((a,oe3)::(X.pn++pins))) S3 hg hm q hdb
   .exact ld_blt (X:=X.suite a ((a,oe3)::(X.pn++pins))) S3 hg hm hv q hnn hdb
  have all:∀{hds2:List ExceptHandler} {ls2:List Cl},Dc X hds2 ls2->aaz X.K Wo D ls2 cls d τ G->wpAny (model X.prog X.w) X.A (handleBy (.ref a) X.env hds2) (SP X pins D) X.xe { t with heap:=h3 }:=by
   intro hds2 ls2 hk
   induction hk with
   |nil=>
    intro w;refine wpAny_handleBy_nil ?_;obtain⟨k1,k2,k3,oe,vs,T,oT,ts2,he,hz,hd,h1,hr⟩:=id fl3;unfold PySem.passOn;refine at3 (wpAny_field he hd h1 ?_);have nT:¬((Value.ref T==Value.none)=true):=by simp
    rw[at6 nT];have fin:wpAny (model X.prog X.w) X.A (setFlight (.ref a) X.env.frame) (λ_ s4=>wpAny (model X.prog X.w) X.A (throw (.ref a):Sem Flow) (SP X pins D) X.xe s4) X.xe { t with heap:=h3 }:=by rw[hf];refine HandSPX.setFlight_upZ fl3 ?_;intro h4 hh4 up4;refine wpAny_throw (tk _ _ ?_);exact⟨a,B,sI,pins,τ,G,cls,d,rfl,J,nb,(up.trans up3).trans up4,.inr (.inr (by rw[hs];exact hh4)),na,os,ag,w⟩
    first
     |exact at3 (at4 (at3 fin))
     |exact at3 fin
   | @one x l s0 su np cp hds3 ls3 hc hn hsu r ih=>
    intro w;obtain⟨b,hb1,yes,no⟩:=w;rw[hn]at yes;have LM:=PySem.W.exm_one (M:=model X.prog X.w) J3.kIn look hb1;refine wpAny_handleBy_cons (codeAny_handlers_test ?_) (by intro q;cases q);refine named hc (LM.here ?_);cases b with
    |false=>exact ih (no rfl)
    |true=>
     refine codeAny_handlers_suite ?_;refine HandSPX.lands_againZ fl3 ?_;intro h4 fl4 up4;have J4:Inv X pins τ G { t with heap:=h4 }:=J.landed nb fl4.1 ((up.trans up3).trans up4) os ag;obtain⟨oe4,vs4,he4,hz4,hd4⟩:=fl4.there;have S4:=J4.suite he4 hd4 na nL nF;refine wpAny_mono ((hsu a oe4 cls d (X.pn++pins) hz4 ⟨_,hd4⟩).run [] _ _ G _ S4 (yes rfl a na)) ?_ (λ_ _ z=>atX z);intro f s6 sp6;cases f with
     |ret u=>
      obtain⟨v6,τ6,G6,S6,r6,q6⟩:=sp6;exact⟨_,_,_,S6.unsuite ok,r6,q6⟩
     |next=>
      obtain⟨τ6,G6,S6,q6⟩:=sp6;exact⟨_,_,S6.unsuite ok,q6⟩
     |brk=>
      obtain⟨τ6,G6,S6,q6⟩:=sp6;exact⟨_,_,S6.unsuite ok,q6⟩
     |cont=>
      obtain⟨τ6,G6,S6,q6⟩:=sp6;exact⟨_,_,S6.unsuite ok,q6⟩
   | @as x n i l s0 su np cp hds3 ls3 hc hn hi hl hsu r ih=>
    intro w;obtain⟨b,hb1,yes,no⟩:=w;rw[hn]at yes;have LM:=PySem.W.exm_one (M:=model X.prog X.w) J3.kIn look hb1;refine wpAny_handleBy_cons (codeAny_handlers_test ?_) (by intro q;cases q);refine named hc (LM.here ?_);cases b with
    |false=>exact ih (no rfl)
    |true=>
     refine codeAny_handlers_suite_as ?_;refine HandSPX.lands_againZ fl3 ?_;intro h4 fl4 up4;have J4:Inv X pins τ G { t with heap:=h4 }:=J.landed nb fl4.1 ((up.trans up3).trans up4) os ag;obtain⟨oe4,vs4,he4,hz4,hd4⟩:=fl4.there;have S4:=J4.suite he4 hd4 na nL nF;refine store_ok (X:=X.suite a ((a,oe4)::(X.pn++pins))) (v:=.ref a) S4 hN hi (.inl hl) rfl ?_ (.inr hl);intro s5 S5;refine wpAny_mono ((hsu a oe4 cls d (X.pn++pins) hz4 ⟨_,hd4⟩).run [] s5 _ G _ S5 (yes rfl a na)) ?_ (λ_ _ z=>atX z);intro f s6 sp6;have bye:∀{τ6:L2.St} {G6:Hp} {Q:Shared->Prop},Inv (X.suite a ((a,oe4)::(X.pn++pins))) [] τ6 G6 s6->(∀s7,Inv X pins (τ6.set i none) G6 s7->Q s7)->
       wpAny (model X.prog X.w) X.A (do bindName X.env n .none;unbindBehindTheSuite X.env n cp) (λ_ s7=>Q s7) X.xe s6:=λS6 hq=>gone_ok (S6.unsuite ok) hN hi hl hq
     cases f with
     |ret u=>
      obtain⟨v6,τ6,G6,S6,r6,q6⟩:=sp6;exact bye S6 λs7 J7=>⟨_,_,_,J7,r6,q6⟩
     |next=>
      obtain⟨τ6,G6,S6,q6⟩:=sp6;exact bye S6 λs7 J7=>⟨_,_,J7,q6⟩
     |brk=>
      obtain⟨τ6,G6,S6,q6⟩:=sp6;exact bye S6 λs7 J7=>⟨_,_,J7,q6⟩
     |cont=>
      obtain⟨τ6,G6,S6,q6⟩:=sp6;exact bye S6 λs7 J7=>⟨_,_,J7,q6⟩
  exact all hh w) PassesOwn.looking).run [] s σ H D (I.toTry _) h
 refine wpAny_Try_except (wpAny_mono run ?_ (λ_ _ z=>z));intro f s1 sp1;cases f with
 |ret u=>
  obtain⟨v,τ,G,J2,r,q⟩:=sp1;exact⟨v,τ,G,J2.ofTry ok,r,q⟩
 |next=>
  obtain⟨τ,G,J2,q⟩:=sp1;exact wpAny_execs_nil ⟨τ,G,J2.ofTry ok,q⟩
 |brk=>
  obtain⟨τ,G,J2,q⟩:=sp1;exact⟨τ,G,J2.ofTry ok,q⟩
 |cont=>
  obtain⟨τ,G,J2,q⟩:=sp1;exact⟨τ,G,J2.ofTry ok,q⟩
end
inductive Gj where
 |con (d:Dat)|fld (f:Str)|flds (fs:List Str)
 |kin (κ:Str->Option (List Bool))
def Zv(y:Str)(x:dX)(f:Str):Option Dat:=match x.cls==y with
 |true=>(x.fs.lookup f).bind λd=>match lf d with
  |true=>some d
  |false=>none
 |false=>none
def TX(y:Str)(x:dX):List Str->Option (List Dat)
 |[]=>some []
 |f::fs=>(Zv y x f).bind λd=>(TX y x fs).bind λds=>some (d::ds)
def JB(y:Str)(x:dX):Gj->Option Dat
 |.con d=>some d
 |.fld f=>Zv y x f
 |.flds fs=>(TX y x fs).bind λds=>some (.tuple ds)
 |.kin κ=>(κ x.cls).bind λbs=>some (.list (bs.map .bool))
def yu(y:Str)(x:dX):List (Nat×Gj)->Env->Option Env
 |[],Z=>some Z
 |(j,e)::r,Z=>(JB y x e).bind λd=>yu y x r (Z.set j (some (.dat d)))
structure Hd where
 y:Str
 tk:Str->Option Bool
 nm:Option Nat
 st:List (Nat×Gj)
def Vb(Z:Env):Option Nat->Env
 |none=>Z
 |some i=>Z.set i none
def adl(Z:Env):Option Nat->Bool
 |none=>true
 |some i=>decide (i<Z.length)
def hdl:List Hd->dX->Env->Mo->v8
 |[],x,Z,M=>.exc x Z M
 |h::r,x,Z,M=>match h.tk x.cls with
  |some true=>match adl Z h.nm with
   |true=>match yu h.y x h.st (Vb Z h.nm) with
    |some Z2=>.next (Vb Z2 h.nm) M
    |none=>.bad
   |false=>.bad
  |some false=>hdl r x Z M
  |none=>.bad
def Qn(f:SF)(hs:List Hd):SF:=λM Z=>match f M Z with
 |.exc x Z' M'=>hdl hs x Z' M'
 |o=>o
structure XIn(K:asv)(aj:aQ)(σ:L2.St)(H:Hp)(g:Gh)(Z:Env)(M:Mo)(x:dX)(a:Addr)(cls:Value)(d:Option Addr)(i:Option Nat):Prop where
 inv:SInv K aj σ H g Z M
 xr:rF K aj g.fr H x cls d
 sl:∀j,i=some j->σ[j]?=some (some (.ref a))
section
variable(K:asv)(aj:aQ)(a:Addr)(cls:Value)(d:Option Addr)(i:Option Nat)
def tU(f:dX->Option Dat):TE:=λσ H Q=>∃g Z M x z,XIn K aj σ H g Z M x a cls d i/\f x=some z/\∀v H',Ex H H'->Rep K g H' v z->Q v H'
def tUA(f:dX->Option (List Dat)):TA:=λσ H Q=>∃g Z M x z,XIn K aj σ H g Z M x a cls d i/\f x=some z/\∀v H',Ex H H'->aJ K g H' v z->Q v H'
def tSu(y:Str)(st:List (Nat×Gj)):TS:=λD σ H=>∃g Z M x Z2,XIn K aj σ H g Z M x a cls d i/\yu y x st Z=some Z2/\(∀p∈st,i≠some p.1)/\∀σ' H',Ex H H'->SInv K aj σ' H' g Z2 M->D.nx σ' H'
end
section
variable{K:asv}{aj:aQ}{a:Addr}{cls:Value}{d:Option Addr}{i:Option Nat}{σ:L2.St}{H H':Hp}{g:Gh}{Z:Env}{M:Mo}{x:dX}
theorem mK.ex{fs:List (Str×V)}{gs:List (Str×Dat)}(e:Ex H H')(k:Kd g H)(h:mK K g H fs gs):mK K g H' fs gs:=h.gr (Gr.ex (q:=true) e) k
theorem rF.ex{c:Value}{dd:Option Addr}(e:Ex H H')(k:Kd g H)(h:rF K aj g H x c dd):rF K aj g H' x c dd:=by obtain⟨C,h1,h2,h3⟩:=h;exact⟨C,h1,h2,h3.imp id λ⟨b,fs,e1,e2,e3⟩=>⟨b,fs,e1,e _ _ e2,e3.ex e k⟩⟩
theorem XIn.ex(e:Ex H H')(h:XIn K aj σ H g Z M x a cls d i):XIn K aj σ H' g Z M x a cls d i:=⟨h.inv.ex e,h.xr.ex e h.inv.kd.fr,h.sl⟩
theorem mK.get{f:Str}{z:Dat}{fs:List (Str×V)}{gs:List (Str×Dat)}(h:mK K g H fs gs)(e:gs.lookup f=some z):∃v,fs.lookup f=some v/\Rep K g H v z:=by
 induction h with
 |nil=>cases e
 | @cons f' v d' _ _ r _ ih=>
  rw[asY]at e;rw[asY];cases hb:f==f' with
  |true=>
   rw[hb]at e;cases e;exact⟨v,rfl,r⟩
  |false=>
   rw[hb]at e;exact ih e
end
section
variable{X:Cx}{aj:aQ}{a C:Addr}{oe:Obj}{cls:Value}{d:Option Addr}{pn:List (Addr×Obj)}{y n:Str}{pos p:Pos}{j:Nat}
theorem aea{e:Expr}{z:Dat}{i:Option Nat}{t:TE}(h:PE (X.suite a ((a,oe)::pn)) e t)(ht:∀σ H Q,tU X.K aj a cls d i (λ_=>some z) σ H Q->t σ H Q):PE (X.suite a ((a,oe)::pn)) e (tU X.K aj a cls d i λ_=>some z):=PE.weak h ht
theorem ae6{f:Str}(hC:aj y=some C)(T:XfC X.K C)(hno:PySem.W.findIn X.K (.ref C) f=some none)(hz:Zc cls d oe)(hf:∃vs,oe.data=.fields vs)(hN:X.N[j]?=some n)(hv:Vis X.env.scope n)(hd:(n==("__debug__" : Str))=false)(hcd:(n==("__classdict__" : Str))=false) :
  PE (X.suite a ((a,oe)::pn)) (.Attribute (.Name n p) f pos) (tU X.K aj a cls d (some j) λx=>Zv y x f):=by
 refine PE.weak (pe_xf T hno hz hf (pe_var (i:=j) (X:=X.suite a ((a,oe)::pn)) hN hv hd hcd)) λσ H Q ⟨g,Z,M,x,z,I,e,k⟩=>?_;have e:Zv y x f=some z:=e;unfold Zv at e;split at e
 .next ey=>
  obtain⟨z',l,e⟩:=asu.mp e;split at e
  .next hl=>
   cases e;obtain⟨C',c1,c2,c3⟩:=I.xr;rw[at8 ey,hC]at c1;cases c1;rcases c3 with⟨c3,_⟩|⟨b,fs,c3,c4,c5⟩
   .rw[c3]at l;cases l
   .obtain⟨v,l1,l2⟩:=c5.get l;exact⟨.ref a,I.sl j rfl,rfl,c2,b,fs,v,c3,c4,l1,k v H (Ex.refl H) (Rep.free (g:=g.fr) (g':=g) rfl hl l2)⟩
  .cases e
 .cases e
theorem aeQ{i:Option Nat}:PA (X.suite a ((a,oe)::pn)) [] (tUA X.K aj a cls d i λ_=>some []):=PA.weak pa_nil λσ H Q ⟨g,Z,M,x,z,I,e,k⟩=>by
 cases e;exact k [] H (Ex.refl H) .nil
theorem ajB{e:Expr}{es:List Expr}{i:Option Nat}{f:dX->Option Dat}{fr:dX->Option (List Dat)}(h:PE (X.suite a ((a,oe)::pn)) e (tU X.K aj a cls d i f))(hr:PA (X.suite a ((a,oe)::pn)) es (tUA X.K aj a cls d i fr))(hs:nst e=true) :
  PA (X.suite a ((a,oe)::pn)) (e::es) (tUA X.K aj a cls d i λx=>(f x).bind λz=>(fr x).bind λzs=>some (z::zs)):=by
 refine PA.weak (pa_cons h hr (bQ hs es)) λσ H Q ⟨g,Z,M,x,z,I,e,k⟩=>?_;obtain⟨z1,e1,e⟩:=asu.mp e;obtain⟨z2,e2,e⟩:=asu.mp e;cases e;exact⟨g,Z,M,x,z1,I,e1,λv H1 x1 r1=>⟨g,Z,M,x,z2,I.ex x1,e2,λvs H2 x2 r2=>k (v::vs) H2 (x1.trans x2) (.cons (r1.ex x2 (I.ex x1).inv.kd) r2)⟩⟩
theorem afo{es:List Expr}{kk:Nat}{i:Option Nat}{fr:dX->Option (List Dat)}(hr:PA (X.suite a ((a,oe)::pn)) es (tUA X.K aj a cls d i fr))(hn:∀x zs,fr x=some zs->zs.length<=100000):PE (X.suite a ((a,oe)::pn)) (.Tuple es kk pos) (tU X.K aj a cls d i λx=>(fr x).bind λzs=>some (.tuple zs)):=by refine PE.weak (pe_tup hr) λσ H Q ⟨g,Z,M,x,z,I,e,k⟩=>?_;obtain⟨zs,e1,e⟩:=asu.mp e;cases e;refine⟨g,Z,M,x,zs,I,e1,λvs H1 x1 r1=>⟨sz_of (by rw[r1.length];exact hn x zs e1),λp np=>?_⟩⟩;exact k (.ref p) _ (x1.trans (Ex.new np)) (.tup (st_of at7) (r1.ex (Ex.new np) (I.ex x1).inv.kd))
theorem Wr{x:dX}:∀{fs:List Str} {zs:List Dat},TX y x fs=some zs->zs.length=fs.length
 |[],zs,h=>by cases h;rfl
 |f::fs,zs,h=>by
  rw[TX]at h;obtain⟨z1,e1,h⟩:=asu.mp h;obtain⟨z2,e2,h⟩:=asu.mp h;cases h;simp[Wr e2]
theorem akq{i:Option Nat}{se:Gj}{st:List (Nat×Gj)}{D D':Ends}{σ:L2.St}{H:Hp}(h:tSu X.K aj a cls d i y ((j,se)::st) D σ H)(nx:∀σ' H',tSu X.K aj a cls d i y st D σ' H'->D'.nx σ' H') :
  tAsg (tU X.K aj a cls d i λx=>JB y x se) (gName j) D' σ H:=by
 obtain⟨g,Z,M,x,Z2,I,e,nj,k⟩:=h;rw[yu]at e;obtain⟨z,e1,e⟩:=asu.mp e;refine⟨g,Z,M,x,z,I,e1,λv H' x1 r1=>nx _ _ ⟨g,Z.set j (some (.dat z)),M,x,Z2,⟨(I.ex x1).inv.set r1,(I.ex x1).xr,λjj hj=>?_⟩,e,λp hp=>nj p (asB _ hp),λσ' H2 x2 I2=>k σ' H2 (x1.trans x2) I2⟩⟩;have ne:j≠jj:=λz=>nj (j,se) asC (by rw[hj,z]);rw[asI ne];exact I.sl jj hj
theorem akk{i:Option Nat}{D:Ends}{σ:L2.St}{H:Hp}(h:tSu X.K aj a cls d i y [] D σ H):D.nx σ H:=by obtain⟨g,Z,M,x,Z2,I,e,nj,k⟩:=h;cases e;exact k σ H (Ex.refl H) I.inv
end
def aoG(K:asv)(aj:aQ)(h:Hd)(l:Cl):Prop:=(∃D,aj h.y=some D/\l.c=.ref D)/\adt K aj h.y h.tk/\l.nm=h.nm/\(l.ts=λa cls d=>tSu K aj a cls d h.nm h.y h.st)/\∀p∈h.st,h.nm≠some p.1
inductive Jk(K:asv)(aj:aQ):List Hd->List Cl->Prop
 |nil:Jk K aj [] []
 |cons {h:Hd} {l:Cl} {hs:List Hd} {ls:List Cl} (o:aoG K aj h l) (r:Jk K aj hs ls):Jk K aj (h::hs) (l::ls)
theorem SInv.off{K:asv}{aj:aQ}{σ:L2.St}{H:Hp}{g:Gh}{Z:Env}{M:Mo}(I:SInv K aj σ H g Z M)(i:Nat)(v:Option V):SInv K aj (σ.set i v) H g (Z.set i none) M:=by
 have I2:=I.forget (j:=i);refine⟨I2.kd,I2.wok,by rw[as5,as5];exact I.len,λj d h=>?_,λj xs h=>?_,λj k xs ys l ne h1 h2 h3=>?_⟩
 .by_cases e:j=i
  .subst e;rw[atx]at h;split at h<;>first | (split at h<;>cases h) | (exact absurd rfl ‹¬_›)
  .obtain⟨v',a1,a2⟩:=I2.dat j d h;rw[asI (Ne.symm e)]at a1;exact⟨v',by rw[asI (Ne.symm e)];exact a1,a2⟩
 .by_cases e:j=i
  .subst e;rw[atx]at h;split at h<;>first | (split at h<;>cases h) | (exact absurd rfl ‹¬_›)
  .obtain⟨l,us,a1,a2⟩:=I2.own j xs h;rw[asI (Ne.symm e)]at a1;exact⟨l,us,by rw[asI (Ne.symm e)];exact a1,a2⟩
 .have n1:j≠i:=λz=>by
   subst z;rw[atx]at h1;split at h1<;>first | (split at h1<;>cases h1) | (exact absurd rfl ‹¬_›)
  have n2:k≠i:=λz=>by
   subst z;rw[atx]at h2;split at h2<;>first | (split at h2<;>cases h2) | (exact absurd rfl ‹¬_›)
  rw[asI (Ne.symm n1)]at h1 h3;rw[asI (Ne.symm n2)]at h2 |-
  exact I.sep j k xs ys l ne h1 h2 h3
section
variable{X:Cx}{aj:aQ}{W:WX}{q:Bool}{body:List Stmt}{h0:ExceptHandler}{hds:List ExceptHandler}{hs:List Hd}{ls:List Cl}{pos:Pos}{f:SF}
theorem ak2{D:Ends}{g g':Gh}{H H':Hp}{σ':L2.St}{Z':Env}{M':Mo}{x:dX}{c:Value}{dd:Option Addr}(ha:Jk X.K aj hs ls)(r:Gr q g g' H H')(I:SInv X.K aj σ' H' g' Z' M')(xr:rF X.K aj g'.fr H' x c dd)
  (z:(hdl hs x Z' M').sat (sN X.K aj q D.nx g H) (sR X.K aj q D.rt g H) (sN X.K aj q D.bk g H) (sN X.K aj q D.ct g H) (sX X.K aj W q g H)):aaz X.K W D ls c dd σ' H':=by
 induction ha with
 |nil=>exact z σ' H' g' c dd r I xr
 | @cons h l hs ls o _ ih=>
  obtain⟨⟨D0,o1,o2⟩,o3,o4,o5,o6⟩:=o;rw[hdl]at z;obtain⟨C,c1,c2,c3⟩:=id xr;split at z
  .next ht=>
   refine⟨true,by rw[c2,o2];exact o3 _ _ _ ht c1 _ o1,λ_ a na=>?_,λy=>nomatch y⟩;rw[o4,o5];split at z
   .next hm=>
    split at z
    .next Z2 hr=>
     cases hnm:h.nm with
     |none=>
      rw[hnm]at hr z o6;exact⟨g',Z',M',x,Z2,⟨I,xr,λj hj=>nomatch hj⟩,hr,o6,λσ2 H2 e2 I2=>z σ2 H2 g' (r.trans (Gr.ex e2)) I2⟩
     |some i=>
      rw[hnm]at hr z o6 hm;refine⟨g',Z'.set i none,M',x,Z2,⟨I.off i _,xr,λj hj=>?_⟩,hr,o6,λσ2 H2 e2 I2=>z _ H2 g' (r.trans (Gr.ex e2)) (I2.off i none)⟩;cases hj;have hl:i<Z'.length:=atZ hm;rw[asT (by rw[I.len];exact hl)]
    .exact atX z
   .exact atX z
  .next ht=>exact⟨false,by rw[c2,o2];exact o3 _ _ _ ht c1 _ o1,(λy=>nomatch y),λ_=>ih z⟩
  .exact atX z
theorem ajM(st:X.stack=X.env::X.outer)(hf:X.env.frame=some X.env.locals)(hN:X.N.Nodup)(tk:Takes X W)
  (hb:∀(W':WX) (pn:List (Addr×Obj)) (xe:Value->Shared->Prop),Takes (X.tr pn xe) W'->PassesOwn (model X.prog X.w) X.A X.env xe->Ge aj (X.tr pn xe) W' q body f)
  (hh:Dc X (h0::hds) ls) (ha:Jk X.K aj hs ls):SE aj X W q (.Try body (h0::hds) [] [] pos) (Qn f hs):=by
 refine PS.weak (aiU (tb:=λW'=>tS X.K aj W' q f) st hf hN tk (λW' pn xe t p=>hb W' pn xe t p) hh) λD σ H ⟨g,Z,M,I,z⟩=>?_;refine⟨g,Z,M,I,?_⟩;unfold Qn at z;cases hfm:f M Z with
 |next Z' M'=>rw[hfm]at z;exact z
 |ret d M'=>rw[hfm]at z;exact z
 |brk Z' M'=>rw[hfm]at z;exact z
 |cont Z' M'=>rw[hfm]at z;exact z
 |bad=>rw[hfm]at z;exact z
 |exc x Z' M'=>
  rw[hfm]at z;exact λσ' H' g' c dd r I' xr=>ak2 ha r I' xr z
end
section
variable{K:asv}{aj:aQ}{W:WX}{g g':Gh}{H H':Hp}{σ:L2.St}{Z:Env}{M:Mo}
theorem jP.grow{l:Addr}(r:Gr false g g' H H')(e:Ex H H')(k:Kd g H):∀{n:Bool} {kvs:List (Dat×Dat)},jP K aj g H l n kvs->jP K aj g' H' l n kvs
 |false,_,⟨kv,h1,h2,h3⟩=>⟨kv,e _ _ h1,h2,h3.gr r k⟩
 |true,_,⟨o,xs,vs,h1,h2,h3,h4,h5,h6⟩=>⟨o,xs,vs,e _ _ h1,h2,h3,h4.gr r k,h5,h6.gr r k⟩
theorem eZ.grow{h:Nat}{f:Str}{v:V}(r:Gr false g g' H H')(e:Ex H H')(o:g'.ow=g.ow)(k:Kd g H):∀{fl:jB},eZ K aj g H h f v fl->eZ K aj g' H' h f v fl
 |.dat _,z=>Rep.gr r k z
 |.lst _ _,⟨l,us,h1,h2,h3,h4,h5⟩=>⟨l,us,h1,e _ _ h2,by rw[o];exact h3,h4.gr r k,r.tb h5⟩
 |.dic _ _,⟨l,h1,h2,h3⟩=>⟨l,h1,by rw[o];exact h2,h3.grow r e k⟩
theorem cR.grow{h:Nat}(r:Gr false g g' H H')(e:Ex H H')(o:g'.ow=g.ow)(k:Kd g H){fs:List (Str×V)}{gs:List (Str×jB)}(t:cR K aj g H h fs gs):cR K aj g' H' h fs gs:=by
 induction t with
 |nil=>exact .nil
 |cons z _ ih=>exact .cons (z.grow r e o k) ih
def Gh.push(g:Gh)(x:Addr):Gh:={ g with tbl:=g.tbl++[x] }
theorem Y6{x a:Addr}(z:(g.push x).A a):g.A a\/a=x:=by
 rcases z with(z|z)|z|z
 .rcases asR.mp z with z|z
  .exact .inl (.inl (.inl z))
  .exact .inr (asF.mp z)
 .exact .inl (.inl (.inr z))
 .exact .inl (.inr (.inl z))
 .exact .inl (.inr (.inr z))
theorem Yz{x a:Addr}(z:(g.push x).W a):g.W a\/a=x:=by
 rcases z with z|z
 .rcases asR.mp z with z|z
  .exact .inl (.inl z)
  .exact .inr (asF.mp z)
 .exact .inl (.inr z)
theorem Vl{x:Addr}(e:Ex H H')(nx:H x=none):Gr false g (g.push x) H H' where
 keep:=λa o h _ _=>e a o h
 keepW:=λz=>nomatch z
 dom:=Fd e
 tbl:=⟨[x],rfl⟩
 W:=λa z=>z.elim (λz=>.inl (atf _ z)) .inr
 nW:=λa z=>(Yz z).imp id λz=>by rw[z];exact nx
 qg:=λz=>nomatch z
 Lc:=rfl
 Lo:=λ_ z=>z
 nLo:=λ_ z=>.inl z
 kl:=rfl
theorem abU{x:Addr}{o:HO}(k:Kd g H)(e:Ex H H')(nx:H x=none)(hx:H' x=some o)(m:JF o):Kd (g.push x) H' where
 ob:=λa z=>by
  rcases Y6 z with z|rfl
  .obtain⟨u,h1,h2⟩:=k.ob a z;exact⟨u,e _ _ h1,h2⟩
  .exact⟨o,hx,m⟩
 lo:=λa z y=>by
  rcases Yz y with y|rfl
  .exact k.lo a z y
  .obtain⟨u,h1,_⟩:=k.ob a (.inr (.inr z));rw[nx]at h1;cases h1
 lc:=λa z=>by
  refine⟨λy=>?_,(k.lc a z).2⟩;rcases Yz y with y|rfl
  .exact(k.lc a z).1 y
  .obtain⟨u,h1,_⟩:=k.ob a (.inr (.inl z));rw[nx]at h1;cases h1
theorem YG{x:Addr}{c:Str}(k:Kd g H)(w:gU K aj g H M)(e:Ex H H')(nx:H x=none)(hx:c=""\/∃C dx,aj c=some C/\H' x=some (.ins C dx [])):gU K aj (g.push x) H' (M++[⟨c,[]⟩]):=by
 have gt:∀{h:Nat} {a:Addr},(g.push x).tbl[h]?=some a->(g.tbl[h]?=some a)\/(h=M.length/\a=x):=λ{h a} z=>by
  have z:(g.tbl++[x])[h]?=some a:=z;by_cases hl:h<g.tbl.length
  .rw[asM hl]at z;exact .inl z
  .rw[asU (by omega)]at z;have:=(asx.mp z).1;simp at this;have e0:h-g.tbl.length=0:=by omega
   rw[e0]at z;cases z;exact .inr ⟨by rw[<-w.len];omega,rfl⟩
 have nin:∀{h:Nat},¬g.tbl[h]?=some x:=λ{h} z=>by
  obtain⟨u,h1,_⟩:=k.ob x (.inl (.inl (asH z)));rw[nx]at h1;cases h1
 have ex:∀{h:Nat} {i:Inst},(M++[(⟨c,[]⟩:Inst)])[h]?=some i->M[h]?=some i\/i=⟨c,[]⟩:=λ{h i} h1=>by
  by_cases hl:h<M.length
  .rw[asM hl]at h1;exact .inl h1
  .rw[asU (by omega)]at h1;exact .inr (asF.mp (asH h1))
 refine⟨by show(g.tbl++[x]).length=_;simp[w.len],λh j a h1 h2=>?_,λh a i h1 h2 hcn=>?_,λh i h1=>?_,λh i h1=>?_,λh a i h1 h2 hcn=>?_,λh i h1 hcn=>?_,w.nc⟩
 .rcases gt h1 with z1|⟨z1,rfl⟩
  .rcases gt h2 with z2|⟨z2,rfl⟩
   .exact w.inj h j a z1 z2
   .exact absurd z1 nin
  .rcases gt h2 with z2|⟨z2,_⟩
   .exact absurd z2 nin
   .omega
 .rcases gt h1 with z1|⟨rfl,rfl⟩
  .have hl:h<M.length:=by rw[<-w.len];exact(asx.mp z1).1
   rw[asM hl]at h2;obtain⟨C',dx',fs,c1,c2,c3⟩:=w.ins h a i z1 h2 hcn;exact⟨C',dx',fs,c1,e _ _ c2,c3.grow (Vl e nx) e rfl k⟩
  .rw[asU (as6 _),Nat.sub_self]at h2;cases h2;rcases hx with rfl|⟨C,dx,hc,hx⟩
   .exact absurd rfl hcn
   .exact⟨C,dx,[],hc,hx,.nil⟩
 .rcases ex h1 with h1|rfl
  .exact w.nd h i h1
  .exact List.nodup_nil
 .rcases ex h1 with h1|rfl
  .exact w.fd h i h1
  .exact λf hf=>absurd hf ate
 .rcases gt h1 with z1|⟨_,rfl⟩
  .have hl:h<M.length:=by rw[<-w.len];exact(asx.mp z1).1
   rw[asM hl]at h2;exact w.tw h a i z1 h2 hcn
  .cases hz:g.ow a with
   |none=>exact hz
   |some p=>
    obtain⟨u,h2,_⟩:=k.ob a (.inl (.inr (by rw[hz];exact λy=>nomatch y)));rw[nx]at h2;cases h2
 .rcases ex h1 with h1|rfl
  .exact w.dm h i h1 hcn
  .rfl
theorem SInv.grow{M':Mo}(r:Gr false g g' H H')(e:Ex H H')(lo:g'.Lo=g.Lo)(k':Kd g' H')(w':gU K aj g' H' M')(I:SInv K aj σ H g Z M):SInv K aj σ H' g' Z M' where
 kd:=k'
 wok:=w'
 len:=I.len
 dat:=λi d h=>by
  obtain⟨v,h1,h2⟩:=I.dat i d h;exact⟨v,h1,h2.gr r I.kd⟩
 own:=λi xs h=>by
  obtain⟨l,us,h1,h2,h3,h4⟩:=I.own i xs h;exact⟨l,us,h1,e _ _ h2,by rw[lo];exact h3,h4.gr r I.kd⟩
 sep:=I.sep
end
theorem acr{P:Program}{w:World}{K:asv}{mg:Str->Option Value}{base:Heap}{k:Nat}{f:Addr}{fd:FuncData}{ps:List Str}{sp:Sp}(F:FnOk P w K mg base (L2.CX P w) k f fd ps sp):FnOk P w K mg base L2.CX0 k f fd ps λvs H Q _=>sp vs H Q λ_ _ _=>False:=
 ⟨λvs H Q E h=>F.len vs H Q _ h,λA outer s H args us vs Q E hr he hb hv h=>codeAny_mono (F.run A outer s H args us vs Q _ hr he hb hv h) λr s' z=>by
  unfold CR at z |-
  split at z
  .exact z
  .exact z
  .obtain⟨a,B,H',cls,d,_,_,_,_,_,_,_,y⟩:=z;exact atX y⟩
def yI(x:Str)(m:Mo->List Dat->bx Dat)(as:QA):GF:=λM Z=>((as M Z).at M).bind λds _=>match m (M++[⟨x,[]⟩]) (obj M.length::ds) with
 |.ok .none M'=>.ok (obj M.length) M'
 |_=>.bad
section
variable{X:Cx}{aj:aQ}{W:WX}{x:Str}{pos p:Pos}{k n:Nat}{m:Mo->List Dat->bx Dat}{as:QA}{t:TA}{e:Expr}{es:List Expr}
theorem adK{C f:Addr}{fd:FuncData}{ps:List Str}(hc:aj x=some C)(hp:ps.length=n+1)(hn:∀M Z ds,as M Z=.ok ds->ds.length=n)(ht:∀σ H Q,PN X.K aj W as σ H Q->t σ H Q)(σ:L2.St)(H:Hp)(Q:VK)(h:tE X.K aj W false (yI x m as) σ H Q) :
  tMake C (λvs H Q _=>Jm X.K aj ps.length m vs H Q λ_ _ _=>False) [] (λ_ _ _=>False) t σ H Q:=by
 obtain⟨g,Z,M,I,h⟩:=h;unfold yI at h;have h:=h.bnd;refine ht σ H _ ⟨g,Z,M,I,?_⟩;cases has:as M Z with
 |exc x=>rw[has]at h;exact λH' c dd e r=>h H' g c dd (Gr.ex e) (I.ex e) r
 |bad=>rw[has]at h;exact atX h
 |ok ds=>
  rw[has]at h;intro vs H1 e1 r1 y dx ny ndx ne;have I1:=I.ex e1;have e2:Ex H1 (upd (upd H1 dx (.own y)) y (.ins C dx [])):=by refine(Ex.new ndx).trans (Ex.new ?_);rw[upd_ne ne.symm];exact ny
  have hy:upd (upd H1 dx (.own y)) y (.ins C dx []) y=some (.ins C dx []):=at7;have gr:=Vl (g:=g) e2 ny;have kd:=abU I1.kd e2 ny hy atV;have wk:=YG (c:=x) I1.kd I1.wok e2 ny (.inr ⟨C,dx,hc,hy⟩);have I2:=I1.grow gr e2 rfl kd wk;have hb:(g.push y).tbl[M.length]?=some y:=by
   show(g.tbl++[y])[M.length]?=_
   rw[<-I1.wok.len,asU (as6 _),Nat.sub_self];rfl
  refine⟨by rw[atp,asQ,r1.length,hn M Z ds has,hp],g.push y,M++[⟨x,[]⟩],obj M.length::ds,kd,wk,.cons (.obj hb) (by rw[atp];exact r1.gr gr I1.kd),?_⟩;have h:bx.sat (match m (M++[(⟨x,[]⟩:Inst)]) (obj M.length::ds) with
   |.ok .none M'=>bx.ok (obj M.length) M'
   |_=>.bad) (λd M'=>∀v H' g',Gr false g g' H H'->SInv X.K aj σ H' g' Z M'->Rep X.K g' H' v d->Q v H') (gE X.K aj W false g H σ Z):=h
  cases hm:m (M++[⟨x,[]⟩]) (obj M.length::ds) with
  |bad=>rw[hm]at h;exact atX h
  |exc z M'=>rw[hm]at h;exact atX h
  |ok d M'=>
   rw[hm]at h;cases d with
   |none=>exact λv H' g' c k' w' r'=>⟨by cases r';rfl,h (.ref y) H' g' (((Gr.ex e1).trans gr).trans c.gr) (I2.call c k' w') (.obj (c.gr.tb hb))⟩
   |_=>exact atX h
theorem alf(hr:Room k X.A)(g:bh X.prog X.w X.K X.mg X.base aj k x (.cls n m))(hg:Gl X x)(hd:(x==("__debug__" : Str))=false)(ha:Hz aj X W (e::es) as)(hs:(e::es).all nst=true)(hn:∀M Z ds,as M Z=.ok ds->ds.length=n) :
  GE aj X W false (.Call (.Name x p) (e::es) [] pos) (yI x m as):=by
 obtain⟨C,f,fd,ps,j,g1,g2,_,g3,hj,hp,hB,F⟩:=g;have hs':=hs;rw[atc,asw]at hs';exact PE.weak (pe_make (E:=λ_ _ _=>False) g3 (acr F) (hr.mono hj) hg g1 hB .nil pass0 ha hd (bQ hs'.1 es) (star_any es hs'.2)) λσ H Q h=>adK (f:=f) (fd:=fd) g2 hp hn (λ_ _ _ z=>z) σ H Q h
theorem aiE(hr:Room k X.A)(g:bh X.prog X.w X.K X.mg X.base aj k x (.cls 0 m))(hg:Gl X x)(hd:(x==("__debug__" : Str))=false):GE aj X W false (.Call (.Name x p) [] [] pos) (yI x m au):=by obtain⟨C,f,fd,ps,j,g1,g2,_,g3,hj,hp,hB,F⟩:=g;exact PE.weak (pe_make0 (E:=λ_ _ _=>False) g3 (acr F) (hr.mono hj) hg g1 hB .nil pass0 hd) λσ H Q h=>adK (f:=f) (fd:=fd) (as:=au) g2 hp (λM Z ds z=>by cases z;rfl) (λσ H Q ⟨g,Z,M,I,z⟩=>z [] H (Ex.refl H) .nil) σ H Q h
end
def wX(m:Mo->List Dat->bx Dat)(as:QA):GF:=λM Z=>((as M Z).at M).bind λds _=>m M ds
section
variable{X:Cx}{aj:aQ}{W:WX}{e:Expr}{es:List Expr}{pos p:Pos}{x:Str}{k:Nat}{f:Addr}{fd:FuncData}{ps:List Str}
theorem ajC{m:Mo->List Dat->bx Dat}{as:QA}(tk:Takes X W)(F:FnOk X.prog X.w X.K X.mg X.base (L2.CX X.prog X.w) k f fd ps (Jm X.K aj ps.length m))(hr:Room k X.A)(hg:Gl X x)(hm:X.mg x=some (.ref f))(hk:PySem.W.keepIn X.K (.ref f)=true)(hb:Binds X.K fd ps [])
  (ha:Hz aj X W (e::es) as) (hl:(e::es).length=ps.length) (hd:(x==("__debug__" : Str))=false) (hs:(e::es).all nst=true) (hn:∀M Z ds,as M Z=.ok ds->ds.length=(e::es).length):GE aj X W false (.Call (.Name x p) (e::es) [] pos) (wX m as):=by
 have hs':=hs;rw[atc,asw]at hs';refine PE.weak (pe_callS (E:=λσ=>WE W σ) F hr hg hm hk hb (λσ=>passAt tk σ) ha hd (bQ hs'.1 es) (star_any es hs'.2)) λσ H Q ⟨g,Z,M,I,h⟩=>?_;refine⟨g,Z,M,I,?_⟩;have h:=h.bnd;cases has:as M Z with
 |exc x=>rw[has]at h;exact λH' c dd e r=>h H' g c dd (Gr.ex e) (I.ex e) r
 |bad=>rw[has]at h;exact atX h
 |ok ds=>
  rw[has]at h;have h:(m M ds).sat (λd M'=>∀v H' g',Gr false g g' H H'->SInv X.K aj σ H' g' Z M'->Rep X.K g' H' v d->Q v H') (gE X.K aj W false g H σ Z):=h;intro vs H1 e1 r1;exact⟨by rw[r1.length,hn M Z ds has];exact hl,g,M,ds,I.kd.ex e1,I.wok.ex e1 I.kd,r1,h.mono (λd M' kk v H' g' c k' w' r'=>kk v H' g' ((Gr.ex e1).trans c.gr) ((I.ex e1).call c k' w') r') λx M' kk H' g' cc dd c k' w' r'=>kk H' g' cc dd ((Gr.ex e1).trans c.gr) ((I.ex e1).call c k' w') r'⟩
end
def Ft.has(ft:Ft)(c f:Str):Bool:=match ft.lookup c with
 |some fs=>fs.contains f
 |none=>false
def NK(ft:Ft)(aj:aQ):Prop:=∀c f,ft.has c f=true->f∈aj.fl c
def unH:Dat->Option Nat
 |.dict [(.none,.int (.ofNat h))]=>some h
 |_=>none
theorem agM{d:Dat}{h:Nat}(e:unH d=some h):d=obj h:=by
 unfold unH at e;split at e
 .cases e;rfl
 .cases e
def lH(M:Mo)(d:Dat):Option (Nat×Inst):=(unH d).bind λh=>(M[h]?).bind λi=>match i.cls=="" with
 |true=>none
 |false=>some (h,i)
theorem Ks{M:Mo}{d:Dat}{h:Nat}{i:Inst}(e:lH M d=some (h,i)):d=obj h/\M[h]?=some i/\i.cls≠"":=by
 unfold lH at e;obtain⟨h',e1,e⟩:=asu.mp e;obtain⟨i',e2,e⟩:=asu.mp e;split at e
 .cases e
 .next hc=>
  cases e;exact⟨agM e1,e2,λz=>by rw[z]at hc;cases hc⟩
def vL(ft:Ft)(o:QF)(f:Str)(e:GF):SF:=λM Z=>(e M Z).then Z λd M1=>((o M1 Z).at M1).then Z λod M2=>match lH M2 od with
 |some (h,i)=>match ft.has i.cls f&&decide (i.fs.length<100) with
  |true=>.next Z (M2.set h (i.put f (.dat d)))
  |false=>.bad
 |none=>.bad
theorem SInv.chg{K:asv}{aj:aQ}{σ:L2.St}{H H':Hp}{g g':Gh}{Z:Env}{M M':Mo}{h:Nat}{f:Str}(I:SInv K aj σ H g Z M)(c:Chg M g g' H H' h f)(w:gU K aj g' H' M'):SInv K aj σ H' g' Z M':=I.call c.gc c.kd w
section
variable{X:Cx}{aj:aQ}{W:WX}{o e:Expr}{f:Str}{pos pos':Pos}{ft:Ft}{fo:QF}
theorem Jb{K:asv}{g:Gh}{H:Hp}{M:Mo}{d:Dat}{v:V}{h:Nat}{i:Inst}(co:jN K aj)(fk:NK ft aj)(w:gU K aj g H M)(r:dZ K g H v d)(hi:lH M d=some (h,i))(hf:ft.has i.cls f=true):∃a C dx fs,d=obj h/\M[h]?=some i/\i.cls≠""/\g.tbl[h]?=some a/\v=.ref a/\aj i.cls=some C/\H a=some (.ins C dx fs)/\cR K aj g H h fs i.fs/\Cls K C/\NoAttr K C f/\f∈aj.fl i.cls:=by obtain⟨rfl,h1,h2⟩:=Ks hi;obtain⟨a,rfl,ha⟩:=Nm r;obtain⟨C,dx,fs,c1,c2,c3⟩:=w.ins h a i ha h1 h2;have hfl:=fk _ _ hf;obtain⟨k1,k2⟩:=co i.cls C f c1 hfl;exact⟨a,C,dx,fs,rfl,h1,h2,ha,rfl,c1,c2,c3,k1,k2,hfl⟩
theorem aix{fe:GF}(co:jN X.K aj)(fk:NK ft aj)(ho:QW aj X W o fo)(he:GE aj X W false e fe)(hs:swapsWith e (some (.Attribute o f pos')) pos.line X.env=pure false):SE aj X W false (.Assign [.Attribute o f pos'] e pos) (vL ft fo f fe):=by
 refine PS.weak (ps_fld ho he hs) λD σ H ⟨g,Z,M,I,z⟩=>?_;refine tE.go I (dw (σ:=σ) z) λd M1 v H1 g1 k1 r1 I1 rv=>?_;refine tW.go I1 (k:=λod=>((match lH M1 od with
  |some (h,i)=>match ft.has i.cls f&&decide (i.fs.length<100) with
   |true=>v8.next Z (M1.set h (i.put f (.dat d)))
   |false=>.bad
  |none=>.bad).sat (sN X.K aj false D.nx g H) (sR X.K aj false D.rt g H) (sN X.K aj false D.bk g H) (sN X.K aj false D.ct g H) (sX X.K aj W false g H))) ?_ λod u H2 k2 e2 ru=>?_
 .have k1:=Out.iY (dw (σ:=σ) k1);exact k1.mono (λ_ y=>y) λx y H' c dd ex rx=>y H' g1 c dd (r1.trans (Gr.ex ex)) (I1.ex ex) rx
 .have I2:=I1.ex e2;split at k2
  .next h i hi=>
   split at k2
   .next hb=>
    rw[asw]at hb;obtain⟨a,C,dx,fs,_,m1,m2,ha,rfl,c1,c2,c3,c4,c5,c6⟩:=Jb co fk I2.wok ru hi hb.1;refine⟨a,C,dx,fs,rfl,c2,c4,c5,?_,?_⟩
    .have:=atZ hb.2;rw[c3.len];omega
    .have ch:=U8 (f:=f) (C:=C) (dx:=dx) (fs':=putF f v fs) I2.kd I2.wok ha m1 m2;have w':=I2.wok.chg I2.kd ch ha m1 m2 c6 c1 c3 at7 (fl:=.dat d) (show Rep X.K g1 _ v d from(rv.ex e2 I1.kd).gr ch.gc.gr I2.kd);exact k2 σ _ g1 ((r1.trans (Gr.ex e2)).trans ch.gc.gr) (I2.chg ch w')
   .exact atX k2
  .exact atX k2
end
mutual
theorem Rep.mv{K:asv}{g g':Gh}{H:Hp}(hk:g'.kl=g.kl)(tb:∀(h:Nat) (a:Addr),g.tbl[h]?=some a->g'.tbl[h]?=some a)(n:∀a,g'.A a->g.A a):∀{v:V} {d:Dat},Rep K g H v d->Rep K g' H v d
 |_,_,.non=>.non
 |_,_,.bl b=>.bl b
 |_,_,.int i=>.int i
 |_,_,.str x=>.str x
 |_,_,.tup h t=>.tup h (aJ.mv hk tb n t)
 |_,_,.lst h t=>.lst (h.elim (λz=>.inl ⟨z.1,λy=>z.2 (n _ y)⟩) λz=>.inr ⟨by rw[hk];exact z.1,z.2.elim (λz=>.inl ⟨z.1,λy=>z.2 (n _ y)⟩) .inr⟩) (aJ.mv hk tb n t)
 |_,_,.obj h=>.obj (tb _ _ h)
theorem aJ.mv{K:asv}{g g':Gh}{H:Hp}(hk:g'.kl=g.kl)(tb:∀(h:Nat) (a:Addr),g.tbl[h]?=some a->g'.tbl[h]?=some a)(n:∀a,g'.A a->g.A a):∀{vs:List V} {ds:List Dat},aJ K g H vs ds->aJ K g' H vs ds
 |_,_,.nil=>.nil
 |_,_,.cons h t=>.cons (Rep.mv hk tb n h) (aJ.mv hk tb n t)
end
def Gm(ft:Ft)(o:QF)(f:Str)(e:IF):SF:=λM Z=>((e M Z).at M).then Z λxs M0=>((o (M0++[⟨"",[]⟩]) Z).at (M0++[⟨"",[]⟩])).then Z λod M2=>match lH M2 od with
 |some (h,i)=>match ft.has i.cls f&&decide (i.fs.length<100) with
  |true=>.next Z (M2.set h (i.put f (.lst M0.length xs)))
  |false=>.bad
 |none=>.bad
theorem LR{K:asv}{aj:aQ}{σ:L2.St}{H H':Hp}{g:Gh}{Z:Env}{M:Mo}{l:Addr}{o:HO}(I:SInv K aj σ H g Z M)(nl:H l=none)(e:Ex H H')(hl:H' l=some o)(m:JF o):Gr false g (g.push l) H H'/\SInv K aj σ H' (g.push l) Z (M++[⟨"",[]⟩])/\(g.push l).tbl[M.length]?=some l/\(g.push l).ow l=none/\(M++[(⟨"",[]⟩:Inst)])[M.length]?=some ⟨"",[]⟩:=by
 have gr:=Vl (g:=g) e nl;have kd:=abU I.kd e nl hl m;have wk:=YG (c:="") I.kd I.wok e nl (.inl rfl)
 refine⟨gr,I.grow gr e rfl kd wk,?_,?_,?_⟩
 .show(g.tbl++[l])[M.length]?=_
  rw[<-I.wok.len,asU (as6 _),Nat.sub_self];rfl
 .cases hz:g.ow l with
  |none=>exact hz
  |some p=>
   obtain⟨u,h1,_⟩:=I.kd.ob l (.inl (.inr (by rw[hz];exact λy=>nomatch y)));rw[nl]at h1;cases h1
 .rw[asU (as6 _),Nat.sub_self];rfl
section
variable{X:Cx}{aj:aQ}{W:WX}{o e:Expr}{f:Str}{pos pos' p1 apos epos spos:Pos}{ft:Ft}{fo:QF}
theorem ajD{fe:IF}(co:jN X.K aj)(fk:NK ft aj)(ho:QW aj X W o fo)(he:FE aj X W e fe)(hs:swapsWith e (some (.Attribute o f pos')) pos.line X.env=pure false):SE aj X W false (.Assign [.Attribute o f pos'] e pos) (Gm ft fo f fe):=by
 refine PS.weak (ps_fld ho he hs) λD σ H ⟨g,Z,M,I,z⟩=>?_;refine⟨g,Z,M,I,?_⟩;unfold Gm at z;cases hf:fe M Z with
 |exc x=>rw[hf]at z;exact λH' c dd e r=>z σ H' g c dd (Gr.ex e) (I.ex e) r.fr
 |bad=>rw[hf]at z;exact atX z
 |ok xs=>
  rw[hf]at z;intro l us H1 nl e1 hl rs;obtain⟨gr,I1,tb,ow,mm⟩:=LR I nl e1 hl atV;have rs1:aJ X.K (g.push l) H1 us xs:=aJ.mv (g:=g.add l) (g':=g.push l) rfl (λh a z=>gr.tb (g:=g) z) (λa z=>by
   rcases Y6 z with z|rfl
   .rcases z with z|z|z
    .exact .inl z
    .exact .inr (.inl z)
    .exact .inr (.inr (show g.Lo a\/a=l from Or.inl z))
   .exact .inr (.inr (show g.Lo a\/a=a from Or.inr rfl))) rs
  have z:(((fo (M++[⟨"",[]⟩]) Z).at (M++[⟨"",[]⟩])).then Z λod M2=>match lH M2 od with
   |some (h,i)=>match ft.has i.cls f&&decide (i.fs.length<100) with
    |true=>.next Z (M2.set h (i.put f (.lst M.length xs)))
    |false=>.bad
   |none=>.bad).sat (sN X.K aj false D.nx g H) (sR X.K aj false D.rt g H) (sN X.K aj false D.bk g H) (sN X.K aj false D.ct g H) (sX X.K aj W false g H):=z
  have k1:=Out.iY (dw (σ:=σ) z);refine tW.go I1 (k1.mono (λ_ y=>y) λx y H' c dd ex rx=>y H' _ c dd (gr.trans (Gr.ex ex)) (I1.ex ex) rx) λod u H2 k2 e2 ru=>?_;have I2:=I1.ex e2;split at k2
  .next h i hi=>
   split at k2
   .next hb=>
    rw[asw]at hb;obtain⟨a,C,dx,fs,_,m1,m2,ha,rfl,c1,c2,c3,c4,c5,c6⟩:=Jb co fk I2.wok ru hi hb.1;have nla:l≠a:=λz=>by
     subst z;cases I2.wok.inj _ _ _ ha tb;rw[mm]at m1;cases m1;exact m2 rfl
    refine⟨a,C,dx,fs,rfl,c2,c4,c5,?_,?_⟩
    .have:=atZ hb.2;rw[c3.len];omega
    .have ch:=UW (f:=f) (C:=C) (dx:=dx) (fs':=putF f (.ref l) fs) I2.kd I2.wok ha m1 m2 tb mm ow;have w':=I2.wok.chg I2.kd ch ha m1 m2 c6 c1 c3 at7 (v:=.ref l) (fl:=.lst M.length xs) ⟨l,us,rfl,by rw[upd_ne nla];exact e2 _ _ hl,at5 rfl,(rs1.ex e2 I1.kd).gr ch.gc.gr I2.kd,ch.gc.gr.tb tb⟩;exact k2 σ _ _ ((gr.trans (Gr.ex e2)).trans ch.gc.gr) (I2.chg ch w')
   .exact atX k2
  .exact atX k2
def Ho(M:Mo)(f:Str)(d:Dat):Option (Nat×Inst×Nat×List Dat):=(lH M d).bind λp=>match p.2.fs.lookup f with
 |some (.lst n xs)=>some (p.1,p.2,n,xs)
 |_=>none
theorem Vc{K:asv}{g:Gh}{H:Hp}{M:Mo}{d:Dat}{v:V}{h n:Nat}{i:Inst}{xs:List Dat}(co:jN K aj)(w:gU K aj g H M)(r:dZ K g H v d)(hi:Ho M f d=some (h,i,n,xs)) :
  ∃a C dx fs l us,d=obj h/\M[h]?=some i/\i.cls≠""/\i.fs.lookup f=some (.lst n xs)/\g.tbl[h]?=some a/\v=.ref a/\aj i.cls=some C/\H a=some (.ins C dx fs)/\cR K aj g H h fs i.fs/\Cls K C/\NoAttr K C f/\f∈aj.fl i.cls/\fs.lookup f=some (.ref l)/\H l=some (.lst us)/\g.ow l=some (h,f)/\aJ K g H us xs/\g.tbl[n]?=some l:=by
 unfold Ho at hi;obtain⟨⟨h',i'⟩,h1,hi⟩:=asu.mp hi;split at hi
 .next n' xs' hl=>
  cases hi;obtain⟨rfl,m1,m2⟩:=Ks h1;obtain⟨a,rfl,ha⟩:=Nm r;obtain⟨C,dx,fs,c1,c2,c3⟩:=w.ins _ a _ ha m1 m2;have hfl:=w.fd _ _ m1 f (lookup_mem hl);obtain⟨k1,k2⟩:=co _ C f c1 hfl;obtain⟨u,l1,l,us,rfl,l3,l4,l5,l6⟩:=c3.get hl;exact⟨a,C,dx,fs,l,us,rfl,m1,m2,hl,ha,rfl,c1,c2,c3,k1,k2,hfl,l1,l3,l4,l5,l6⟩
 .cases hi
theorem abn{K:asv}{σ:L2.St}{Z:Env}{g:Gh}{H:Hp}{M:Mo}{h n:Nat}{i:Inst}{ys:List Dat}{a C dx l:Addr}{fs:List (Str×V)}{us':List V}(I:SInv K aj σ H g Z M)(m1:M[h]?=some i)(m2:i.cls≠"")(ha:g.tbl[h]?=some a)(c1:aj i.cls=some C)(c2:H a=some (.ins C dx fs))(c3:cR K aj g H h fs i.fs)(hfl:f∈aj.fl i.cls)(l1:fs.lookup f=some (.ref l))(l4:g.ow l=some (h,f))(l6:g.tbl[n]?=some l)(rs:aJ K g H us' ys) :
  Gr false g g H (upd H l (.lst us'))/\SInv K aj σ (upd H l (.lst us')) g Z (M.set h (i.put f (.lst n ys))):=by
 have ch:=aex (o':=.lst us') I.kd I.wok l4 atV;have nla:a≠l:=λz=>by
  subst z;rw[I.wok.tw h a i ha m1 m2]at l4;cases l4
 have w':=I.wok.chg I.kd ch ha m1 m2 hfl c1 (dx:=dx) c3 (v:=.ref l) (fl:=.lst n ys) (by rw[upd_ne nla,Mf l1];exact c2) ⟨l,us',rfl,at7,l4,rs.gr ch.gc.gr I.kd,l6⟩;exact⟨ch.gc.gr,I.chg ch w'⟩
def FZ(f:Str)(o:QF)(e:GF):SF:=λM Z=>((o M Z).at M).then Z λod M0=>match Ho M0 f od with
 |some (_,_,n,_)=>(e M0 Z).then Z λd M1=>match Ho M1 f od with
  |some (h,i,n',xs)=>match n==n'&&decide (xs.length<100000) with
   |true=>.next Z (M1.set h (i.put f (.lst n (xs++[d]))))
   |false=>.bad
  |none=>.bad
 |none=>.bad
theorem ai2{fe:GF}(co:jN X.K aj)(ho:QW aj X W o fo)(hb:baseOk o=true)(he:GE aj X W false e fe)(hs:nst e=true)(hl:(apos.endLine==pos.line)=true) :
  SE aj X W false (.Expr (.Call (.Attribute (.Attribute o f p1) "append" apos) [e] [] pos) epos) (FZ f fo fe):=by
 have h0:=pe_fld (X:=X) (pos:=p1) (f:=f) ho (iU hb);have h1:=pa_cons he pa_nil (bQ hs []);have key:=pe_bm (X:=X) (cpos:=pos) (apos:=apos) PySem.F.plainAttrs_list PySem.F.slot_list_append PySem.F.type_list_append mt_append h0 h1 (iU rfl) (few (by simp[hs]) (by simp)) hl (bQ hs []) (by with_unfolding_all rfl);refine PS.weak (ps_expr key (by with_unfolding_all rfl)) λD σ H ⟨g,Z,M,I,z⟩=>?_;unfold FZ at z;have k1:=Out.iY (dw (σ:=σ) z);refine tW.go I (k1.mono (λ_ y=>y) λx y H' c dd ex rx=>y H' _ c dd (Gr.ex ex) (I.ex ex) rx) λod u H1 k2 e1 ru=>?_;have I1:=I.ex e1;split at k2
 .next h0' i0 n xs0 hi=>
  obtain⟨a,C,dx,fs,l,us,rfl,m1,m2,ml,ha,rfl,c1,c2,c3,c4,c5,c6,l1,l3,l4,l5,l6⟩:=Vc co I1.wok ru hi;refine⟨a,C,dx,fs,.ref l,rfl,c2,c4,c5,l1,.inl ⟨rfl,us,sq_of l3⟩,?_⟩;refine tE.go I1 ((dw (σ:=σ) k2).mono (λ_ _ y=>y) λx M' y=>y.gr (Gr.ex e1)) λd M1 v H2 g2 k3 r2 I2 rv=>?_;split at k3
  .next h i n' xs hi2=>
   split at k3
   .next hg=>
    rw[asw]at hg;cases at8 hg.1;have ru2:dZ X.K g2 H2 (.ref a) (obj h0'):=Rep.weak (.obj (r2.tb ha));obtain⟨a',C',dx',fs',l',us',eh,n1,n2,nl,hb',ea,d1,d2,d3,d4,d5,d6,p1,p3,p4,p5,p6⟩:=Vc co I2.wok ru2 hi2;cases ea;have el:l'=l:=asZ (p6.symm.trans (r2.tb l6));subst el;obtain⟨gr,I3⟩:=abn (us':=us'++[v]) (ys:=xs++[d]) I2 n1 n2 hb' d1 d2 d3 d6 p1 p4 p6 (p5.append (.cons rv .nil));refine⟨l',us',v,rfl,rfl,p3,sz_lt (by rw[p5.length];exact atZ hg.2),?_⟩;exact k3 σ _ g2 (((Gr.ex e1).trans r2).trans gr) I3
   .exact atX k3
  .exact atX k3
 .exact atX k2
def T9(f:Str)(o fi e:QF):SF:=λM Z=>((e M Z).at M).then Z λd _=>((o M Z).at M).then Z λod _=>match Ho M f od with
 |some (h,i,n,xs)=>((fi M Z).at M).then Z λk _=>match k with
  |.int k=>match ixN xs.length k with
   |some j=>.next Z (M.set h (i.put f (.lst n (xs.set j d))))
   |none=>.bad
  |_=>.bad
 |none=>.bad
theorem aiT{i:Expr}{fi fe:QF}(co:jN X.K aj)(ho:QW aj X W o fo)(hb:baseOk o=true)(he:QE aj X W e fe)(hi:QE aj X W i fi)
  (ha:∀v,assign (.Subscript (.Attribute o f p1) i spos) X.env v=(do
   let ov <-holding [v] (eval (.Attribute o f p1) X.env)
   let iv <-holding [v,ov] (eval i X.env)
   standAt spos
   holding [v,ov,iv] (setItem ov iv v)
   release [v,ov,iv] []))
  (hs:swapsWithSole [.Subscript (.Attribute o f p1) i spos] e pos.line X.env=pure false) (h1:(assignEach [.Subscript (.Attribute o f p1) i spos] X.env).map (·.2)=[assign (.Subscript (.Attribute o f p1) i spos) X.env]):SE aj X W false (.Assign [.Subscript (.Attribute o f p1) i spos] e pos) (T9 f fo fi fe):=by
 have h0:=pe_fld (X:=X) (pos:=p1) (f:=f) ho (iU hb);refine PS.weak (ps_asg he (pg_sub h0 hi set_list ha) hs (by with_unfolding_all rfl) h1) λD σ H ⟨g,Z,M,I,z⟩=>?_;unfold T9 at z;have k1:=Out.iY (dw (σ:=σ) z);refine tQ.go I (k1.mono (λ_ y=>y) λx y H' c dd ex rx=>y H' _ c dd (Gr.ex ex) (I.ex ex) rx) λd v H1 k2 e1 rv=>?_;have I1:=I.ex e1;have k2:=Out.iY (dw (σ:=σ) k2);refine tW.go I1 (k2.mono (λ_ y=>y) λx y H' c dd ex rx=>y H' _ c dd ((Gr.ex e1).trans (Gr.ex ex)) (I1.ex ex) rx) λod u H2 k3 e2 ru=>?_;have I2:=I1.ex e2;have e12:=e1.trans e2;split at k3
 .next h i' n xs hl=>
  obtain⟨a,C,dx,fs,l,us,rfl,m1,m2,ml,ha',rfl,c1,c2,c3,c4,c5,c6,l1,l3,l4,l5,l6⟩:=Vc co I2.wok ru hl;refine⟨a,C,dx,fs,.ref l,rfl,c2,c4,c5,l1,?_⟩;have k3:=Out.iY (dw (σ:=σ) k3);refine tQ.go I2 (k3.mono (λ_ y=>y) λx y H' c dd ex rx=>y H' _ c dd ((Gr.ex e12).trans (Gr.ex ex)) (I2.ex ex) rx) λk w H3 k4 e3 rw'=>?_;have I3:=I2.ex e3;cases k with
  |int k=>
   simp only at k4;split at k4
   .next j hj=>
    cases rw';obtain⟨gr,I4⟩:=abn (us':=us.set j v) (ys:=xs.set j d) I3 m1 m2 ha' c1 (e3 _ _ c2) (c3.ex e3 I2.kd) c6 l1 l4 l6 (((l5.ex e3 I2.kd).set ((rv.ex e2 I1.kd).ex e3 I2.kd) j));refine⟨l,us,k,j,rfl,rfl,e3 _ _ l3,by rw[l5.length];exact hj,?_⟩;exact k4 σ _ g ((Gr.ex (e12.trans e3)).trans gr) I4
   .exact atX k4
  |_=>exact atX k4
 .exact atX k3
def SQ(ft:Ft)(f:Str)(o e:QF):SF:=λM Z=>((o M Z).at M).then Z λod _=>match lH M od with
 |some (h,i)=>match i.fs.lookup f,ft.has i.cls f&&decide (i.fs.length<100) with
  |some (.dat (.int a)),true=>((e M Z).at M).then Z λd _=>match d with
   |.int b=>.next Z (M.set h (i.put f (.dat (.int (a+b)))))
   |_=>.bad
  |_,_=>.bad
 |none=>.bad
theorem ag7:InOp X .Add (λx y H Q=>∃i j,x=.int i/\y=.int j/\Q (.int (i+j)) H):=by intro pins s σ H x y u v Q I rx ry h;obtain⟨i,j,rfl,rfl,q⟩:=h;exact iop_add pins s σ H _ _ u v Q I rx ry ⟨i,j,rfl,rfl,q⟩
theorem ah3{fe:QF}{tpos:Pos}(co:jN X.K aj)(fk:NK ft aj)(ho:QW aj X W o fo)(he:QE aj X W e fe):SE aj X W false (.AugAssign (.Attribute o f tpos) .Add e pos) (SQ ft f fo fe):=by
 refine PS.weak (ps_fldaug ho he ag7) λD σ H ⟨g,Z,M,I,z⟩=>?_;unfold SQ at z;have k1:=Out.iY (dw (σ:=σ) z);refine tW.go I (k1.mono (λ_ y=>y) λx y H' c dd ex rx=>y H' _ c dd (Gr.ex ex) (I.ex ex) rx) λod u H1 k2 e1 ru=>?_;have I1:=I.ex e1;split at k2
 .next h i hi=>
  split at k2
  .next b hlk hb=>
   rw[asw]at hb;obtain⟨a,C,dx,fs,_,m1,m2,ha,rfl,c1,c2,c3,c4,c5,c6⟩:=Jb co fk I1.wok ru hi hb.1;obtain⟨v,l1,l2⟩:=c3.get hlk;refine⟨a,C,dx,fs,v,rfl,c2,c4,c5,l1,?_⟩;have k2:=Out.iY (dw (σ:=σ) k2);refine tQ.go I1 (k2.mono (λ_ y=>y) λx y H' c dd ex rx=>y H' _ c dd ((Gr.ex e1).trans (Gr.ex ex)) (I1.ex ex) rx) λd w H2 k3 e2 rd=>?_;have I2:=I1.ex e2;cases d with
   |int j=>
    cases rd;have l2:Rep X.K g H1 v (.int b):=l2;cases l2;refine⟨b,j,rfl,rfl,dx,fs,e2 _ _ c2,?_,?_⟩
    .have:=atZ hb.2;rw[c3.len];omega
    .have ch:=U8 (f:=f) (C:=C) (dx:=dx) (fs':=putF f (.int (b+j)) fs) I2.kd I2.wok ha m1 m2;have w':=I2.wok.chg I2.kd ch ha m1 m2 c6 c1 (c3.ex e2 I1.kd) at7 (v:=.int (b+j)) (fl:=.dat (.int (b+j))) (show Rep X.K g _ _ _ from .int _);exact k3 σ _ g ((Gr.ex (e1.trans e2)).trans ch.gc.gr) (I2.chg ch w')
   |_=>exact atX k3
  .exact atX k2
 .exact atX k2
end
mutual
def sE:Dat->Option NestedKey
 |.none=>some .none
 |.int i=>some (.num i)
 |.str x=>some (.text x)
 |.tuple ds=>(rW ds).map .tup
 |.bool _=>none
 |.list _=>none
 |.dict _=>none
def rW:List Dat->Option (List NestedKey)
 |[]=>some []
 |d::ds=>(sE d).bind λk=>(rW ds).bind λks=>some (k::ks)
end
mutual
theorem Ah:∀{d:Dat} {k:NestedKey},sE d=some k->k.data=d
 |.none,_,h=>by cases h;rfl
 |.int i,_,h=>by cases h;rfl
 |.str x,_,h=>by cases h;rfl
 |.tuple ds,_,h=>by
  rw[sE,atr]at h;obtain⟨ks,h1,rfl⟩:=h;rw[NestedKey.data,TV h1]
theorem TV:∀{ds:List Dat} {ks:List NestedKey},rW ds=some ks->NestedKey.datas ks=ds
 |[],_,h=>by cases h;rfl
 |d::ds,_,h=>by
  rw[rW]at h;obtain⟨k,h1,h⟩:=asu.mp h;obtain⟨ks,h2,h⟩:=asu.mp h;cases h;rw[NestedKey.datas,Ah h1,TV h2]
end
mutual
theorem abM:∀a b:NestedKey,PyData.eqv a.data b.data=NestedKey.beq a b
 |.none,.none=>by simp[NestedKey.data,PyData.eqv,NestedKey.beq]
 |.none,.num _=>by simp[NestedKey.data,PyData.eqv,NestedKey.beq]
 |.none,.text _=>by simp[NestedKey.data,PyData.eqv,NestedKey.beq]
 |.none,.tup _=>by simp[NestedKey.data,PyData.eqv,NestedKey.beq]
 |.num _,.none=>by simp[NestedKey.data,PyData.eqv,NestedKey.beq]
 |.num a,.num b=>by simp[NestedKey.data,PyData.eqv,NestedKey.beq];rfl
 |.num _,.text _=>by simp[NestedKey.data,PyData.eqv,NestedKey.beq]
 |.num _,.tup _=>by simp[NestedKey.data,PyData.eqv,NestedKey.beq]
 |.text _,.none=>by simp[NestedKey.data,PyData.eqv,NestedKey.beq]
 |.text _,.num _=>by simp[NestedKey.data,PyData.eqv,NestedKey.beq]
 |.text a,.text b=>by simp[NestedKey.data,PyData.eqv,NestedKey.beq];rfl
 |.text _,.tup _=>by simp[NestedKey.data,PyData.eqv,NestedKey.beq]
 |.tup _,.none=>by simp[NestedKey.data,PyData.eqv,NestedKey.beq]
 |.tup _,.num _=>by simp[NestedKey.data,PyData.eqv,NestedKey.beq]
 |.tup _,.text _=>by simp[NestedKey.data,PyData.eqv,NestedKey.beq]
 |.tup as,.tup bs=>by
  rw[NestedKey.data,NestedKey.data,PyData.eqv,NestedKey.beq];exact YK as bs
theorem YK:∀as bs:List NestedKey,PyData.eqvAll (NestedKey.datas as) (NestedKey.datas bs)=NestedKey.beqAll as bs
 |[],[]=>by simp[NestedKey.datas,PyData.eqvAll,NestedKey.beqAll]
 |[],_::_=>by simp[NestedKey.datas,PyData.eqvAll,NestedKey.beqAll]
 |_::_,[]=>by simp[NestedKey.datas,PyData.eqvAll,NestedKey.beqAll]
 |a::as,b::bs=>by
  rw[NestedKey.datas,NestedKey.datas,PyData.eqvAll,NestedKey.beqAll,abM a b,YK as bs]
end
theorem abY(a b:NestedKey):PyData.eqv a.data b.data=decide (a=b):=by rw[abM,NestedKey.decide_eq]
section
variable{X:Cx}{pins:List (Addr×Obj)}{σ:L2.St}{H:Hp}{s:Shared}{g:Gh}
mutual
theorem key_is(I:L2.Inv X pins σ H s):∀{v:V} {d:Dat} {k:NestedKey} {u:Value},Rep X.K g H v d->sE d=some k->RelV v u->NestedIs s.heap k u
 |_,_,_,u,.non,e,r=>by
  cases e
  obtain rfl:u=.none:=r
  exact .none
 |_,_,_,_,.int i,e,r=>by
  cases e;obtain⟨t,rfl⟩:=r;exact .int i t
 |_,_,_,_,.str x,e,r=>by
  cases e;obtain⟨t,rfl⟩:=r;exact .text x t
 |_,_,_,u,.tup (a:=a) h t,e,r=>by
  rw[sE,atr]at e;obtain⟨ks,h1,rfl⟩:=e
  obtain rfl:u=.ref a:=r
  obtain⟨its,r1,⟨o,e1,c1,n,d1⟩,_⟩:=I.tuple h;exact .tup e1 c1 d1 (by simpa using abt I t h1 r1)
 |_,_,_,_,.bl b,e,r=>by cases e
 |_,_,_,_,.lst _ _,e,r=>by cases e
 |_,_,_,_,.obj _,e,r=>by cases e
theorem abt(I:L2.Inv X pins σ H s):∀{vs:List V} {ds:List Dat} {ks:List NestedKey} {us:List Value},aJ X.K g H vs ds->rW ds=some ks->Vals vs us->NestedAll s.heap ks us
 |_,_,_,_,.nil,e,r=>by
  cases e;cases r;exact .nil
 |_,_,_,_,.cons h t,e,r=>by
  rw[rW]at e;obtain⟨k,h1,e⟩:=asu.mp e;obtain⟨ks,h2,e⟩:=asu.mp e;cases e;cases r with
  |cons r1 r2=>exact .cons (key_is I h h1 r1) (abt I t h2 r2)
end
end
mutual
theorem abE:∀k:NestedKey,sE k.data=some k
 |.none=>rfl
 |.num _=>rfl
 |.text _=>rfl
 |.tup ks=>by rw[NestedKey.data,sE,aah ks];rfl
theorem aah:∀ks:List NestedKey,rW (NestedKey.datas ks)=some ks
 |[]=>rfl
 |k::ks=>by rw[NestedKey.datas,rW,abE k,aah ks];rfl
end
def dhas:Bool->List (Dat×Dat)->Dat->Out Bool
 |false,kvs,.int i=>.ok (kvs.any λp=>PyData.eqv p.1 (.int i))
 |true,kvs,.tuple ds=>match sE (.tuple ds) with
  |some k=>match decide (k.depth<=8) with
   |true=>.ok (kvs.any λp=>PyData.eqv p.1 (.tuple ds))
   |false=>.bad
  |none=>.bad
 |_,_,_=>.bad
def zR(M:Mo)(f:Str)(d:Dat):Option (Nat×Inst×Bool×List (Dat×Dat)):=(lH M d).bind λp=>match p.2.fs.lookup f with
 |some (.dic b kvs)=>some (p.1,p.2,b,kvs)
 |_=>none
section
variable{aj:aQ}{f:Str}
theorem Ih{K:asv}{g:Gh}{H:Hp}{M:Mo}{d:Dat}{v:V}{h:Nat}{i:Inst}{b:Bool}{kvs:List (Dat×Dat)}(co:jN K aj)(w:gU K aj g H M)(r:dZ K g H v d)(hi:zR M f d=some (h,i,b,kvs)) :
  ∃a C dx fs l,d=obj h/\M[h]?=some i/\i.cls≠""/\i.fs.lookup f=some (.dic b kvs)/\g.tbl[h]?=some a/\v=.ref a/\aj i.cls=some C/\H a=some (.ins C dx fs)/\cR K aj g H h fs i.fs/\Cls K C/\NoAttr K C f/\f∈aj.fl i.cls/\fs.lookup f=some (.ref l)/\g.ow l=some (h,f)/\jP K aj g H l b kvs:=by
 unfold zR at hi;obtain⟨⟨h',i'⟩,h1,hi⟩:=asu.mp hi;split at hi
 .next b' kvs' hl=>
  cases hi;obtain⟨rfl,m1,m2⟩:=Ks h1;obtain⟨a,rfl,ha⟩:=Nm r;obtain⟨C,dx,fs,c1,c2,c3⟩:=w.ins _ a _ ha m1 m2;have hfl:=w.fd _ _ m1 f (lookup_mem hl);obtain⟨k1,k2⟩:=co _ C f c1 hfl;obtain⟨u,l1,l,rfl,l3,l4⟩:=c3.get hl;exact⟨a,C,dx,fs,l,rfl,m1,m2,hl,ha,rfl,c1,c2,c3,k1,k2,hfl,l1,l3,l4⟩
 .cases hi
end
theorem VB{kv:List (Key×V)}{i:Int}:∀{kvs:List (Dat×Dat)},kvs.map (·.1)=kv.map (λp=>keyD p.1)->(kvs.any λp=>PyData.eqv p.1 (.int i))=(valV kv (Sum.inl i)).isSome:=by
 induction kv with
 |nil=>
  intro kvs e;cases kvs with
  |nil=>rfl
  |cons _ _=>cases e
 |cons p r ih=>
  intro kvs e;cases kvs with
  |nil=>cases e
  |cons q t=>
   simp only[asy,List.cons.injEq]at e;rw[aty,ih e.2,e.1];by_cases h:p.1=Sum.inl i
   .rw[valV_pos h,h];simp[keyD,PyData.eqv]
   .rw[valV_neg h];have:PyData.eqv (keyD p.1) (.int i)=false:=by
     cases hp:p.1 with
     |inl j=>
      have:j≠i:=λz=>h (by rw[hp,z]);simp[keyD,PyData.eqv,this]
     |inr x=>simp[keyD,PyData.eqv]
    rw[this,Bool.false_or]
theorem J5{xs:List oW}{k:NestedKey}:∀{kvs:List (Dat×Dat)},kvs.map (·.1)=xs.map (λx=>x.1.data)->(kvs.any λp=>PyData.eqv p.1 k.data)=(atKey xs k).isSome:=by
 induction xs with
 |nil=>
  intro kvs e;cases kvs with
  |nil=>rfl
  |cons _ _=>cases e
 |cons p r ih=>
  intro kvs e;cases kvs with
  |nil=>cases e
  |cons q t=>
   simp only[asy,List.cons.injEq]at e;rw[aty,ih e.2,e.1,abY];unfold atKey;rw[List.find?_cons];cases hd:decide (p.1=k) with
   |true=>rfl
   |false=>rfl
theorem Je{X:Cx}{pins:List (Addr×Obj)}{σ:L2.St}{H:Hp}{s:Shared}{g:Gh}{l:Addr}{o:Obj}{xs:List oW}{ks:List Dat}(I:L2.Inv X pins σ H s)(h1:H l=some (jr l o))(h2:m7 X.w l o xs)(h3:ks=xs.map λx=>x.1.data)(h4:aJ X.K g H (xs.map λx=>V.ref x.2.1) ks) :
  s.heap.DictOfH (nestedKind X.prog X.w) l xs:=by
 obtain⟨z1,_,_⟩:=(show ObjOk X.prog X.w H s.heap l (jr l o) from I.hok l _ h1);obtain⟨es,ep,e1,e2⟩:=h2.ent;refine⟨o,es,ep,z1,h2.ex,e1,e2,λx hx=>?_,h2.nd⟩;refine⟨?_,h2.dep x hx⟩;obtain⟨n,hn⟩:=List.mem_iff_getElem?.mp hx;obtain⟨d,hd1,hd2⟩:=h4.get' (i:=n) (v:=V.ref x.2.1) (by rw[asS,hn];rfl);rw[h3,asS,hn]at hd1;cases hd1;exact key_is I hd2 (abE x.1) rfl
def rInD(X:Cx)(neg:Bool):R2:=λx y H Q=>(∃l kv i,y=.ref l/\H l=some (.dK kv)/\x=.int i/\Q (.bl (neg ^^ (valV kv (Sum.inl i)).isSome)) H)\/
 ∃(l:Addr) (o:Obj) (xs:List oW) (g:Gh) (d:Dat) (b:Addr) (k:NestedKey),y=.ref l/\H l=some (jr l o)/\m7 X.w l o xs/\aJ X.K g H (xs.map λx=>V.ref x.2.1) (xs.map λx=>x.1.data)/\x=.ref b/\Rep X.K g H x d/\sE d=some k/\k.depth<=8/\Q (.bl (neg ^^ (atKey xs k).isSome)) H
section
variable{X:Cx}
theorem op_inD(hu:X.A.units+64<cLine):OpR X (compareOp .In) (rInD X false):=by
 intro pins s σ H x y v u Q I rx ry h;rcases h with⟨l,kv,i,rfl,hl,rfl,q⟩|⟨l,o,xs,g,d,b,k,rfl,h1,h2,h3,rfl,h4,h5,h6,q⟩
 .obtain rfl:u=Value.ref l:=ry
  exact d_in (by omega) I (DGet.k (k:=Sum.inl i) hl) rx λs' I'=>⟨.bl _,H,I',rfl,by simpa using q⟩
 .obtain rfl:u=Value.ref l:=ry
  obtain rfl:v=Value.ref b:=rx
  refine wpAny_in_heap (knd:=nestedKind X.prog X.w) (k:=k) (show X.A.in1.units+8<cLine by show X.A.units+1+8<cLine;omega) ⟨key_is I h4 h5 rfl,h6⟩ h2.sys (Je I h1 h2 rfl h3) ?_;exact⟨.bl _,H,I.tok _,rfl,by simpa using q⟩
theorem op_notInD(hu:X.A.units+64<cLine):OpR X (compareOp .NotIn) (rInD X true):=by
 intro pins s σ H x y v u Q I rx ry h;rcases h with⟨l,kv,i,rfl,hl,rfl,q⟩|⟨l,o,xs,g,d,b,k,rfl,h1,h2,h3,rfl,h4,h5,h6,q⟩
 .obtain rfl:u=Value.ref l:=ry
  exact d_notIn (by omega) I (DGet.k (k:=Sum.inl i) hl) rx λs' I'=>⟨.bl _,H,I',rfl,by simpa using q⟩
 .obtain rfl:u=Value.ref l:=ry
  obtain rfl:v=Value.ref b:=rx
  refine notIn_keyed (knd:=nestedKind X.prog X.w) (k:=k) (show X.A.in1.units+8<cLine by show X.A.units+1+8<cLine;omega) ⟨key_is I h4 h5 rfl,h6⟩ h2.sys ⟨xs,Je I h1 h2 rfl h3,rfl⟩ ?_;rw[valueAt_pairsH,Option.isSome_map];exact⟨.bl _,H,I.tok _,rfl,by simpa using q⟩
end
def QC(neg:Bool)(f:Str)(k o:QF):QF:=λM Z=>(k M Z).bind λd=>(o M Z).bind λod=>match zR M f od with
 |some (_,_,b,kvs)=>(dhas b kvs d).bind λr=>.ok (.bool (neg ^^ r))
 |none=>.bad
section
variable{X:Cx}{aj:aQ}{W:WX}{o k:Expr}{f:Str}{pos p1:Pos}{fo fk:QF}{neg:Bool}{op:CmpOp}
theorem ahH(co:jN X.K aj)(hw:aj.w=X.w)(σ:L2.St)(H:Hp)(Q:VK)(h:tQ X.K aj W (QC neg f fk fo) σ H Q):tOp (rInD X neg) (tQ X.K aj W fk) (tFld X.K (tW X.K aj W fo) f) σ H Q:=by
 obtain⟨g,Z,M,I,h⟩:=h;refine tQ.go I h.bnd λd v H1 h1 e1 r1=>?_;have I1:=I.ex e1;refine tW.go I1 (h1.bnd.mono (λ_ z=>z) λ_ z=>z.ex e1) λod u H2 h2 e2 r2=>?_;have I2:=I1.ex e2;split at h2
 .next hh i b kvs hd=>
  obtain⟨a,C,dx,fs,l,rfl,m1,m2,ml,ha,rfl,c1,c2,c3,c4,c5,c6,l1,l2,l3⟩:=Ih co I2.wok r2 hd;refine⟨a,C,dx,fs,.ref l,rfl,c2,c4,c5,l1,?_⟩;have r1':=r1.ex e2 I1.kd;unfold dhas at h2;split at h2
  .next i'=>
   obtain⟨kv,k1,k2,k3⟩:=l3;cases r1';refine .inl ⟨l,kv,i',rfl,k1,rfl,?_⟩;rw[VB k2]at h2;exact h2 _ H2 (e1.trans e2) (.bl _)
  .next ds=>
   split at h2
   .next kk hk=>
    split at h2
    .next hdep=>
     obtain⟨o',xs,vs,k1,k2,k3,k4,k5,k6⟩:=l3;have ek:=Ah hk;rw[<-ek,J5 k3]at h2;rw[k3]at k4;rw[hw]at k2;cases r1' with
     | @tup b us _ hs ht=>exact .inr ⟨l,o',xs,g,_,b,kk,rfl,k1,k2,k4,rfl,.tup hs ht,hk,atZ hdep,h2 _ H2 (e1.trans e2) (.bl _)⟩
    .exact atX h2
   .exact atX h2
  .exact atX h2
 .exact atX h2
theorem akb(co:jN X.K aj)(hw:aj.w=X.w)(hr:OpR X (compareOp op) (rInD X neg))(hk:QE aj X W k fk)(ho:QW aj X W o fo)(hb:baseOk o=true):QE aj X W (.Compare k [op] [.Attribute o f p1] pos) (QC neg f fk fo):=
 PE.weak (pe_cmpR hr hk (pe_fld ho (iU hb)) (by cases op<;>rfl)) λσ H Q h=>ahH co hw σ H Q h
end
def DPx(X:Cx)(H:Hp)(a:Addr)(y v:V)(R:Hp->Prop):Prop:=(∃kvs i,H a=some (.dK kvs)/\y=.int i/\kvs.length<sizeLine/\R (upd H a (.dK (putK kvs (Sum.inl i) v))))\/
 ∃(o:Obj) (xs:List oW) (g:Gh) (d:Dat) (b:Addr) (k:NestedKey),H a=some (jr a o)/\m7 X.w a o xs/\aJ X.K g H (xs.map λx=>V.ref x.2.1) (xs.map λx=>x.1.data)/\y=.ref b/\Rep X.K g H y d/\sE d=some k/\k.depth<=8/\xs.length<sizeLine/\∀(o':Obj) (u:Value),RelV v u->m7 X.w a o' (storedH xs k b u)->R (upd H a (jr a o'))
theorem Lp{P:Program}{w:World}{H:Hp}{h:Heap}{l:Addr}{o:Obj}(e:h.get? l=some o):ObjOk P w H h l (jr l o):=⟨e,⟨o,e⟩,λ_ _ e1 k=>k _ e1⟩
theorem aa0{xs:List oW}{k:NestedKey}{b:Addr}{u:Value}:(storedH xs k b u).map (·.1)=if (atKey xs k).isSome then xs.map (·.1) else xs.map (·.1)++[k]:=by
 unfold storedH;split
 .rw[atd];refine List.map_congr_left λx _=>?_
  show(putAt k u x).1=x.1
  unfold putAt
  split<;>rfl
 .simp
theorem Ss{xs:List oW}{k:NestedKey}{b:Addr}{u:Value}:(storedH xs k b u).length<=xs.length+1:=by
 unfold storedH
 split<;>simp
theorem Tf{xs:List oW}{k:NestedKey}{b:Addr}{u:Value}(h:∀x∈xs,x.1.depth<=8)(hk:k.depth<=8):∀x∈storedH xs k b u,x.1.depth<=8:=λx hx=>by
 have:x.1∈(storedH xs k b u).map (·.1):=asJ.mpr ⟨x,hx,rfl⟩;rw[aa0]at this;have old:∀{z:NestedKey},z∈xs.map (·.1)->z.depth<=8:=λ{z} m=>by
  obtain⟨y,hy,rfl⟩:=asJ.mp m;exact h y hy
 split at this
 .exact old this
 .rcases asR.mp this with z|z
  .exact old z
  .rw[asF.mp z];exact hk
section
variable{X:Cx}{o i value:Expr}{td ty tv:TE}{pos pos':Pos}
def an3(X:Cx)(td ty tv:TE):TS:=λD σ H=>tv σ H λv H1=>td σ H1 λx H2=>ty σ H2 λy H3=>∃a,x=.ref a/\DPx X H3 a y v λH4=>D.nx σ H4
theorem agb(hu:X.A.units+64<cLine)(ho:PE X o td)(hi:PE X i ty)(hv:PE X value tv)(hs:swapsWith value (some (.Subscript o i pos')) pos.line X.env=pure false):PS X (.Assign [.Subscript o i pos'] value pos) (an3 X td ty tv):=by
 refine⟨λpins s σ H D I h=>?_⟩;refine wpAny_Assign_Subscript (thn (hv.run pins s σ H _ I h) λr s1 ⟨v,H1,I1,rv,q1⟩=>thn (ho.run pins s1 σ H1 _ I1 q1) λu s2 ⟨x,H2,I2,rx,q2⟩=>thn (hi.run pins s2 σ H2 _ I2 q2) λiv s3 ⟨y,H3,I3,ry,a,ex,q3⟩=>?_) hs;subst ex
 obtain rfl:u=Value.ref a:=rx
 rcases q3 with⟨kvs,j,h1,rfl,hl,q⟩|⟨ob,xs,g,d,b,k,h1,h2,h3,rfl,h4,h5,h6,hl,q⟩
 .exact d_setItem (by omega) I3 (DPut.k (k:=Sum.inl j) h1 hl) ry rv λs4 I4=>⟨σ,_,I4,q⟩
 .obtain rfl:iv=Value.ref b:=ry
  refine wpAny_setItem_heap (knd:=nestedKind X.prog X.w) (k:=k) (hsz:=Nat.le_of_lt hl) (show X.A.in1.units+8<cLine by show X.A.units+1+8<cLine;omega) ⟨key_is I3 h4 h5 rfl,h6⟩ (Je I3 h1 h2 rfl h3) λh' dd hs'=>?_;obtain⟨o',es,ep,g1,g2,g3,g4,g5,g6⟩:=dd;have nd:m7 X.w a o' (storedH xs k b r):=⟨h2.sys,g2,⟨es,ep,g3,g4⟩,g6,by have:=Ss (xs:=xs) (k:=k) (b:=b) (u:=r);omega,Tf h2.dep h6⟩;exact⟨σ,_,d_write I3 (by rw[h1];exact True.intro) hs' ⟨o',g1⟩ (Lp g1),q o' r rv nd⟩
end
theorem aJ.back{K:asv}{g:Gh}{H:Hp}{vs:List V}{ds:List Dat}{v:V}{d:Dat}(h:aJ K g H vs ds)(r:Rep K g H v d):aJ K g H (vs++[v]) (ds++[d]):=h.append (.cons r .nil)
theorem O5{K:asv}{aj:aQ}{f:Str}{σ:L2.St}{Z:Env}{g:Gh}{H:Hp}{M:Mo}{h:Nat}{i:Inst}{b:Bool}{kvs':List (Dat×Dat)}{a C dx l:Addr}{fs:List (Str×V)}{o':HO}(I:SInv K aj σ H g Z M)(m1:M[h]?=some i)(m2:i.cls≠"")(ha:g.tbl[h]?=some a)(c1:aj i.cls=some C)(c2:H a=some (.ins C dx fs))(c3:cR K aj g H h fs i.fs)(hfl:f∈aj.fl i.cls)(l1:fs.lookup f=some (.ref l))(l4:g.ow l=some (h,f))(mu:JF o')
  (new:Gr false g g H (upd H l o')->jP K aj g (upd H l o') l b kvs'):Gr false g g H (upd H l o')/\SInv K aj σ (upd H l o') g Z (M.set h (i.put f (.dic b kvs'))):=by
 have ch:=aex (o':=o') I.kd I.wok l4 mu;have nla:a≠l:=λz=>by
  subst z;rw[I.wok.tw h a i ha m1 m2]at l4;cases l4
 have w':=I.wok.chg I.kd ch ha m1 m2 hfl c1 (dx:=dx) c3 (v:=.ref l) (fl:=.dic b kvs') (by rw[upd_ne nla,Mf l1];exact c2) ⟨l,rfl,l4,new ch.gc.gr⟩;exact⟨ch.gc.gr,I.chg ch w'⟩
def Oj(f:Str)(o k e:QF):SF:=λM Z=>((e M Z).at M).then Z λv _=>((o M Z).at M).then Z λod _=>match zR M f od with
 |some (h,i,b,kvs)=>((k M Z).at M).then Z λd _=>match dhas b kvs d,decide (kvs.length<100000) with
  |.ok false,true=>.next Z (M.set h (i.put f (.dic b (kvs++[(d,v)]))))
  |_,_=>.bad
 |none=>.bad
def Oq(f:Str)(o k:QF):SF:=λM Z=>((o M Z).at M).then Z λod _=>match zR M f od with
 |some (h,i,b,kvs)=>((k M Z).at M).then Z λd _=>match dhas b kvs d,decide (kvs.length<=100000) with
  |.ok true,true=>.next Z (M.set h (i.put f (.dic b (kvs.filter λp=>!PyData.eqv p.1 d))))
  |_,_=>.bad
 |none=>.bad
theorem Va{kvs:List (Dat×Dat)}{b r:Bool}{d:Dat}(h:dhas b kvs d=.ok r):(kvs.any λp=>PyData.eqv p.1 d)=r/\((b=false/\∃i,d=.int i)\/(b=true/\∃ds k,d=.tuple ds/\sE d=some k/\k.depth<=8)):=by
 unfold dhas at h;split at h
 .next i=>
  cases h;exact⟨rfl,.inl ⟨rfl,i,rfl⟩⟩
 .next ds=>
  split at h
  .next k hk=>
   split at h
   .next hd=>
    cases h;exact⟨rfl,.inr ⟨rfl,ds,k,rfl,hk,atZ hd⟩⟩
   .cases h
  .cases h
 .cases h
section
variable{X:Cx}{aj:aQ}{W:WX}{o e i:Expr}{f:Str}{pos pos' p1:Pos}{fo fe fk:QF}
theorem aiL(co:jN X.K aj)(hw:aj.w=X.w)(hu:X.A.units+64<cLine)(ho:QW aj X W o fo)(hb:baseOk o=true)(hk:QE aj X W i fk)(he:QE aj X W e fe)(hs:swapsWith e (some (.Subscript (.Attribute o f p1) i pos')) pos.line X.env=pure false) :
  SE aj X W false (.Assign [.Subscript (.Attribute o f p1) i pos'] e pos) (Oj f fo fk fe):=by
 refine PS.weak (agb hu (pe_fld ho (iU hb)) hk he hs) λD σ H ⟨g,Z,M,I,z⟩=>?_;unfold Oj at z;have k1:=Out.iY (dw (σ:=σ) z);refine tQ.go I (k1.mono (λ_ y=>y) λx y H' c dd ex rx=>y H' _ c dd (Gr.ex ex) (I.ex ex) rx) λd v H1 k2 e1 rv=>?_;have I1:=I.ex e1;have k2:=Out.iY (dw (σ:=σ) k2);refine tW.go I1 (k2.mono (λ_ y=>y) λx y H' c dd ex rx=>y H' _ c dd ((Gr.ex e1).trans (Gr.ex ex)) (I1.ex ex) rx) λod u H2 k3 e2 ru=>?_;have I2:=I1.ex e2;have e12:=e1.trans e2;split at k3
 .next h i' b kvs hl=>
  obtain⟨a,C,dx,fs,l,rfl,m1,m2,ml,ha,rfl,c1,c2,c3,c4,c5,c6,l1,l2,l3⟩:=Ih co I2.wok ru hl;refine⟨a,C,dx,fs,.ref l,rfl,c2,c4,c5,l1,?_⟩;have k3:=Out.iY (dw (σ:=σ) k3);refine tQ.go I2 (k3.mono (λ_ y=>y) λx y H' c dd ex rx=>y H' _ c dd ((Gr.ex e12).trans (Gr.ex ex)) (I2.ex ex) rx) λkd w H3 k4 e3 rk=>?_;have I3:=I2.ex e3;have l3':=l3.ex e3 I2.kd;have rv3:=(rv.ex e2 I1.kd).ex e3 I2.kd;refine⟨l,rfl,?_⟩;split at k4
  .next hh hz=>
   obtain⟨ha2,hcase⟩:=Va hh;have hz:=atZ hz;rcases hcase with⟨rfl,j,rfl⟩|⟨rfl,ds,kk,rfl,hkk,hdep⟩
   .obtain⟨kv,q1,q2,q3⟩:=l3';cases rk;have hlen:kv.length=kvs.length:=by
     have:=congrArg List.length q2;simpa using this.symm
    rw[VB q2]at ha2;have hn:valV kv (Sum.inl j)=none:=by
     cases hv:valV kv (Sum.inl j) with
     |none=>rfl
     |some _=>rw[hv]at ha2;cases ha2
    refine .inl ⟨kv,j,q1,rfl,sz_lt (by rw[hlen];exact hz),?_⟩;rw[putK_new v hn];obtain⟨gr,I4⟩:=O5 (b:=false) (kvs':=kvs++[(.int j,d)]) (o':=.dK (kv++[(Sum.inl j,v)])) I3 m1 m2 ha c1 (e3 _ _ c2) (c3.ex e3 I2.kd) c6 l1 l2 atV λgr=>⟨_,at7,by simp[q2,keyD],by
     rw[as8,as8];exact(q3.gr gr I3.kd).back (rv3.gr gr I3.kd)⟩
    exact k4 σ _ g ((Gr.ex (e12.trans e3)).trans gr) I4
   .obtain⟨o',xs,vs,q1,q2,q3,q4,q5,q6⟩:=l3';have hlen:xs.length=kvs.length:=by
     have:=congrArg List.length q3;simpa using this.symm
    have ek:=Ah hkk;rw[<-ek,J5 q3]at ha2;have hn:atKey xs kk=none:=by
     cases hv:atKey xs kk with
     |none=>rfl
     |some _=>rw[hv]at ha2;cases ha2
    have q4':=q4;rw[q3]at q4';rw[hw]at q2;cases rk with
    | @tup bb us _ hs' ht=>
     refine .inr ⟨o',xs,g,_,bb,kk,q1,q2,q4',rfl,.tup hs' ht,hkk,hdep,sz_lt (by rw[hlen];exact hz),λo2 u2 ru2 nd=>?_⟩;rw[storedH_new hn]at nd;obtain⟨gr,I4⟩:=O5 (b:=true) (kvs':=kvs++[(.tuple ds,d)]) (o':=jr l o2) I3 m1 m2 ha c1 (e3 _ _ c2) (c3.ex e3 I2.kd) c6 l1 l2 atV λgr=>⟨o2,xs++[(kk,bb,u2)],vs++[v],at7,by rw[hw];exact nd,by simp[q3,ek],by
      rw[as8,as8];exact(q4.gr gr I3.kd).back ((Rep.tup hs' ht).gr gr I3.kd),by
      rw[as8];exact q5.append (.cons ru2 .nil),by
      rw[as8];exact(q6.gr gr I3.kd).back (rv3.gr gr I3.kd)⟩
     exact k4 σ _ g ((Gr.ex (e12.trans e3)).trans gr) I4
  .exact atX k4
 .exact atX k3
end
section
variable{X:Cx}{o i:Expr}{td ty:TE}{pos tpos:Pos}
def aoq(X:Cx)(td ty:TE):TS:=λD σ H=>td σ H λx H2=>ty σ H2 λy H3=>∃a,x=.ref a/\((∃kvs i,H3 a=some (.dK kvs)/\y=.int i/\(valV kvs (Sum.inl i)).isSome=true/\D.nx σ (upd H3 a (.dK (dropK kvs (Sum.inl i)))))\/
 ∃(o:Obj) (xs:List oW) (g:Gh) (d:Dat) (b:Addr) (k:NestedKey),H3 a=some (jr a o)/\m7 X.w a o xs/\aJ X.K g H3 (xs.map λx=>V.ref x.2.1) (xs.map λx=>x.1.data)/\y=.ref b/\Rep X.K g H3 y d/\sE d=some k/\k.depth<=8/\(atKey xs k).isSome=true/\∀(o':Obj),m7 X.w a o' (withoutH xs k)->D.nx σ (upd H3 a (jr a o')))
theorem afX(hu:X.A.units+64<cLine)(ho:PE X o td)(hi:PE X i ty):PS X (.Delete [.Subscript o i tpos] pos) (aoq X td ty):=by
 refine⟨λpins s σ H D I h=>?_⟩;refine wpAny_Delete (wpAny_deleteEach_cons (wpAny_delete_Subscript (thn (ho.run pins s σ H _ I h) λu s1 ⟨x,H1,I1,rx,q1⟩=>thn (hi.run pins s1 σ H1 _ I1 q1) λiv s2 ⟨y,H2,I2,ry,a,ex,q2⟩=>?_)));subst ex
 obtain rfl:u=Value.ref a:=rx
 rcases q2 with⟨kvs,j,h1,rfl,hl,q⟩|⟨ob,xs,g,d,b,k,h1,h2,h3,rfl,h4,h5,h6,hl,q⟩
 .exact d_delItem (k:=Sum.inl j) I2 h1 ry hl λs3 I3=>wpAny_deleteEach_nil ⟨σ,_,I3,q⟩
 .obtain rfl:iv=Value.ref b:=ry
  obtain⟨p,hp⟩:=Option.isSome_iff_exists.mp hl;refine wpAny_delItem_heap (knd:=nestedKind X.prog X.w) (k:=k) (hsz:=h2.len) (show X.A.in1.units+8<cLine by show X.A.units+1+8<cLine;omega) ⟨key_is I2 h4 h5 rfl,h6⟩ h2.sys (Je I2 h1 h2 rfl h3) hp λh' dd hs'=>?_;obtain⟨o',es,ep,g1,g2,g3,g4,g5,g6⟩:=dd;have nd:m7 X.w a o' (withoutH xs k):=⟨h2.sys,g2,⟨es,ep,g3,g4⟩,g6,as9 (asW _ _) h2.len,λx hx=>h2.dep x (as3.mp hx).1⟩;exact wpAny_deleteEach_nil ⟨σ,_,d_write I2 (by rw[h1];exact True.intro) hs' ⟨o',g1⟩ (Lp g1),q o' nd⟩
end
theorem Qe{α β:Type}(f:α->β)(c:α->Bool):∀l:List α,(((l.map f).zip l).filter λp=>c p.2).map (·.1)=(l.filter c).map f
 |[]=>rfl
 |a::l=>by
  rw[asy,atj,atq,atq];cases c a
  .exact Qe f c l
  .simp only[if_true,asy,Qe f c l]
theorem ahA{K:asv}{g:Gh}{H:Hp}(kk:NestedKey):∀{xs:List oW} {vs:List V} {kvs:List (Dat×Dat)},kvs.map (·.1)=xs.map (λx=>x.1.data)->aJ K g H (xs.map λx=>V.ref x.2.1) (kvs.map (·.1))->Vals vs (xs.map (·.2.2))->aJ K g H vs (kvs.map (·.2))->
  ∃vs',(kvs.filter λp=>!PyData.eqv p.1 kk.data).map (·.1)=(withoutH xs kk).map (λx=>x.1.data)/\aJ K g H ((withoutH xs kk).map λx=>V.ref x.2.1) ((kvs.filter λp=>!PyData.eqv p.1 kk.data).map (·.1))/\Vals vs' ((withoutH xs kk).map (·.2.2))/\aJ K g H vs' ((kvs.filter λp=>!PyData.eqv p.1 kk.data).map (·.2))
 |[],_,[],_,_,.nil,_=>⟨[],rfl,.nil,.nil,.nil⟩
 |[],_,_::_,h,_,_,_=>by cases h
 |_::_,_,[],h,_,_,_=>by cases h
 |x::xs,_,q::qs,h1,.cons r1 t1,.cons w1 w2,.cons r2 t2=>by
  simp only[asy,List.cons.injEq]at h1;obtain⟨vs',i1,i2,i3,i4⟩:=ahA kk h1.2 t1 w2 t2;have hq:(!PyData.eqv q.1 kk.data)=decide (x.1≠kk):=by rw[h1.1,abY];by_cases hz:x.1=kk<;>simp[hz]
  unfold withoutH;rw[atq,atq,hq];cases hb:decide (x.1≠kk) with
  |true=>exact⟨_::vs',by simp only[if_true,asy,h1.1];exact congrArg _ i1,by simp only[if_true,asy];exact .cons r1 i2,by simp only[if_true,asy];exact .cons w1 i3,by simp only[if_true,asy];exact .cons r2 i4⟩
  |false=>
   simp only[as7,if_false];exact⟨vs',i1,i2,i3,i4⟩
theorem als{K:asv}{g:Gh}{H:Hp}{α:Type}(c:α->Bool)(key:α->Dat)(dd:Dat->Bool):∀{vs:List V} {kvs:List (Dat×Dat)} {xs:List α},(∀x∈xs,c x=dd (key x))->kvs.map (·.1)=xs.map key->vs.length=xs.length->aJ K g H vs (kvs.map (·.2))->
  (kvs.filter λp=>dd p.1).map (·.1)=(xs.filter c).map key/\aJ K g H (((vs.zip xs).filter λp=>c p.2).map (·.1)) ((kvs.filter λp=>dd p.1).map (·.2))
 |[],[],[],_,_,_,_=>⟨rfl,.nil⟩
 |[],[],_::_,_,h,_,_=>by cases h
 |[],_::_,_,_,_,_,h=>by cases h
 |_::_,[],_,_,_,_,h=>by cases h
 |_::_,_::_,[],_,h,_,_=>by cases h
 |u::us,q::qs,x::xs,hc,hk,hl,.cons h t=>by
  simp only[asy,List.cons.injEq]at hk;have hq:=hc x asC;rw[<-hk.1]at hq;obtain⟨i1,i2⟩:=als c key dd (λy hy=>hc y (asB _ hy)) hk.2 (atR hl) t;rw[atj,atq,atq,atq,hq];cases hb:dd q.1 with
  |true=>exact⟨by simp only[if_true,asy,i1,hk.1],by simp only[if_true,asy];exact .cons h i2⟩
  |false=>exact⟨by simpa using i1,by simpa using i2⟩
section
variable{X:Cx}{aj:aQ}{W:WX}{o i:Expr}{f:Str}{pos tpos p1:Pos}{fo fk:QF}
theorem aiC(co:jN X.K aj)(hw:aj.w=X.w)(hu:X.A.units+64<cLine)(ho:QW aj X W o fo)(hb:baseOk o=true)(hk:QE aj X W i fk):SE aj X W false (.Delete [.Subscript (.Attribute o f p1) i tpos] pos) (Oq f fo fk):=by
 refine PS.weak (afX hu (pe_fld ho (iU hb)) hk) λD σ H ⟨g,Z,M,I,z⟩=>?_;unfold Oq at z;have k2:=Out.iY (dw (σ:=σ) z);refine tW.go I (k2.mono (λ_ y=>y) λx y H' c dd ex rx=>y H' _ c dd (Gr.ex ex) (I.ex ex) rx) λod u H2 k3 e2 ru=>?_;have I2:=I.ex e2;split at k3
 .next h i' b kvs hl=>
  obtain⟨a,C,dx,fs,l,rfl,m1,m2,ml,ha,rfl,c1,c2,c3,c4,c5,c6,l1,l2,l3⟩:=Ih co I2.wok ru hl;refine⟨a,C,dx,fs,.ref l,rfl,c2,c4,c5,l1,?_⟩;have k3:=Out.iY (dw (σ:=σ) k3);refine tQ.go I2 (k3.mono (λ_ y=>y) λx y H' c dd ex rx=>y H' _ c dd ((Gr.ex e2).trans (Gr.ex ex)) (I2.ex ex) rx) λkd w H3 k4 e3 rk=>?_;have I3:=I2.ex e3;have l3':=l3.ex e3 I2.kd;refine⟨l,rfl,?_⟩;split at k4
  .next hh hz=>
   obtain⟨ha2,hcase⟩:=Va hh;rcases hcase with⟨rfl,j,rfl⟩|⟨rfl,ds,kk,rfl,hkk,hdep⟩
   .obtain⟨kv,q1,q2,q3⟩:=l3';cases rk;rw[VB q2]at ha2;refine .inl ⟨kv,j,q1,rfl,ha2,?_⟩;have hf:=λ(H':Hp)(r:aJ X.K g H' (kv.map (·.2)) (kvs.map (·.2)))=>als (K:=X.K) (g:=g) (H:=H') (λp:Key×V=>decide (p.1≠Sum.inl j)) (λp=>keyD p.1) (λz=>!PyData.eqv z (.int j)) (vs:=kv.map (·.2)) (kvs:=kvs) (xs:=kv) (λx _=>by
     cases hx:x.1 with
     |inl z=>by_cases hz:z=j<;>simp[keyD,PyData.eqv,hz]
     |inr z=>simp[keyD,PyData.eqv]) q2 (by simp) r
    have ez:(((kv.map (·.2)).zip kv).filter λp=>decide (p.2.1≠Sum.inl j)).map (·.1)=(dropK kv (Sum.inl j)).map (·.2):=Qe (·.2) (λp:Key×V=>decide (p.1≠Sum.inl j)) kv;obtain⟨gr,I4⟩:=O5 (b:=false) (kvs':=kvs.filter λp=>!PyData.eqv p.1 (.int j)) (o':=.dK (dropK kv (Sum.inl j))) I3 m1 m2 ha c1 (e3 _ _ c2) (c3.ex e3 I2.kd) c6 l1 l2 atV λgr=>⟨_,at7,(hf _ (q3.gr gr I3.kd)).1,by
     rw[<-ez];exact(hf _ (q3.gr gr I3.kd)).2⟩
    exact k4 σ _ g ((Gr.ex (e2.trans e3)).trans gr) I4
   .obtain⟨o',xs,vs,q1,q2,q3,q4,q5,q6⟩:=l3';have ek:=Ah hkk;rw[<-ek,J5 q3]at ha2;rw[hw]at q2;have q4':=q4;rw[q3]at q4';cases rk with
    | @tup bb us _ hs' ht=>
     refine .inr ⟨o',xs,g,_,bb,kk,q1,q2,q4',rfl,.tup hs' ht,hkk,hdep,ha2,λo2 nd=>?_⟩;obtain⟨gr,I4⟩:=O5 (b:=true) (kvs':=kvs.filter λp=>!PyData.eqv p.1 (.tuple ds)) (o':=jr l o2) I3 m1 m2 ha c1 (e3 _ _ c2) (c3.ex e3 I2.kd) c6 l1 l2 atV λgr=>by
      obtain⟨vs',i1,i2,i3,i4⟩:=ahA kk q3 (q4.gr gr I3.kd) q5 (q6.gr gr I3.kd);rw[ek]at i1 i2 i4;exact⟨o2,withoutH xs kk,vs',at7,by rw[hw];exact nd,i1,i2,i3,i4⟩
     exact k4 σ _ g ((Gr.ex (e2.trans e3)).trans gr) I4
  .exact atX k4
 .exact atX k3
end
def ItD(l:Addr)(o:Obj)(xs:List oW):It:=
 ⟨λi H=>H l=some (jr l o)/\i<xs.length,λi H x H'=>H'=H/\∃e,xs[i]?=some e/\x=.ref e.2.1,λi H=>H l=some (jr l o)/\xs.length<=i⟩
theorem pin_at{X:Cx}{pins:List (Addr×Obj)}{σ:L2.St}{H:Hp}{s:Shared}{l:Addr}{o:Obj}(I:L2.Inv X pins σ H s)(h:H l=some (jr l o)):s.heap.get? l=some o:=(show ObjOk X.prog X.w H s.heap l (jr l o) from I.hok l _ h).1
theorem m7.at{w:World}{l:Addr}{o:Obj}{xs:List oW}{es:Array DictEntry}{ep:Nat}(n:m7 w l o xs)(h:o.data=.dict es ep):es.size=xs.length/\∀(i:Nat) (e:oW),xs[i]?=some e->∃en,es[i]?=some en/\en.key=.ref e.2.1:=by
 obtain⟨es',ep',h1,h2⟩:=n.ent;rw[h]at h1;cases h1;refine⟨?_,λi e hi=>⟨afJ w e,?_,rfl⟩⟩
 .have:=congrArg List.length h2;simpa using this
 .rw[<-atl,h2,asS,hi];rfl
theorem amW{P:Program}{w:World}{K:asv}{tg:Expr}{l:Addr}{o:Obj}{xs:List oW}{es:Array DictEntry}{ep:Nat}(it:Addr)(n:m7 w l o xs)(hod:o.data=.dict es ep):Turn P w K tg (ItD l o xs) [it] it (λi h=>h.IsKeyIter it l i xs.length ep) where
 mem:=asF.mpr rfl
 obj:=λi h st b hb=>by
  cases asF.mp hb;obtain⟨oi,e,c,dd⟩:=st;refine⟨oi,e,λv z=>?_⟩;rw[dd]at z;cases z
 keep:=λi h h' st k=>st.at (k it (asF.mpr rfl))
 item:=by intro X hP hw hK hc i pins s σ H E I hf st hg;subst hP hw hK;obtain⟨g0,g1,g2,g3,g4,g5⟩:=hf it (asF.mpr rfl);obtain⟨sz,ent⟩:=n.at hod;have hlt:i<xs.length:=hg.2;have hx:xs[i]?=some xs[i]:=asz hlt;obtain⟨en,e1,e2⟩:=ent i _ hx;refine next_key_item st (pin_at I hg.1) hod sz e1 ?_;intro h' st' sb;have J:L2.Inv X pins σ H { s with heap:=h' }:=I.turned (t':=s.toks) (λb ob hb e=>(sb.2 b hb).trans e) g0 g1 g3 g4 g5;obtain⟨oi,a1,a2,a3⟩:=id st';exact⟨en.key,rfl,go_of (s:={ s with heap:=h' }) a1 a2 a3 (by decide) ⟨.ref xs[i].2.1,H,J,e2,⟨rfl,_,hx,rfl⟩,st',λb hb=>(hf b hb).1⟩⟩
 done:=by intro X hP hw hK hc i pins s σ H E I hf st hg;subst hP hw hK;obtain⟨g0,g1,g2,g3,g4,g5⟩:=hf it (asF.mpr rfl);exact next_key_end (I.ok.hd hc) st (pin_at I hg.1) hod (n.at hod).1 hg.2 λh' eb=>⟨rfl,I.turned (t':=s.toks) (λb ob hb e=>eb b ob hb e) g0 g1 g3 g4 g5⟩
 self:=λA i s Q E st h=>by
  refine wpAny_pyIter_slot st.typeIs PySem.F.slot_dict_keyiterator_iter (wpAny_call_entry PySem.F.slot_dict_keyiterator_iter st.typeIs PySem.F.entry_dict_keyiterator_iter ?_ (PySem.F.args_dict_keyiterator_iter_1 _));exact at4 ⟨_,rfl,"dict_keyiterator",_,st.typeIs,PySem.F.slot_dict_keyiterator_next.lookup,h⟩
def aor(X:Cx)(td:TE):TI:=λσ H R=>td σ H λx H1=>∃l o xs,x=.ref l/\H1 l=some (jr l o)/\m7 X.w l o xs/\R (ItD l o xs) H1
theorem amd{X:Cx}{tg e:Expr}{td:TE}(he:PE X e td):PI X tg e (aor X td):=by
 constructor;intro pins s σ H R I h;refine thn (he.run pins s σ H _ I h) ?_;rintro u s1 ⟨x,H1,I1,rx,l,o,xs,rfl,hl,n,q⟩
 obtain rfl:u=Value.ref l:=rx
 obtain⟨es,ep,hd,_⟩:=n.ent;refine iter_keys n.sys (pin_at I1 hl) n.ex hd (pi_one (tk:=s1.toks) I1 _ (amW _ n hd) ⟨_,Heap.get?_push_size _ rfl,rfl,?_⟩ q);rw[(n.at hd).1]<;>rfl
theorem ai4{K:asv}{aj:aQ}{l:Addr}{o:Obj}{xs:List oW}{ks:List Dat}:K6 K (ItD l o xs) (λg H=>H l=some (jr l o)/\aJ K g H (xs.map λx=>V.ref x.2.1) ks) ks where
 go:=λg i H c hi=>⟨c.1,by have:=c.2.length;simp at this;omega⟩
 yld:=λg i H x H' d k c e y=>by
  obtain⟨rfl,en,h1,rfl⟩:=y;obtain⟨v,h2,h3⟩:=c.2.get e;rw[asS,h1]at h2;cases h2;exact⟨Ex.refl _,h3⟩
 stop:=λg i H c e=>⟨c.1,by have:=c.2.length;simp at this;omega⟩
 ex:=λg H H' k c e=>⟨e _ _ c.1,c.2.ex e k⟩
 add:=λg g' H H' k c r e=>⟨e _ _ c.1,c.2.gr r k⟩
def Fe(f:Str)(o:QF):IF:=λM Z=>(o M Z).bind λod=>match zR M f od with
 |some (_,_,true,kvs)=>.ok (kvs.map (·.1))
 |_=>.bad
def Es(f:Str)(o:QF):QF:=λM Z=>(o M Z).bind λod=>match zR M f od with
 |some (_,_,_,kvs)=>.ok (.list (kvs.map (·.1)))
 |none=>.bad
section
variable{X:Cx}{aj:aQ}{W:WX}{o tg:Expr}{f:Str}{pos p p1:Pos}{fo:QF}
theorem ahc(co:jN X.K aj)(hw:aj.w=X.w)(ho:QW aj X W o fo)(hb:baseOk o=true):QI aj X W false tg (.Attribute o f p1) (Fe f fo):=by
 have h0:=amd (tg:=tg) (pe_fld (X:=X) (pos:=p1) (f:=f) ho (iU hb));refine⟨λpins s σ H R I h=>h0.run pins s σ H R I ?_⟩;obtain⟨g,Z,M,J,h⟩:=h;unfold Fe at h;refine tW.go J h.bnd λod u H1 k2 e1 ru=>?_;have J1:=J.ex e1;split at k2
 .next h i kvs hl=>
  obtain⟨a,C,dx,fs,l,rfl,m1,m2,ml,ha,rfl,c1,c2,c3,c4,c5,c6,l1,l2,o',xs,vs,q1,q2,q3,q4,q5,q6⟩:=Ih co J1.wok ru hl;rw[hw]at q2;exact⟨a,C,dx,fs,.ref l,rfl,c2,c4,c5,l1,l,o',xs,rfl,q1,q2,k2 _ _ H1 e1 (ai4 (aj:=aj)) ⟨q1,q4⟩ λz=>nomatch z⟩
 .exact atX k2
end
theorem ag9{P:Program}{w:World}{A:Around}{l I:Addr}{o:Obj}{xs:List oW}{es:Array DictEntry}{ep:Nat}(hh:A.handled=none)(hne:l≠I)(n:m7 w l o xs)(hd:o.data=.dict es ep):Walks P w A I [I,l] [I] xs.length (λi v=>∃e,xs[i]?=some e/\v=Value.ref e.2.1) (λi h=>h.IsKeyIter I l i xs.length ep/\h.get? l=some o) where
 sub:=λb hb=>by simp at hb;simp[hb]
 frame:=λi h h' st k=>⟨st.1.at (k I (by simp)),k l (by simp) o st.2⟩
 item:=λi s Q E hi st hQ=>by
  obtain⟨sz,ent⟩:=n.at hd;have hx:xs[i]?=some xs[i]:=asz hi;obtain⟨en,e1,e2⟩:=ent i _ hx;refine next_key_item st.1 st.2 hd sz e1 ?_;intro h' st' sb;exact hQ en.key h' s.toks ⟨_,hx,e2⟩ ⟨st',(sb.2 l hne).trans st.2⟩ λb ob hb e=>(sb.2 b λz=>hb (by simp[z])).trans e
 done:=λs Q E st hQ=>next_key_end hh st.1 st.2 hd (n.at hd).1 (as6 _) λh' eb=>hQ h' s.toks λb ob hb e=>eb b ob (λz=>hb (by simp[z])) e
 self:=λi s Q E st hQ=>wpAny_pyIter_keyiter st.1 hQ
theorem aiA{P:Program}{w:World}{l:Addr}{o:Obj}{xs:List oW}(n:m7 w l o xs):PySem.W.KdlSrc P w "dict" l l xs.length (λi v=>∃e,xs[i]?=some e/\v=Value.ref e.2.1) (λh=>h.get? l=some o) where
 type:=λs e=>⟨o,e,n.ex.1⟩
 there:=λh e=>⟨Heap.lt_size e,Heap.lt_size e⟩
 keep:=λh h' e k=>k l (.inl rfl) o e
 notList:=by decide
 notTuple:=by decide
 hint:=λA E s Q e hq=>PySem.W.kdl_hint_dict ⟨o,e,n.ex.1⟩ hq
 iter:=λA s hh e=>by
  obtain⟨es,ep,hd,_⟩:=n.ent;refine⟨_,_,λE Q hq=>iter_keys n.sys e n.ex hd hq,ag9 hh (atg (Heap.lt_size e)) n hd,⟨_,Heap.get?_push_size _ rfl,rfl,?_⟩,Heap.get?_push_of_some _ e⟩;rw[(n.at hd).1]<;>rfl
def aeH(X:Cx):List V->Hp->VK->Prop:=λxs H Q=>(∃p kvs,xs=[.ref p]/\H p=some (.dK kvs)/\∀q,H q=none->Q (.ref q) (upd H q (.lst (kvs.map λkv=>kV kv.1))))\/∃p o es,xs=[.ref p]/\H p=some (jr p o)/\m7 X.w p o es/\∀q,H q=none->Q (.ref q) (upd H q (.lst (es.map λe=>V.ref e.2.1)))
theorem adh{X:Cx}(hc:X.calm=true):CallR X (.type "list") (aeH X):=by
 intro pins s σ H xs us Q I r h;rcases h with h|⟨p,o,es,rfl,hp,n,q⟩
 .exact call_list_dK hc pins s σ H xs us Q I r h
 .obtain⟨u,rfl,rx⟩:=vals1 r
  obtain rfl:u=Value.ref p:=rx
  refine PySem.W.kdl_call (aiA n) (I.ok.hd hc) (pin_at I hp) n.len ?_;intro h' tk acc c' keep hS hacc;have el:acc.toList.length=es.length:=by rw[ath];exact hacc.1
  refine⟨.ref s.heap.objs.size,upd H s.heap.objs.size (.lst (es.map λe=>V.ref e.2.1)),I.laid keep (as6 _) (show ObjOk X.prog X.w _ _ _ (.lst (es.map λe=>V.ref e.2.1)) from⟨by rw[asK];exact n.len,acc.toList,c',?_,?_⟩),rfl,q _ (I.hok.fresh (as6 _))⟩
  .refine vals_of_at (by rw[asK,el]) λj x w h1 h2=>?_;obtain⟨e,he,rfl⟩:=hacc.2 j w (by rw[<-atl];exact h2);rw[asS,he]at h1;cases h1;rfl
  .rw[Array.toArray_toList];exact hS
section
variable{X:Cx}{aj:aQ}{W:WX}{o e:Expr}{f:Str}{pos p p1 pos':Pos}{fo:QF}
theorem aaF{K:asv}{g:Gh}{H:Hp}:∀{kv:List (Key×V)} {kvs:List (Dat×Dat)},kvs.map (·.1)=kv.map (λp=>keyD p.1)->aJ K g H (kv.map λp=>kV p.1) (kvs.map (·.1))
 |[],[],_=>.nil
 |[],_::_,h=>by cases h
 |_::_,[],h=>by cases h
 |a::kv,b::kvs,h=>by
  simp only[asy,List.cons.injEq]at h;rw[asy,asy,h.1];refine .cons ?_ (aaF h.2);cases a.1 with
  |inl i=>exact .int i
  |inr x=>exact .str x
theorem ahd(co:jN X.K aj)(hw:aj.w=X.w)(σ:L2.St)(H:Hp)(Q:VK)(h:tQ X.K aj W (Es f fo) σ H Q):tFld X.K (tW X.K aj W fo) f σ H λx H1=>aeH X [x] H1 Q:=by
 obtain⟨g,Z,M,J,h⟩:=h;unfold Es at h;refine tW.go J h.bnd λod u H1 k2 e1 ru=>?_;have J1:=J.ex e1;split at k2
 .next h i b kvs hl=>
  obtain⟨a,C,dx,fs,l,rfl,m1,m2,ml,ha,rfl,c1,c2,c3,c4,c5,c6,l1,l2,l3⟩:=Ih co J1.wok ru hl;refine⟨a,C,dx,fs,.ref l,rfl,c2,c4,c5,l1,?_⟩;cases b with
  |false=>
   obtain⟨kv,q1,q2,q3⟩:=l3;exact .inl ⟨l,kv,rfl,q1,λq nq=>k2 (.ref q) _ (e1.trans (Ex.new nq)) (.lst (.inl ⟨at7,J1.kd.fresh nq⟩) (aaF q2))⟩
  |true=>
   obtain⟨o',xs,vs,q1,q2,q3,q4,q5,q6⟩:=l3;rw[hw]at q2;exact .inr ⟨l,o',xs,rfl,q1,q2,λq nq=>k2 (.ref q) _ (e1.trans (Ex.new nq)) (.lst (.inl ⟨at7,J1.kd.fresh nq⟩) (q4.ex (Ex.new nq) J1.kd))⟩
 .exact atX k2
theorem agJ(co:jN X.K aj)(hw:aj.w=X.w)(hc:X.calm=true)(hg:Gl X "list")(hm:X.mg "list"=none)(ho:QW aj X W o fo)(hb:baseOk o=true):QE aj X W (.Call (.Name "list" p) [.Attribute o f p1] [] pos) (Es f fo):=by
 have h1:=pa_cons (pe_fld (X:=X) (pos:=p1) (f:=f) ho (iU hb)) pa_nil (bQ rfl []);have hv:BV (.type "list") "list":=⟨by decide +kernel,by decide,by decide⟩
 refine PE.weak (pe_callTy (pos:=pos) (p:=p) (adh hc) hg hm hv.1 h1 hv.2.1 hv.2.2 (bQ rfl []) (by with_unfolding_all rfl)) λσ H Q h=>?_;exact ahd co hw σ H Q h
def Oh(ft:Ft)(o:QF)(f:Str)(b:Bool):SF:=λM Z=>((o (M++[⟨"",[]⟩]) Z).at (M++[⟨"",[]⟩])).then Z λod M2=>match lH M2 od with
 |some (h,i)=>match ft.has i.cls f&&decide (i.fs.length<100) with
  |true=>.next Z (M2.set h (i.put f (.dic b [])))
  |false=>.bad
 |none=>.bad
def anA(X:Cx)(b:Bool):TE:=λ_ H Q=>∀p,H p=none->match b with
 |false=>Q (.ref p) (upd H p (.dK []))
 |true=>∀o,m7 X.w p o []->Q (.ref p) (upd H p (jr p o))
theorem aia{b:Bool}:PE X (.Dict [] [] pos) (anA X b):=by
 cases b with
 |false=>exact PE.weak pe_dnewK λσ H Q h p np=>h p np
 |true=>
  refine⟨λpins s σ H Q I h=>wpAny_Dict_empty ?_⟩;have hz:(s.heap.push { cls:=.type "dict",data:=.dict #[] }).get? s.heap.objs.size=some { cls:=.type "dict",data:=.dict #[] }:=Heap.get?_push_size _ rfl
  have hs:(s.heap.objs.size==sysModules)=false:=beq_eq_false_iff_ne.mpr (Ne.symm (atg I.big));exact⟨.ref s.heap.objs.size,_,I.laid (a:=s.heap.objs.size) (o:=jr s.heap.objs.size _) (t':=s.toks) (λ_ _ q=>Heap.get?_push_of_some _ q) (as6 _) (Lp hz),rfl,h _ (I.hok.fresh (as6 _)) _ ⟨hs,⟨rfl,rfl,rfl⟩,⟨#[],0,rfl,rfl⟩,List.nodup_nil,atk _,λx hx=>absurd hx ate⟩⟩
theorem ah9{ft:Ft}{b:Bool}(co:jN X.K aj)(fk:NK ft aj)(hw:aj.w=X.w)(ho:QW aj X W o fo)(hs:swapsWith (.Dict [] [] p) (some (.Attribute o f pos')) pos.line X.env=pure false):SE aj X W false (.Assign [.Attribute o f pos'] (.Dict [] [] p) pos) (Oh ft fo f b):=by
 refine PS.weak (ps_fld ho (aia (b:=b)) hs) λD σ H ⟨g,Z,M,I,z⟩=>?_;have core:∀(l:Addr) (ob:HO),H l=none->JF ob->(∀(g':Gh) (H':Hp),H' l=some ob->jP X.K aj g' H' l b [])->tW X.K aj W fo σ (upd H l ob) (λx H2=>∃a C dx fs,x=.ref a/\H2 a=some (.ins C dx fs)/\Cls X.K C/\NoAttr X.K C f/\fs.length<1000/\D.nx σ (upd H2 a (.ins C dx (putF f (.ref l) fs)))):=by
  intro l ob nl mu at';obtain⟨gr,I1,tb,ow,mm⟩:=LR I nl (Ex.new nl) at7 mu;unfold Oh at z;have k1:=Out.iY (dw (σ:=σ) z);refine tW.go I1 (k1.mono (λ_ y=>y) λx y H' c dd ex rx=>y H' _ c dd (gr.trans (Gr.ex ex)) (I1.ex ex) rx) λod u H2 k2 e2 ru=>?_;have I2:=I1.ex e2;split at k2
  .next h i hi=>
   split at k2
   .next hb=>
    rw[asw]at hb;obtain⟨a,C,dx,fs,_,m1,m2,ha,rfl,c1,c2,c3,c4,c5,c6⟩:=Jb co fk I2.wok ru hi hb.1;have nla:l≠a:=λz=>by
     subst z;cases I2.wok.inj _ _ _ ha tb;rw[mm]at m1;cases m1;exact m2 rfl
    refine⟨a,C,dx,fs,rfl,c2,c4,c5,?_,?_⟩
    .have:=atZ hb.2;rw[c3.len];omega
    .have ch:=UW (f:=f) (C:=C) (dx:=dx) (fs':=putF f (.ref l) fs) I2.kd I2.wok ha m1 m2 tb mm ow;have w':=I2.wok.chg I2.kd ch ha m1 m2 c6 c1 c3 at7 (v:=.ref l) (fl:=.dic b []) ⟨l,rfl,at5 rfl,at' _ _ (by rw[upd_ne nla];exact e2 _ _ at7)⟩;exact k2 σ _ _ ((gr.trans (Gr.ex e2)).trans ch.gc.gr) (I2.chg ch w')
   .exact atX k2
  .exact atX k2
 intro l nl;cases b with
 |false=>exact core l _ nl atV λg' H' h=>⟨[],h,rfl,.nil⟩
 |true=>exact λob nd=>core l _ nl atV λg' H' h=>⟨ob,[],[],h,by rw[hw];exact nd,rfl,.nil,.nil,.nil⟩
end
def al4(X:Cx)(D:Addr)(vs:List Nat)(g:TG)(tk:TE)(σ:L2.St)(Nx:Hp->Prop)(x:V)(H:Hp):Prop:=
 g x (L2.wipe σ vs) H λσ2 H2=>L2.wipe σ2 vs=L2.wipe σ vs/\tk σ2 H2 λy H4=>∃(o:Obj) (xs:List oW) (gg:Gh) (d:Dat) (b:Addr) (k:NestedKey),y=.ref b/\H4 D=some (jr D o)/\m7 X.w D o xs/\aJ X.K gg H4 (xs.map λx=>V.ref x.2.1) (xs.map λx=>x.1.data)/\Rep X.K gg H4 y d/\sE d=some k/\k.depth<=8/\xs.length<sizeLine/\
  ∀o',m7 X.w D o' (storedH xs k b (.bool true))->Nx (upd H4 D (jr D o'))
def aj4(X:Cx)(wi:TI)(g:TG)(tk:TE)(vs:List Nat):TE:=λσ H Q=>wi σ H λJ H1=>∀D,H1 D=none->∃W:Nat->Nat->Hp->Prop,(∃m,∀o,m7 X.w D o []->W 0 m (upd H1 D (jr D o)))/\
 ∀i m H,W i m H->(J.stop i H/\Q (.ref D) H)\/(J.go i H/\∃Nx:Hp->Prop,(∀H',Nx H'->∃m',m'<m/\W (i+1) m' H')/\∀x H',J.yld i H x H'->al4 X D vs g tk σ Nx x H')
section
variable{X:Cx}
theorem agT{pins:List (Addr×Obj)}{σ:L2.St}{H:Hp}{s:Shared}{E:Value->Shared->Prop}{D b:Addr}{o:Obj}{xs:List oW}{gg:Gh}{d:Dat}{k:NestedKey}{u:Value}{Q:Unit->Shared->Prop}(hu:X.A.units+64<cLine)(I:L2.Inv X pins σ H s)(hD:H D=some (jr D o))(n:m7 X.w D o xs)(hr:aJ X.K gg H (xs.map λx=>V.ref x.2.1) (xs.map λx=>x.1.data))(hk:Rep X.K gg H (.ref b) d)(hd:sE d=some k)(h8:k.depth<=8)(hz:xs.length<sizeLine)(ru:RelV (.bl true) u)
  (q:∀s' o',m7 X.w D o' (storedH xs k b (.bool true))->L2.Inv X pins σ (upd H D (jr D o')) s'->Q () s'):wpAny (model X.prog X.w) X.A (dictSet D (.ref b) u) Q E s:=by
 obtain rfl:u=.bool true:=ru
 refine wpAny_dictSet_heap (knd:=nestedKind X.prog X.w) (k:=k) (hsz:=Nat.le_of_lt hz) (show X.A.units+8<cLine by omega) ⟨key_is I hk hd rfl,h8⟩ (Je I hD n rfl hr) ?_;intro h' dd hs';obtain⟨o',es,ep,g1,g2,g3,g4,g5,g6⟩:=dd;have nd:m7 X.w D o' (storedH xs k b (.bool true)):=⟨n.sys,g2,⟨es,ep,g3,g4⟩,g6,by have:=Ss (xs:=xs) (k:=k) (b:=b) (u:=.bool true);omega,Tf n.dep h8⟩;exact q _ o' nd (d_write I (by rw[hD];exact True.intro) hs' ⟨o',g1⟩ (Lp g1))
theorem aml{kx tg iter:Expr}{scope:Scope}{own:List (PySem.Str×Nat)}{pos vp:Pos}{vj:Nat}{wi:TI}{g:TG}{tk:TE}(hc:X.calm=true)(hN:X.N.Nodup)(hu:X.A.units+64<cLine)(hi:PI X tg iter wi)(ok:BlkOk X.N X.env.scope scope own)
  (hg:∀(t:Shared) (G:Hp) (C:Addr) (cl:List (PySem.Str×Addr)) (fp:List Addr),PG (X.blk t G scope (compEnvC scope cl C X.env) fp) tg g)
  (hk:∀(t:Shared) (G:Hp) (C:Addr) (cl:List (PySem.Str×Addr)) (fp:List Addr),PE (X.blk t G scope (compEnvC scope cl C X.env) fp) kx tk) (hs:∀x,foldedSetIterable iter X.env x=pure x) :
  PE X (.DictComp kx (.Constant (.bool true) vj vp) [⟨tg,iter,[],0⟩] scope pos) (aj4 X wi g tk (own.map (·.2))):=by
 refine⟨λpins s σ H Q I h=>?_⟩;rw[arm_eval_DictComp];have cells:∀y∈scope.names,y.2=.free->∃c,X.env.cells.lookup y.1=some c:=λy hy e=>(ok.free y hy e).elim (λk=>I.ok.has _ (.inl k)) (λk=>I.ok.has _ (.inr k));refine wpAny_comprehension_free rfl hs (closure_ok cells) ok.kind (λy hy e=>by rw[ok.uniq y hy,e]) (thn (hi.run pins s σ H _ I h) λ_ _ hx=>thn hx λitv t0 h0=>?_);obtain⟨it,fp,tn,J,G0,rfl,I0,T,st0,f0,q⟩:=h0;refine wpAny_newObj_type (newEnv_comp ?_)
 -- the new dict,at D
 obtain⟨D,hD⟩:∃D,D=t0.heap.objs.size:=⟨_,rfl⟩;rw[<-hD];obtain⟨W,⟨m0,w00⟩,turn⟩:=q D (I0.hok.fresh (Nat.le_of_eq hD.symm));obtain⟨ob,hob⟩:∃ob:Obj,ob={ cls:=.type "dict",data:=.dict #[] }:=⟨_,rfl⟩
 have nd0:m7 X.w D ob []:=by rw[hob];exact⟨by rw[hD];exact beq_eq_false_iff_ne.mpr (Ne.symm (atg I0.big)),⟨rfl,rfl,rfl⟩,⟨#[],0,rfl,rfl⟩,List.nodup_nil,atk _,λx hx=>absurd hx ate⟩
 have w0:=w00 ob nd0;rw[<-hob];obtain⟨t1,ht1⟩:∃t1:Shared,t1={ t0 with heap:=t0.heap.push ob }:=⟨_,rfl⟩;obtain⟨G1,hG1⟩:∃G1,G1=upd G0 D (jr D ob):=⟨_,rfl⟩;rw[<-hG1]at w0;have grow:∀b o,t0.heap.get? b=some o->t1.heap.get? b=some o:=λb o e=>by rw[ht1];exact Heap.get?_push_of_some _ e
 have I1:L2.Inv X pins σ G1 t1:=by rw[ht1,hG1];refine I0.laid (t':=t0.toks) (λb o e=>Heap.get?_push_of_some _ e) (Nat.le_of_eq hD.symm) (Lp ?_);rw[hD];exact Heap.get?_push_size _ (by rw[hob];rfl)
 have small:∀b∈fp,b<t0.heap.objs.size:=λb hb=>by
  obtain⟨o,e,_⟩:=T.obj _ _ st0 b hb;exact Heap.lt_size e
 have f1:∀b∈fp,FpOk X pins G1 b/\b<t1.heap.objs.size:=λb hb=>by
  have hlt:=small b hb;refine⟨⟨?_,(f0 b hb).2⟩,by rw[ht1];show b<(t0.heap.push ob).objs.size;rw[Heap.size_push];exact atE hlt⟩;rw[hG1,upd_ne (by rw[hD];exact atg hlt)];exact(f0 b hb).1
 have st1:tn 0 t1.heap:=T.keep _ _ _ st0 λb _ o e=>grow b o e;have I2:=block_start I1 ok hN f1;have pg:=hg t1 G1 t1.heap.objs.size (cellsFrom (t1.heap.objs.size+1) scope.names (cloFrom X.env.cells scope.names [])) fp;have pk:=hk t1 G1 t1.heap.objs.size (cellsFrom (t1.heap.objs.size+1) scope.names (cloFrom X.env.cells scope.names [])) fp;have none1:∀b∈fp,G1 b=none:=λb hb=>(f1 b hb).1.1;rw[show({ t0 with heap:=t0.heap.push ob }:Shared)=t1 from ht1.symm];obtain⟨ce,hce⟩:∃ce,ce=compEnvC scope (cellsFrom (t1.heap.objs.size+1) scope.names (cloFrom X.env.cells scope.names [])) t1.heap.objs.size X.env:=⟨_,rfl⟩;rw[<-hce]at I2 pg pk;have cL:ce.locals=t1.heap.objs.size:=by rw[hce];rfl
 obtain⟨t2,ht2⟩:∃t2:Shared,t2={ t1 with heap:=pushCells (t1.heap.push { cls:=.type "dict",data:=.dict #[] }) scope.names }:=⟨_,rfl⟩
 rw[<-ht2]at I2;have st2:tn 0 t2.heap:=T.keep _ _ _ st1 λb _ o e=>by rw[ht2];exact pushCells_keeps _ _ _ _ (Heap.get?_push_of_some _ e)
 have still:∀{σ':L2.St} {G':Hp} {t':Shared},L2.Inv (X.blk t1 G1 scope ce fp) [] σ' G' t'->(∀b∈fp,G' b=none)->∀b∈fp,FpOk (X.blk t1 G1 scope ce fp) [] G' b:=λI' hn b hb=>
  ⟨hn b hb,(I'.ok.exf b hb).1,I'.ok.exfs b hb,.inl hb,λx c e=>(I'.ok.exf b hb).2 x c e,λp hp=>absurd (show p∈([]:List (Addr×Obj))++[] from hp) (by simp)⟩
 have pt:PTs (X.blk t1 G1 scope ce fp) [] tYes:=pts_nil;have pv:PE (X.blk t1 G1 scope ce fp) (.Constant (.bool true) vj vp) (tC (.bl true)):=pe_bl;have loop:codeAny (model X.prog X.w) X.A (.compLoop (.DictComp kx (.Constant (.bool true) vj vp) [⟨tg,iter,[],0⟩] scope pos) 0 (.ref it) (.ref D) ce) (compPost (model X.prog X.w) X.A X.xe none (EP X pins σ Q) (.ref D) t1.heap.objs.size) t2:=by
  refine compLoop_anyD (λn t'=>∃i G',L2.Inv (X.blk t1 G1 scope ce fp) [] (L2.wipe σ (own.map (·.2))) G' t'/\tn i t'.heap/\(∀b∈fp,G' b=none)/\W i n G') ?_ m0 ⟨0,G1,I2,st2,none1,w0⟩;rintro n t3 ⟨i,G3,I3,st3,n3,w3⟩;rcases turn i n G3 w3 with⟨stop,fin⟩|⟨go,Nx,hNx,step⟩
  .refine thnF (T.done (X.blk t1 G1 scope ce fp) rfl rfl rfl hc i [] t3 _ G3 (λ_ _=>False) I3 (still I3 n3) st3 stop) λr t4 ⟨hr,I4⟩=>?_;subst hr;have I5:L2.Inv X pins σ G3 t4:=I1.call' (ch:=fp) I4.os I4.base I4.hok I4.bare λb hb=>⟨(f1 b hb).1.2.2.2.1,(f1 b hb).1.2.1,(f1 b hb).1.2.2.2.2.1,(f1 b hb).1.2.2.2.2.2⟩;have nC:G3 t1.heap.objs.size=none:=by rw[<-cL];exact I4.free
   obtain⟨m,hn,_⟩:=I4.loc;have hn':t4.heap.Ns t1.heap.objs.size m:=by rw[<-cL];exact hn
   obtain⟨a0,a1,_,a3,a4,a5⟩:=I1.fpOk (as6 _) nC;exact⟨m,hn',λh'' sb=>⟨.ref D,G3,I5.turned (t':=t4.toks) (λb o hb e=>(sb.2 b hb).trans e) a0 a1 a3 a4 a5,rfl,fin⟩⟩
  .refine thnF (T.item (X.blk t1 G1 scope ce fp) rfl rfl rfl hc i [] t3 _ G3 (λ_ _=>False) I3 (still I3 n3) st3 go) λr t4 ⟨u,hr,h4⟩=>?_;subst hr;refine thnF h4 λ_ t5 ⟨x,G5,I5,r5,y5,st5,n5⟩=>?_;refine thnF (pg.run _ t5 _ G5 x u _ (I5.pinned (still I5 n5) (T.obj _ _ st5)) r5 (step x G5 y5)) λ_ t6 ⟨σ6,G6,I6,hw6,q6⟩=>?_;refine thnF (pt.run _ t6 σ6 G6 (λb G=>b=true/\G=G6) I6 ⟨rfl,rfl⟩) λb t7 ⟨G7,I7,hb7,hG7⟩=>?_;subst hb7 hG7;have over:∀{t':Shared} {G':Hp},L2.Inv (X.blk t1 G1 scope ce fp) ([]++pinsAt fp t5.heap) σ6 G' t'->Nx G'->∃m,m<n/\∃i G',L2.Inv (X.blk t1 G1 scope ce fp) [] (L2.wipe σ (own.map (·.2))) G' t'/\tn i t'.heap/\(∀b∈fp,G' b=none)/\W i m G':=λ{t' G'} I' nx=>by
    obtain⟨m',hm,w'⟩:=hNx G' nx;have pin:∀b∈fp,∀o,t5.heap.get? b=some o->t'.heap.get? b=some o/\G' b=none:=λb hb o e=>
     let z:=I'.pin (b,o) (atD _ (atD _ (mem_pinsAt hb e)))
     ⟨z.1,z.2.1⟩
    refine⟨m',hm,i+1,G',(I'.unpinned (pins:=[])).weak (by rw[<-hw6,wipe_length]) (λj v e=>?_),T.keep _ _ _ st5 λb hb o e=>(pin b hb o e).1,λb hb=>?_,w'⟩
    .rw[<-hw6]at e;exact(wipe_some e).1
    .obtain⟨o,e,_⟩:=T.obj _ _ st5 b hb;exact(pin b hb o e).2
   simp only[if_true];refine thnF (pk.run _ t7 σ6 _ _ I7 q6) λz t8 ⟨yv,G8,I8,r8,o8,xs8,g8,d8,b8,k8,ey,hD8,n8,hr8,hk8,hd8,h88,hz8,nx⟩=>?_;subst ey
   obtain rfl:z=Value.ref b8:=r8
   refine thnF (pv.run _ t8 σ6 G8 (λv G=>v=.bl true/\G=G8) I8 ⟨rfl,rfl⟩) λz2 t9 ⟨y9,G9,I9,r9,hv9,hG9⟩=>?_;subst hv9 hG9;exact agT (X:=X.blk t1 G1 scope ce fp) hu I9 hD8 n8 hr8 hk8 hd8 h88 hz8 r9 λs' o' nd I10=>over I10 (nx o' nd)
 have done:=codeAny_compStart_dict loop (T.self X.A 0 _ _ _ st2 loop);rw[hce,ht2]at done;subst hob;exact done
end
def Gg(tg:gH)(tk:QF)(M:Mo)(Z:Env):List Dat->List (Dat×Dat)->Out (List (Dat×Dat))
 |[],acc=>.ok acc
 |d::ds,acc=>match tg d Z with
  |none=>.bad
  |some Z1=>(yX (tk M Z1)).bind λkd=>(dhas true acc kd).bind λr=>Gg tg tk M Z ds (match r with
   |true=>acc
   |false=>acc++[(kd,.bool true)])
def qDc(it:IF)(tg:gH)(vs:List Nat)(tk:QF):Mo->Env->Out (List (Dat×Dat)):=λM Z=>(it M Z).bind λds=>Out.when (decide (ds.length<=50000)) (Gg tg tk M (cH Z vs) ds [])
def ama(K:asv)(aj:aQ)(W:WX)(f:Mo->Env->Out (List (Dat×Dat))):TE:=λσ H Q=>∃g Z M,SInv K aj σ H g Z M/\(f M Z).sat (λkvs=>∀l o H',H l=none->Ex H H'->H' l=some (jr l o)->jP K aj (g.add l) H' l true kvs->Q (.ref l) H') (rB K aj W g H σ)
section
variable{X:Cx}{aj:aQ}{W:WX}
theorem Xc{tg:gH}{tk:QF}{M:Mo}{Z:Env}:∀{ds:List Dat} {acc:List (Dat×Dat)} {x:dX},Gg tg tk M Z ds acc≠.exc x
 |[],_,_,h=>nomatch h
 |d::ds,acc,x,h=>by
  rw[Gg]at h;split at h
  .cases h
  .next Z1 e=>
   cases h1:tk M Z1 with
   |bad=>rw[h1]at h;cases h
   |exc y=>rw[h1]at h;cases h
   |ok kd=>
    rw[h1]at h;have h:((dhas true acc kd).bind λr=>Gg tg tk M Z ds (match r with
     |true=>acc
     |false=>acc++[(kd,.bool true)]))=.exc x:=h
    cases h2:dhas true acc kd with
    |bad=>rw[h2]at h;cases h
    |exc y=>
     unfold dhas at h2;split at h2
     .cases h2
     .split at h2
      .split at h2<;>cases h2
      .cases h2
     .cases h2
    |ok r=>
     rw[h2]at h;exact Xc h
theorem agd{xs:List oW}{k:NestedKey}(h:∀x∈xs,x.2.2=.bool true):xs.map (putAt k (.bool true))=xs:=by
 have:∀x∈xs,putAt k (.bool true) x=x:=λx hx=>by
  unfold putAt;split
  .obtain⟨a,b,c⟩:=x;have:c=.bool true:=h _ hx;rw[this]
  .rfl
 calc xs.map (putAt k (.bool true))=xs.map id:=List.map_congr_left this
  _=xs:=List.map_id xs
theorem abk:∀{xs:List oW},(∀x∈xs,x.2.2=.bool true)->Vals (List.replicate xs.length (.bl true)) (xs.map (·.2.2))
 |[],_=>.nil
 |x::xs,h=>by
  rw[asQ,List.replicate_succ,asy,h x asC];exact .cons rfl (abk λy hy=>h y (asB _ hy))
theorem abF{K:asv}{g:Gh}{H:Hp}:∀{kvs:List (Dat×Dat)} {n:Nat},n=kvs.length->(∀p∈kvs,p.2=.bool true)->aJ K g H (List.replicate n (.bl true)) (kvs.map (·.2))
 |[],_,h,_=>by subst h;exact .nil
 |p::kvs,_,e,h=>by
  subst e;rw[asQ,List.replicate_succ,asy,h p asC];exact .cons (.bl true) (abF rfl λy hy=>h y (asB _ hy))
theorem anC{it:IF}{tg:gH}{js vs:List Nat}{tk:QF}(hw:aj.w=X.w)(hj:∀j∈js,j∈vs)(σ:L2.St)(H:Hp)(Q:VK)(h:ama X.K aj W (qDc it tg vs tk) σ H Q) :
  aj4 X (tI X.K aj W false it) (Ar X.K aj js tg) (tQ X.K aj WF tk) vs σ H Q:=by
 obtain⟨g,Z,M,I,h⟩:=h;refine⟨g,Z,M,I,h.bnd.mono (λds hk J C H1 e1 w c _ D nD=>?_) λ_ z=>z⟩;obtain⟨hz,hk⟩:=hk.lE;have hlen:=atZ hz;obtain⟨total,htot,hQ⟩:∃total,Gg tg tk M (cH Z vs) ds []=.ok total/\∀l o H',H l=none->Ex H H'->H' l=some (jr l o)->jP X.K aj (g.add l) H' l true total->Q (.ref l) H':=by
  cases hc:Gg tg tk M (cH Z vs) ds [] with
  |bad=>rw[hc]at hk;exact atX hk
  |exc x=>exact absurd hc Xc
  |ok total=>
   rw[hc]at hk;exact⟨total,rfl,hk⟩
 have I1:=(I.ex e1).wipe vs;have kD:∀{Ha:Hp} {o:Obj},Ex H1 Ha->Ha D=some (jr D o)->SInv X.K aj (L2.wipe σ vs) Ha (g.add D) (cH Z vs) M:=λea hu=>I1.add nD ea hu atV
 let Pv:Nat->Hp->Prop:=λi Ha=>Ex H1 Ha/\i<=ds.length/\∃o xs acc,Ha D=some (jr D o)/\m7 X.w D o xs/\acc.map (·.1)=xs.map (λx=>x.1.data)/\aJ X.K (g.add D) Ha (xs.map λx=>V.ref x.2.1) (acc.map (·.1))/\(∀x∈xs,x.2.2=.bool true)/\(∀p∈acc,p.2=.bool true)/\acc.length<=i/\Gg tg tk M (cH Z vs) (ds.drop i) acc=.ok total
 refine⟨λi m Ha=>m=ds.length-i/\Pv i Ha,⟨ds.length,λo n0=>⟨rfl,Ex.new nD,atk _,o,[],[],at7,n0,rfl,.nil,λx hx=>absurd hx ate,λx hx=>absurd hx ate,as6 _,by rw[atU];exact htot⟩⟩,?_⟩;rintro i m Ha ⟨rfl,ea,hi,o,xs,acc,hu,nd,hK,hR,hT,hA,hy,hs⟩;have Ia:=kD ea hu;have Ca:=w.add g (g.add D) H1 Ha (I.kd.ex e1) c (Gh.Iu nD ea) ea;have lxs:xs.length=acc.length:=by have:=congrArg List.length hK;simpa using this.symm
 by_cases hlt:i<ds.length
 .refine .inr ⟨w.go _ i Ha Ca hlt,Pv (i+1),λH' p=>⟨ds.length-(i+1),by omega,rfl,p⟩,λx H' y=>?_⟩;have hd:ds[i]?=some ds[i]:=asz hlt;obtain⟨e2,rx⟩:=w.yld _ i Ha x H' _ Ia.kd Ca hd y;have I2:=Ia.ex e2;rw[atu hlt,Gg]at hs;split at hs
  .cases hs
  .next Z1 he=>
   refine⟨g.add D,_,M,_,Z1,I2,rx,he,λws I3=>⟨Bc js ws _ vs hj |>.trans (Fv σ vs),?_⟩⟩;cases htk:tk M Z1 with
   |bad=>rw[htk]at hs;cases hs
   |exc z=>rw[htk]at hs;cases hs
   |ok kd=>
    rw[htk]at hs;have hs:((dhas true acc kd).bind λr=>Gg tg tk M (cH Z vs) (ds.drop (i+1)) (match r with
     |true=>acc
     |false=>acc++[(kd,.bool true)]))=.ok total:=hs
    refine⟨g.add D,Z1,M,I3,?_⟩;rw[htk];intro v H4 e4 ry;have I4:=I3.ex e4;have hu4:=e4 _ _ (e2 _ _ hu);have hR4:=(hR.ex e2 Ia.kd).ex e4 I2.kd;cases hh:dhas true acc kd with
    |bad=>rw[hh]at hs;cases hs
    |exc z=>rw[hh]at hs;cases hs
    |ok r=>
     rw[hh]at hs;obtain⟨ha2,hcase⟩:=Va hh;rcases hcase with⟨z,_⟩|⟨_,dd,kk,rfl,hkk,hdep⟩
     .cases z
     .have ek:=Ah hkk;rw[<-ek,J5 hK]at ha2;have hRx:=hR4;rw[hK]at hRx;cases ry with
      | @tup bb us _ hs' ht=>
       refine⟨o,xs,g.add D,_,bb,kk,rfl,hu4,nd,hRx,.tup hs' ht,hkk,hdep,sz_lt (by omega),λo' nd'=>?_⟩;have eD:Ex H1 (upd H4 D (jr D o')):=Ex.mut ((ea.trans e2).trans e4) nD;have lD:(g.add D).Lo D:=.inr rfl;have up:Gr true (g.add D) (g.add D) H4 (upd H4 D (jr D o')):=Gr.upd I4.kd hu4 (.inr lD);cases r with
       |true=>
        obtain⟨q,hq⟩:=Option.isSome_iff_exists.mp ha2;rw[storedH_old hq,agd hT]at nd';exact⟨eD,hlt,o',xs,acc,at7,nd',hK,hR4.gr up I4.kd,hT,hA,by omega,hs⟩
       |false=>
        have hn:atKey xs kk=none:=by
         cases hv:atKey xs kk with
         |none=>rfl
         |some _=>rw[hv]at ha2;cases ha2
        rw[storedH_new hn]at nd';have hs:Gg tg tk M (cH Z vs) (ds.drop (i+1)) (acc++[(.tuple dd,.bool true)])=.ok total:=hs;refine⟨eD,hlt,o',xs++[(kk,bb,.bool true)],acc++[(.tuple dd,.bool true)],at7,nd',by simp[hK,ek],?_,?_,?_,by simp;omega,hs⟩
        .rw[as8,as8];exact(hR4.gr up I4.kd).back ((Rep.tup hs' ht).gr up I4.kd)
        .intro x hx;rcases asR.mp hx with z|z
         .exact hT x z
         .rw[asF.mp z]
        .intro x hx;rcases asR.mp hx with z|z
         .exact hA x z
         .rw[asF.mp z]
 .have e:i=ds.length:=by omega
  refine .inl ⟨w.stop _ i Ha Ca e,?_⟩;rw[e,atz]at hs;cases hs;exact hQ D o Ha (Fd e1 D nD) (e1.trans ea) hu ⟨o,xs,List.replicate xs.length (.bl true),hu,by rw[hw];exact nd,hK,hR,abk hT,abF lxs hA⟩
def RL(ft:Ft)(o:QF)(f:Str)(e:Mo->Env->Out (List (Dat×Dat))):SF:=λM Z=>((e M Z).at M).then Z λkvs _=>((o (M++[⟨"",[]⟩]) Z).at (M++[⟨"",[]⟩])).then Z λod M2=>match lH M2 od with
 |some (h,i)=>match ft.has i.cls f&&decide (i.fs.length<100) with
  |true=>.next Z (M2.set h (i.put f (.dic true kvs)))
  |false=>.bad
 |none=>.bad
end
theorem Yn{K:asv}{g:Gh}{H:Hp}{l:Addr}{vs:List V}{ds:List Dat}(h:aJ K (g.add l) H vs ds):aJ K (g.push l) H vs ds:=aJ.mv (g:=g.add l) (g':=g.push l) rfl (λh a z=>by
  have z:g.tbl[h]?=some a:=z
  show(g.tbl++[l])[h]?=some a
  rw[asM (asx.mp z).1];exact z) (λa z=>by
  rcases Y6 z with z|rfl
  .rcases z with z|z|z
   .exact .inl z
   .exact .inr (.inl z)
   .exact .inr (.inr (show g.Lo a\/a=l from Or.inl z))
  .exact .inr (.inr (show g.Lo a\/a=a from Or.inr rfl))) h
section
variable{X:Cx}{aj:aQ}{W:WX}{o e:Expr}{f:Str}{pos pos':Pos}{ft:Ft}{fo:QF}
theorem ajk{fe:Mo->Env->Out (List (Dat×Dat))}{te:TE}(co:jN X.K aj)(fk:NK ft aj)(ho:QW aj X W o fo)(he:PE X e te)(hte:∀σ H Q,ama X.K aj W fe σ H Q->te σ H Q)(hs:swapsWith e (some (.Attribute o f pos')) pos.line X.env=pure false):SE aj X W false (.Assign [.Attribute o f pos'] e pos) (RL ft fo f fe):=by
 refine PS.weak (ps_fld ho he hs) λD σ H ⟨g,Z,M,I,z⟩=>hte σ H _ ⟨g,Z,M,I,?_⟩;unfold RL at z;cases hf:fe M Z with
 |exc x=>rw[hf]at z;exact λH' c dd e r=>z σ H' g c dd (Gr.ex e) (I.ex e) r.fr
 |bad=>rw[hf]at z;exact atX z
 |ok kvs=>
  rw[hf]at z;intro l ob H1 nl e1 hl dic;obtain⟨gr,I1,tb,ow,mm⟩:=LR I nl e1 hl atV;have dic1:jP X.K aj (g.push l) H1 l true kvs:=by obtain⟨o',xs,vs,q1,q2,q3,q4,q5,q6⟩:=dic;exact⟨o',xs,vs,q1,q2,q3,Yn q4,q5,Yn q6⟩
  have z:(((fo (M++[⟨"",[]⟩]) Z).at (M++[⟨"",[]⟩])).then Z λod M2=>match lH M2 od with
   |some (h,i)=>match ft.has i.cls f&&decide (i.fs.length<100) with
    |true=>.next Z (M2.set h (i.put f (.dic true kvs)))
    |false=>.bad
   |none=>.bad).sat (sN X.K aj false D.nx g H) (sR X.K aj false D.rt g H) (sN X.K aj false D.bk g H) (sN X.K aj false D.ct g H) (sX X.K aj W false g H):=z
  have k1:=Out.iY (dw (σ:=σ) z);refine tW.go I1 (k1.mono (λ_ y=>y) λx y H' c dd ex rx=>y H' _ c dd (gr.trans (Gr.ex ex)) (I1.ex ex) rx) λod u H2 k2 e2 ru=>?_;have I2:=I1.ex e2;split at k2
  .next h i hi=>
   split at k2
   .next hb=>
    rw[asw]at hb;obtain⟨a,C,dx,fs,_,m1,m2,ha,rfl,c1,c2,c3,c4,c5,c6⟩:=Jb co fk I2.wok ru hi hb.1;have nla:l≠a:=λz=>by
     subst z;cases I2.wok.inj _ _ _ ha tb;rw[mm]at m1;cases m1;exact m2 rfl
    refine⟨a,C,dx,fs,rfl,c2,c4,c5,?_,?_⟩
    .have:=atZ hb.2;rw[c3.len];omega
    .have ch:=UW (f:=f) (C:=C) (dx:=dx) (fs':=putF f (.ref l) fs) I2.kd I2.wok ha m1 m2 tb mm ow;have w':=I2.wok.chg I2.kd ch ha m1 m2 c6 c1 c3 at7 (v:=.ref l) (fl:=.dic true kvs) ⟨l,rfl,at5 rfl,jP.chg ch.gc.gr I2.kd (upd_ne nla) (dic1.ex e2 I1.kd)⟩;exact k2 σ _ _ ((gr.trans (Gr.ex e2)).trans ch.gc.gr) (I2.chg ch w')
   .exact atX k2
  .exact atX k2
end
end Rf
namespace Ear
open PySem PySem.Spec PyProof.Rows L2 Evl RZ
abbrev yq(K:asv)(H:Hp)(v:V)(r:Rw):Prop:=Dp K H v (rD r)
@[irreducible]def Mj (K:asv) (w:World):List V->Hp->VK->Prop:=λvs H Q=>∃(l:Addr) (ws:List V) (R D:List Rw),vs=[V.ref l]/\SqL K H l ws/\fY (yq K H) ws R/\D.length<=76/\(∀r∈R,r∈D)/\
 ∀(p:Addr) (L:List Ent),H p=none->(∀e∈L,yq K H (.ref e.1) e.2)->(L.map Prod.snd).Nodup->(∀r,r∈L.map Prod.snd↔r∈R)->L.length<=76->Q (.ref p) (upd H p (Ox w p L))
@[irreducible]def Q8 (K:asv) (w:World):List V->Hp->VK->Prop:=λvs H Q=>∃(a:Addr) (L:List Ent),vs=[V.ref a]/\H a=some (Ox w a L)/\(∀e∈L,yq K H (.ref e.1) e.2)/\(L.map Prod.snd).Nodup/\L.length<=76/\
 ∀(ys:List V) (M:List Rw) (p:Addr),fY (yq K H) ys M->WD M->(∀r,r∈M↔r∈L.map Prod.snd)->H p=none->Q (.ref p) (upd H p (.lst ys))
section
variable{X:Cx}
theorem ag4{pins:List (Addr×Obj)}{σ:L2.St}{H:Hp}{s:Shared}(I:Inv X pins σ H s){t:Addr}{r:Rw}(h:yq X.K H (.ref t) r):RI s.heap r t:=by
 refine⟨?_,by rw[agx];decide⟩;unfold yq rD dT at h;cases h with
 |tup h1 t1=>
  cases t1 with
  |cons a1 t1=>
   cases t1 with
   |cons a2 t1=>
    cases t1;cases a1;cases a2 with
    |tup h2 t2=>
     obtain⟨us,rv,⟨o,ho,hc,n,hd⟩,_⟩:=I.tuple h1;obtain⟨us2,rv2,⟨o2,ho2,hc2,n2,hd2⟩,_⟩:=I.tuple h2;refine .tup ho hc hd ?_;cases rv with
     |cons r1 rv=>
      cases rv with
      |cons r2 rv=>
       cases rv;obtain⟨tk,rfl⟩:=r1;cases r2;have e:∀{vs:List V} {l:List Int},DpAll X.K H vs (l.map PyData.int)->vs=l.map V.int:=by
        intro vs l
        induction l generalizing vs with
        |nil=>intro z;cases z;rfl
        |cons i l ih=>
         intro z;cases z with
         |cons b1 b2=>
          cases b1;rw[ih b2];rfl
       rw[e t2]at rv2;exact .cons (.int r.1 tk) (.cons (.tup ho2 hc2 hd2 (by simpa using WW (P:=X.prog) (w:=X.w) r.2 us2 rv2)) .nil)
theorem R6{K:asv}{H:Hp}:∀(ws:List V) (R:List Rw),fY (yq K H) ws R->∃ks:List Ent,ws=(ks.map λp=>V.ref p.1)/\ks.map Prod.snd=R/\∀p∈ks,yq K H (.ref p.1) p.2
 |[],[],_=>⟨[],rfl,rfl,by simp⟩
 |[],_::_,h=>nomatch h.1
 |_::_,[],h=>nomatch h.1
 |v::ws,r::R,h=>by
  obtain⟨ks,e1,e2,e3⟩:=R6 ws R ⟨atR h.1,λi v x a b=>h.2 (i+1) v x a b⟩;have hr:yq K H v r:=h.2 0 v r rfl rfl;have ev:∃t,v=.ref t:=by
   have z:=hr;unfold yq rD at z;cases z with
   |tup _ _=>exact⟨_,rfl⟩
  obtain⟨t,rfl⟩:=ev;refine⟨(t,r)::ks,by rw[asy,<-e1],by rw[asy,e2],λp hp=>?_⟩;rcases asN.mp hp with e|hp
  .rw[e];exact hr
  .exact e3 p hp
theorem aaW(hu:X.A.units+65<cLine)(hc:X.calm=true):CallR X (.type "set") (Mj X.K X.w):=by
 intro pins s σ H vs us Q I r h;unfold Mj at h;obtain⟨l,ws,R,D,rfl,hl,hA,hD,hRD,q⟩:=h;rw[Vals.ref1 r];obtain⟨ks,e1,e2,e3⟩:=R6 ws R hA;obtain⟨its,rv,pl,hz⟩:=I.list hl;rw[e1]at rv;have mem:∀p∈ks,p.2∈R:=λp hp=>by
  rw[<-e2];exact asJ.mpr ⟨p,hp,rfl⟩
 have hn:H s.heap.objs.size=none:=I.hok.fresh (as6 _);refine aaY (P:=X.prog) (w:=X.w) (hf:=λr=>(pN X.prog X.w).hash r) (λ_=>rfl) ks D hD (λp hp=>hRD _ (mem p hp)) (I.ok.hd hc) pl.isList (by simpa using WM rv) (λp hp=>ag4 I (e3 p hp)) (by omega) λh' tk L es ep t S g k=>?_;have fitL:t.fits es.size=true:=rN.fits (s:={ s with heap:=h',toks:=tk }) S;have new:ObjOk X.prog X.w (upd H s.heap.objs.size (Ox X.w s.heap.objs.size L)) h' s.heap.objs.size (Ox X.w s.heap.objs.size L):=by obtain⟨o,ho,hr⟩:=S.ob;refine⟨⟨_,es,ep,t,S.ob,S.en,fitL,S.tab.ris,S.ld⟩,⟨o,ho⟩,λh1 h2 z k2=>?_⟩;obtain⟨hf2,es2,ep2,t2,⟨o2,ho2,hr2⟩,rest⟩:=(show adq X.w h1 s.heap.objs.size L from z);exact⟨hf2,es2,ep2,t2,⟨o2,k2 o2 ho2,hr2⟩,rest⟩
 refine⟨.ref s.heap.objs.size,upd H s.heap.objs.size (Ox X.w s.heap.objs.size L),I.laid (t':=tk) k (as6 _) new,rfl,q _ L hn (λe he=>e3 e (atn (g.sub e he))) S.nd (λr=>⟨λm=>?_,λm=>?_⟩) S.few⟩
 .obtain⟨e,he,e5⟩:=asJ.mp m;rw[<-e5];exact mem e (atn (g.sub e he))
 .rw[<-e2]at m;obtain⟨p,hp,e5⟩:=asJ.mp m;rw[<-e5];exact g.all p (by rw[List.take_length];exact hp)
theorem acH(hu:X.A.units+65<cLine)(hc:X.calm=true):CallR X (.builtin "sorted") (Q8 X.K X.w):=by
 intro pins s σ H vs us Q I r h;unfold Q8 at h;obtain⟨a,L,rfl,ha,hL,nd,few,q⟩:=h;rw[Vals.ref1 r];obtain⟨hf,es,ep,t,⟨o,ho,hex,hd⟩,en,fit,ris,led⟩:adq X.w s.heap a L:=(I.hok a _ ha).1;have len:=zN en;have ev:∀K:List Ent,(∀p∈K,p∈L)->PySem.W.EachIs (λv (r:Rw)=>(∃p∈L,v=Value.ref p.1/\r=p.2)/\∃as,Reads s.heap v (rD r) as) ((ents hf K).map (·.2)) (K.map Prod.snd):=by
  intro K
  induction K with
  |nil=>exact λ_=>.nil
  |cons p K ih=>
   intro hK;have hp:=hK p asC;exact .cons ⟨⟨p,hp,rfl,rfl⟩,Dp.reads I (rD p.2) (.ref p.1) (.ref p.1) (hL p hp) rfl⟩ (ih λx hx=>hK x (asB _ hx))
 refine aaU (enc:=rD) (bs:=L.map Prod.snd) (I.ok.hd hc) ⟨o,ho,hex.1,hd⟩ fit (by unfold scanBound;omega) ris led (by rw[en];exact ev L λp hp=>hp) (PySem.W.AllAlike.of WL) (PySem.W.Sortable.tuples λb=>⟨_,_,rfl⟩) (λb _=>by rw[(adL b).2];omega) λs' p out c cs k g' o' hp hg pc eo=>?_;have mp:=List.mergeSort_perm cs (PySem.W.dataLe false rD);have ndm:(cs.mergeSort (PySem.W.dataLe false rD)).Nodup:=(mp.trans pc).nodup_iff.mpr nd;have srt:=List.pairwise_mergeSort (le:=PySem.W.dataLe false rD) (λa b c k1 k2=>by rw[Mv,atY]at *;exact List.le_trans k1 k2) (λa b=>by rw[Mv,Mv,atQ,atY,atY];exact List.le_total _ _) cs;generalize cs.mergeSort (PySem.W.dataLe false rD)=M at mp ndm srt eo;obtain⟨ys,v1,v2⟩:=Xd out M eo;have up:WD M:=by
  refine List.Pairwise.imp₂ (λa b h1 h2=>?_) srt ndm;rw[Mv,atY]at h1;by_cases c:rk a<rk b
  .exact c
  .exact absurd (aeN (List.le_antisymm h1 (List.not_lt.mp c))) h2
 have hfr:H p=none:=I.hok.fresh hp;have hlen:ys.length<=sizeLine:=by rw[v2.1,mp.length_eq,pc.length_eq,asK,sizeLine_eq];omega
 have J:Inv X pins σ (upd H p (.lst ys)) { s with heap:=s'.heap,gens:=s'.gens,drawn:=s'.drawn,toks:=s'.toks }:=
  I.call (ch:=[]) (Un.laid k hp hfr) (I.hok.laid k hp ⟨hlen,out,c,v1,hg⟩) (by rw[g'];exact I.bare) (λ_ z=>nomatch z)
 have es':s'={ s with heap:=s'.heap,gens:=s'.gens,drawn:=s'.drawn,toks:=s'.toks }:=by cases s';cases s;cases o';rfl
 rw[es'];refine⟨.ref p,_,J,rfl,q ys M p (v2.imp λv r ⟨e,he,h1,h2⟩=>?_) up (λr=>(mp.trans pc).mem_iff) hfr⟩;subst h1 h2;exact hL e he
end
end Ear
namespace Rf
open PySem PySem.Spec PyProof.Rows L2 Evl
def ade:Dat->Option Ear.Rw
 |.tuple [.int o,.tuple ds]=>(intsOf ds).map λl=>(o,l)
 |_=>none
def GP:List Dat->Option (List Ear.Rw)
 |[]=>some []
 |d::ds=>(ade d).bind λr=>(GP ds).bind λrs=>some (r::rs)
theorem Mr:∀{ds:List Dat} {l:List Int},intsOf ds=some l->ds=l.map PyData.int
 |[],l,h=>by cases h;rfl
 |.int i::ds,l,h=>by
  rw[intsOf,atr]at h;obtain⟨r,h1,rfl⟩:=h;rw[Mr h1];rfl
 |.none::_,_,h=>by cases h
 |.bool _::_,_,h=>by cases h
 |.str _::_,_,h=>by cases h
 |.list _::_,_,h=>by cases h
 |.tuple _::_,_,h=>by cases h
 |.dict _::_,_,h=>by cases h
theorem ahX{d:Dat}{r:Ear.Rw}(h:ade d=some r):d=Ear.rD r:=by
 unfold ade at h;split at h
 .next o ds=>
  rw[atr]at h;obtain⟨l,h1,rfl⟩:=h;rw[Mr h1];rfl
 .cases h
theorem Qs:∀{ds:List Dat} {rs:List Ear.Rw},GP ds=some rs->ds=rs.map Ear.rD
 |[],_,h=>by cases h;rfl
 |d::ds,_,h=>by
  rw[GP]at h;obtain⟨r,h1,h⟩:=asu.mp h;obtain⟨rs,h2,h⟩:=asu.mp h;cases h;rw[ahX h1,Qs h2];rfl
def Tj(R:List Ear.Rw):List Ear.Rw:=R.mergeSort λa b=>decide (Ear.rk a<=Ear.rk b)
def sortI(l:List Int):List Int:=l.mergeSort λa b=>decide (a<=b)
def cA(R:List Ear.Rw):List Ear.Rw:=Tj R.eraseDups
def ahp(l:List Int):List Int:=sortI l.eraseDups
theorem Ys:∀(n:Nat) (l:List Int),nH n (l.map PyData.int)=true:=λn l=>by
 induction l with
 |nil=>rfl
 |cons i l ih=>simp[nH,okd,ih]
theorem Y4(n:Nat)(r:Ear.Rw):okd (n+2) (Ear.rD r)=true:=by unfold Ear.rD Ear.dT;simp[okd,nH,Ys]
theorem ajv(n:Nat)(R:List Ear.Rw):nH (n+2) (R.map Ear.rD)=true:=by
 induction R with
 |nil=>rfl
 |cons r R ih=>simp[nH,Y4,ih]
def pD(p:Int×Int):Dat:=.tuple [.int p.1,.int p.2]
def JN:Dat->Out Dat
 |.list ds=>match intsOf ds with
  |some l=>.ok (.list ((sortI l).map PyData.int))
  |none=>match GP ds with
   |some R=>.ok (.list ((Tj R).map Ear.rD))
   |none=>.bad
 |_=>.bad
def Rk:Dat->Out Dat
 |.list ds=>match GP ds with
  |some R=>match decide (R.eraseDups.length<=76) with
   |true=>.ok (.list ((cA R).map Ear.rD))
   |false=>.bad
  |none=>.bad
 |_=>.bad
theorem Wx{β:Type}{enc:β->Dat}{le:β->β->Bool}(h:∀a b,PySem.W.dataLe false id (enc a) (enc b)=le a b)(l:List β):(l.map enc).mergeSort (PySem.W.dataLe false id)=(l.mergeSort le).map enc:=by rw[List.map_mergeSort (r:=le) (s:=PySem.W.dataLe false id) (λa _ b _=>(h a b).symm)]
theorem BJ{α:Type}[BEq α][LawfulBEq α]{l:List α}{x:α}:x∈l.eraseDups↔x∈l:=by
 induction hn:l.length using Nat.strongRecOn generalizing l with
 |_ n ih=>
  cases l with
  |nil=>simp
  |cons a r=>
   rw[List.eraseDups_cons];simp only[asQ]at hn;have hl:(r.filter λb=>!b==a).length<=r.length:=asW _ _;rw[asN,ih _ (by omega) rfl,as3,asN];constructor
   .rintro(h|h)
    .exact .inl h
    .exact .inr h.1
   .rintro(h|h)
    .exact .inl h
    .by_cases e:x=a
     .exact .inl e
     .exact .inr ⟨h,by simpa using e⟩
theorem Rz{α:Type}[BEq α][LawfulBEq α]{l:List α}:l.eraseDups.Nodup:=by
 induction hn:l.length using Nat.strongRecOn generalizing l with
 |_ n ih=>
  cases l with
  |nil=>simp
  |cons a r=>
   rw[List.eraseDups_cons];simp only[asQ]at hn;have hl:(r.filter λb=>!b==a).length<=r.length:=asW _ _;refine atO.mpr ⟨λh=>?_,ih _ (by omega) rfl⟩;rw[BJ,as3]at h;simpa using h.2
theorem ou{R:List Ear.Rw}{r:Ear.Rw}:r∈cA R↔r∈R:=by unfold cA Tj;rw[List.mem_mergeSort,BJ]
theorem Zj(R:List Ear.Rw):Ear.WD (cA R):=by
 unfold Ear.WD cA Tj;have srt:=List.pairwise_mergeSort (le:=λa b:Ear.Rw=>decide (Ear.rk a<=Ear.rk b)) (λa b c k1 k2=>by rw[atY]at *;exact List.le_trans k1 k2) (λa b=>by rw[atQ,atY,atY];exact List.le_total _ _) R.eraseDups;have nd:(R.eraseDups.mergeSort λa b=>decide (Ear.rk a<=Ear.rk b)).Nodup:=(List.mergeSort_perm _ _).nodup_iff.mpr Rz;refine List.Pairwise.imp₂ (λa b h1 h2=>?_) srt nd;rw[atY]at h1;by_cases c:Ear.rk a<Ear.rk b
 .exact c
 .exact absurd (Ear.aeN (List.le_antisymm h1 (List.not_lt.mp c))) h2
section
variable{K:asv}{g:Gh}{H:Hp}
theorem Qm{xs:List V}{ds:List Dat}(h:aJ K g H xs ds):∀{ys:List V} {es:List Dat},Ear.fY (Ear.ag1 xs ds) ys es->aJ K g H ys es
 |[],[],_=>.nil
 |[],_::_,z=>nomatch z.1
 |_::_,[],z=>nomatch z.1
 |y::ys,e::es,z=>by
  obtain⟨i,h1,h2⟩:=z.2 0 y e rfl rfl;obtain⟨d,h3,h4⟩:=h.get' h1;rw[h2]at h3;cases h3;exact .cons h4 (Qm h ⟨atR z.1,λi v x a b=>z.2 (i+1) v x a b⟩)
end
section
variable{X:Cx}{aj:aQ}{W:WX}{a:Expr}{fa:QF}{p p2 pos pos2:Pos}
theorem aiJ:KH aj X.K W JN (Ear.JD X.K):=λσ g H x d Q k rx h=>by
 unfold JN at h;split at h
 .next ds=>
  obtain⟨l,us,rfl,h1,h2⟩:=iZ rx;unfold Ear.JD;split at h
  .next ns hn=>
   have e:=Mr hn;subst e;refine⟨l,us,ns.map PyData.int,rfl,h1,h2.dp (n:=12) (Ys 12 ns),PySem.W.AllAlike.of (λa b=>by simp[PySem.W.alike]),PySem.W.Sortable.others (λb=>⟨(λz=>nomatch z),λxs z=>nomatch z⟩),λd hd=>by
    obtain⟨i,_,rfl⟩:=asJ.mp hd;simp[PyData.depth],λys q hy nq=>?_⟩
   have hs:=Wx (enc:=PyData.int) (le:=λa b:Int=>decide (a<=b)) (λa b=>congrFun (congrFun (PySem.W.dataLe_int (λk:Int=>k)) a) b) ns;rw[hs]at hy;exact h (.ref q) _ (Ex.new nq) (.lst (.inl ⟨at7,k.fresh nq⟩) ((Qm h2 hy).ex (Ex.new nq) k))
  .split at h
   .next R hR=>
    have e:=Qs hR;subst e;refine⟨l,us,R.map Ear.rD,rfl,h1,h2.dp (n:=12) (ajv 10 R),PySem.W.AllAlike.of Ear.WL,PySem.W.Sortable.tuples (λb=>⟨_,_,rfl⟩),λd hd=>by
     obtain⟨i,_,rfl⟩:=asJ.mp hd;rw[(Ear.adL i).2]
     decide,λys q hy nq=>?_⟩
    .have hs:=Wx (enc:=Ear.rD) (le:=λa b:Ear.Rw=>decide (Ear.rk a<=Ear.rk b)) (λa b=>by rw[<-Ear.Mv];rfl) R;rw[hs]at hy;exact h (.ref q) _ (Ex.new nq) (.lst (.inl ⟨at7,k.fresh nq⟩) ((Qm h2 hy).ex (Ex.new nq) k))
   .exact atX h
 .exact atX h
theorem ahV(hu:X.A.units+65<cLine)(hg:Gl X "sorted")(hm:X.mg "sorted"=none)(ha:QW aj X W a fa)(hs:nst a=true):QE aj X W (.Call (.Name "sorted" p) [a] [] pos) (fj JN fa):=
 ahx (.inl rfl) (Ear.adb hu) aiJ hg hm ⟨by decide +kernel,by decide,by decide⟩ ha hs
theorem acj{K:asv}{g:Gh}{H:Hp}:∀{vs:List V} {l:List Int},DpAll K H vs (l.map PyData.int)->aJ K g H vs (l.map PyData.int)
 |_,[],.nil=>.nil
 |_,_::_,.cons (.int i) t=>.cons (.int i) (acj t)
theorem afa{K:asv}{g:Gh}{H:Hp}{v:V}{r:Ear.Rw}(h:Ear.yq K H v r):Rep K g H v (Ear.rD r):=by
 unfold Ear.yq Ear.rD at h;cases h with
 |tup h1 t1=>
  cases t1 with
  |cons a1 t1=>
   cases a1;cases t1 with
   |cons a2 t2=>
    cases t2;cases a2 with
    |tup h2 t3=>exact .tup h1 (.cons (.int _) (.cons (.tup h2 (acj t3)) .nil))
theorem W3{K:asv}{g:Gh}{H:Hp}:∀{vs:List V} {R:List Ear.Rw},aJ K g H vs (R.map Ear.rD)->Ear.fY (Ear.yq K H) vs R
 |_,[],.nil=>⟨rfl,λi v x a b=>by simp at a⟩
 |_,r::R,.cons h t=>by
  have ih:=W3 t;refine⟨congrArg (· + 1) ih.1,λi v x a b=>?_⟩;cases i with
  |zero=>
   simp at a b;subst a b;exact h.dp (n:=12) (Y4 10 _)
  |succ i=>exact ih.2 i v x (by simpa using a) (by simpa using b)
theorem Xa{K:asv}{g:Gh}{H:Hp}:∀{vs:List V} {R:List Ear.Rw},Ear.fY (Ear.yq K H) vs R->aJ K g H vs (R.map Ear.rD)
 |[],[],_=>.nil
 |[],_::_,h=>nomatch h.1
 |_::_,[],h=>nomatch h.1
 |v::vs,r::R,h=>.cons (afa (h.2 0 v r rfl rfl)) (Xa ⟨atR h.1,λi v x a b=>h.2 (i+1) v x a b⟩)
theorem aiG(hu:X.A.units+65<cLine)(hc:X.calm=true)(hg:Gl X "sorted")(hm:X.mg "sorted"=none)(hg2:Gl X "set")(hm2:X.mg "set"=none)(ha:QW aj X W a fa)(hs:nst a=true):QE aj X W (.Call (.Name "sorted" p) [.Call (.Name "set" p2) [a] [] pos2] [] pos) (fj Rk fa):=by
 have h0:=pa_cons ha pa_nil (bQ hs []);have h1:PE X (.Call (.Name "set" p2) [a] [] pos2) _:=pe_callTy (Ear.aaW hu hc) hg2 hm2 (by decide +kernel) h0 (by decide) (by decide) (bQ hs []) (by with_unfolding_all rfl)
 have h2:=pa_cons h1 pa_nil (bQ rfl []);refine PE.weak (pe_callB (p:=p) (pos:=pos) (Ear.acH hu hc) hg hm (by decide +kernel) h2 (by decide) (by decide) (bQ rfl []) (by with_unfolding_all rfl)) λσ H Q ⟨g,Z,M,I,h⟩=>?_;refine tW.go I h.bnd λd v H1 h1 e1 r1=>?_;have I1:=I.ex e1;unfold Rk at h1;split at h1
 .next ds=>
  split at h1
  .next R hR=>
   split at h1
   .next hd=>
    have e:=Qs hR;subst e;obtain⟨l,us,rfl,s1,s2⟩:=iZ r1;unfold Ear.Mj;refine⟨l,us,R,R.eraseDups,rfl,s1,W3 s2,atZ hd,λr hr=>BJ.mpr hr,λq L nq hL nd mem few=>?_⟩;have eq:Ex H1 (upd H1 q (Ear.Ox X.w q L)):=Ex.new nq;unfold Ear.Q8;refine⟨q,L,rfl,at7,λe he=>?_,nd,few,λys S z hy up ms nz=>?_⟩
    .exact(Rep.ex eq I1.kd (afa (g:=g) (hL e he))).dp (n:=12) (Y4 10 _)
    .have hS:S=cA R:=Ear.afO up (Zj R) λr=>by rw[ms,mem,ou]
     subst hS;have I2:=I1.ex eq;exact h1 (.ref z) _ ((e1.trans eq).trans (Ex.new nz)) (.lst (.inl ⟨at7,I2.kd.fresh nz⟩) ((Xa hy).ex (Ex.new nz) I2.kd))
   .exact atX h1
  .exact atX h1
 .exact atX h1
def aiN(it:IF)(tg:gH)(vs:List Nat)(tt:QT)(te:QF):QF:=λM Z=>(DQ it tg vs tt te M Z).bind λds=>match intsOf ds with
 |some l=>Out.when (decide (l.length<=4000)) (.ok (.list ((ahp l).map PyData.int)))
 |none=>.bad
end
def Aa(Z:Env):Bool:=Z.all λo=>match o with
 |some (.mut _)=>false
 |_=>true
theorem Zw{Z:Env}(h:Aa Z=true){i:Nat}{xs:List Dat}:Z[i]?≠some (some (.mut xs)):=λz=>by
 have:=asV.mp h _ (asH z);cases this
theorem SInv.loc{K:asv}{aj:aQ}{σ:L2.St}{H:Hp}{g:Gh}{Z:Env}{M:Mo}{D:Addr}{us us':List V}(I:SInv K aj σ H g Z M)(n:Aa Z=true)(hD:H D=some (.lst us))(lo:g.Lo D):SInv K aj σ (upd H D (.lst us')) g Z M where
 kd:=I.kd.upd atV
 wok:=I.wok.loc I.kd hD lo
 len:=I.len
 dat:=λi d h=>by
  obtain⟨v,h1,h2⟩:=I.dat i d h;exact⟨v,h1,aiQ I.kd hD lo h2⟩
 own:=λi xs h=>absurd h (Zw n)
 sep:=λi j xs ys l ne h1=>absurd h1 (Zw n)
def iW(tg:gH)(tt:QT)(it1:IF)(tg1:gH)(vs1:List Nat)(tt1:QT)(te:QF)(M:Mo)(Z:Env):List Dat->Out (List Dat)
 |[]=>.ok []
 |d::ds=>match tg d Z with
  |none=>.bad
  |some Z1=>(yX (tt M Z1)).bind λb=>if b=true then Out.when (Aa Z1) ((yX (it1 M Z1)).bind λes=>(dY tg1 tt1 te M (cH Z1 vs1) es).bind λr1=>(iW tg tt it1 tg1 vs1 tt1 te M Z ds).bind λr=>.ok (r1++r)) else iW tg tt it1 tg1 vs1 tt1 te M Z ds
def abS(it:IF)(tg:gH)(vs:List Nat)(tt:QT)(it1:IF)(tg1:gH)(vs1:List Nat)(tt1:QT)(te:QF):IF:=λM Z=>(it M Z).bind λds=>(iW tg tt it1 tg1 vs1 tt1 te M (cH Z vs) ds).bind λr=>Out.when (decide (r.length<=50000)) (.ok r)
def Fg(it:IF)(tg:gH)(vs:List Nat)(tt:QT)(it1:IF)(tg1:gH)(vs1:List Nat)(tt1:QT)(te:QF):QF:=λM Z=>(abS it tg vs tt it1 tg1 vs1 tt1 te M Z).bind λr=>.ok (.list r)
theorem yr{tg tg1:gH}{tt tt1:QT}{te:QF}{it1:IF}{vs1:List Nat}{M:Mo}{Z:Env}:∀{ds:List Dat} {x:dX},iW tg tt it1 tg1 vs1 tt1 te M Z ds≠.exc x
 |[],_,h=>nomatch h
 |d::ds,x,h=>by
  rw[iW]at h;split at h
  .cases h
  .next Z1 e=>
   cases h1:tt M Z1 with
   |bad=>rw[h1]at h;cases h
   |exc y=>rw[h1]at h;cases h
   |ok b=>
    rw[h1]at h;cases b with
    |false=>exact yr (ds:=ds) (x:=x) h
    |true=>
     cases hn:Aa Z1 with
     |false=>rw[hn]at h;cases h
     |true=>
      rw[hn]at h;cases h2:it1 M Z1 with
      |bad=>rw[h2]at h;cases h
      |exc y=>rw[h2]at h;cases h
      |ok es=>
       rw[h2]at h;have h:((dY tg1 tt1 te M (cH Z1 vs1) es).bind λr1=>(iW tg tt it1 tg1 vs1 tt1 te M Z ds).bind λr=>Out.ok (r1++r))=.exc x:=h;cases h3:dY tg1 tt1 te M (cH Z1 vs1) es with
       |bad=>rw[h3]at h;cases h
       |exc y=>exact absurd h3 tO
       |ok r1=>
        rw[h3]at h;have h:((iW tg tt it1 tg1 vs1 tt1 te M Z ds).bind λr=>Out.ok (r1++r))=.exc x:=h;cases h4:iW tg tt it1 tg1 vs1 tt1 te M Z ds with
        |bad=>rw[h4]at h;cases h
        |exc y=>exact absurd h4 yr
        |ok r=>rw[h4]at h;cases h
section
variable{K:asv}{aj:aQ}{W:WX}
theorem aiI{it it1:IF}{tg tg1:gH}{js vs js1 vs1:List Nat}{tt tt1:QT}{te:QF}(hj:∀j∈js,j∈vs)(hj1:∀j∈js1,j∈vs1)(σ:L2.St)(H:Hp)(Q:VK)(h:tFr K aj W (abS it tg vs tt it1 tg1 vs1 tt1 te) σ H Q) :
  tLc2 (tI K aj W false it) (Ar K aj js tg) (lQ K aj WF tt) (tI K aj WF true it1) (Ar K aj js1 tg1) (lQ K aj WF tt1) (tQ K aj WF te) vs vs1 σ H Q:=by
 obtain⟨g,Z,M,I,h⟩:=h;refine⟨g,Z,M,I,h.bnd.mono (λds hk J C H1 e1 w c _ D nD=>?_) λ_ z=>z⟩;obtain⟨total,htot,hlen,hQ⟩:∃total,iW tg tt it1 tg1 vs1 tt1 te M (cH Z vs) ds=.ok total/\total.length<=50000/\∀l us H',H l=none->Ex H H'->H' l=some (.lst us)->aJ K (g.add l) H' us total->Q (.ref l) H':=by
  cases hc:iW tg tt it1 tg1 vs1 tt1 te M (cH Z vs) ds with
  |bad=>rw[hc]at hk;exact atX hk
  |exc x=>exact absurd hc yr
  |ok total=>
   rw[hc]at hk;obtain⟨hz,hk⟩:=Out.sat.lE hk;exact⟨total,rfl,atZ hz,hk⟩
 have I1:=(I.ex e1).wipe vs;have kD:∀{Ha:Hp} {us:List V},Ex H1 Ha->Ha D=some (.lst us)->SInv K aj (L2.wipe σ vs) Ha (g.add D) (cH Z vs) M:=λea hu=>I1.add nD ea hu atV;have lD:(g.add D).Lo D:=.inr rfl
 let Pv:Nat->Hp->Prop:=λi Ha=>Ex H1 Ha/\i<=ds.length/\∃us ys,Ha D=some (.lst us)/\aJ K (g.add D) Ha us ys/\(iW tg tt it1 tg1 vs1 tt1 te M (cH Z vs) (ds.drop i)).sat (λr=>total=ys++r) λ_=>False
 refine⟨λi m Ha=>m=ds.length-i/\Pv i Ha,⟨ds.length,rfl,Ex.new nD,atk _,[],[],at7,.nil,?_⟩,?_⟩
 .rw[atU,htot];rfl
 .rintro i m Ha ⟨rfl,ea,hi,us,ys,hu,hU,hs⟩;have Ia:=kD ea hu;have Ca:=w.add g (g.add D) H1 Ha (I.kd.ex e1) c (Gh.Iu nD ea) ea;by_cases hlt:i<ds.length
  .refine .inr ⟨w.go _ i Ha Ca hlt,Pv (i+1),λH' p=>⟨ds.length-(i+1),by omega,rfl,p⟩,λx H' y=>?_⟩;have hd:ds[i]?=some ds[i]:=asz hlt;obtain⟨e2,rx⟩:=w.yld _ i Ha x H' _ Ia.kd Ca hd y;have I2:=Ia.ex e2;rw[atu hlt,iW]at hs;split at hs
   .exact atX hs
   .next Z1 he=>
    refine⟨g.add D,_,M,_,Z1,I2,rx,he,λws I3=>⟨Bc js ws _ vs hj |>.trans (Fv σ vs),?_⟩⟩;refine lQ.go I3 (Dk hs.bnd) λb H3 hb e3=>?_;have I4:=I3.ex e3;have hu3:=e3 _ _ (e2 _ _ hu);have hU3:=(hU.ex e2 Ia.kd).ex e3 I2.kd;cases b with
    |false=>
     have hb:(iW tg tt it1 tg1 vs1 tt1 te M (cH Z vs) (ds.drop (i+1))).sat (λr=>total=ys++r) λ_=>False:=hb;exact⟨(ea.trans e2).trans e3,hlt,us,ys,hu3,hU3,hb⟩
    |true=>
     have hb:(Out.when (Aa Z1) ((yX (it1 M Z1)).bind λes=>(dY tg1 tt1 te M (cH Z1 vs1) es).bind λr1=>(iW tg tt it1 tg1 vs1 tt1 te M (cH Z vs) (ds.drop (i+1))).bind λr=>Out.ok (r1++r))).sat (λr=>total=ys++r) λ_=>False:=hb;obtain⟨nm,hb⟩:=hb.lE;refine⟨g.add D,Z1,M,I4,(Dk (E':=rB K aj WF (g.add D) H3 _) hb.bnd).mono (λes hk1 J1 C1 H4 e4 w1 c1 fm=>?_) λ_ z=>z⟩;have fm:=fm rfl
     -- all that is added by this walk
     obtain⟨r1,r2,hr1,hr2,ht⟩:∃r1 r2,dY tg1 tt1 te M (cH Z1 vs1) es=.ok r1/\iW tg tt it1 tg1 vs1 tt1 te M (cH Z vs) (ds.drop (i+1))=.ok r2/\total=ys++(r1++r2):=by
      cases q1:dY tg1 tt1 te M (cH Z1 vs1) es with
      |bad=>rw[q1]at hk1;exact atX hk1
      |exc y=>exact absurd q1 tO
      |ok r1=>
       rw[q1]at hk1;have hk1:((iW tg tt it1 tg1 vs1 tt1 te M (cH Z vs) (ds.drop (i+1))).bind λr=>Out.ok (r1++r)).sat (λr=>total=ys++r) λ_=>False:=hk1;cases q2:iW tg tt it1 tg1 vs1 tt1 te M (cH Z vs) (ds.drop (i+1)) with
       |bad=>rw[q2]at hk1;exact atX hk1
       |exc y=>exact absurd q2 yr
       |ok r2=>
        rw[q2]at hk1;exact⟨r1,r2,rfl,rfl,hk1⟩
     let P1:Nat->Hp->Prop:=λj Hb=>Ex H1 Hb/\SInv K aj (sets (L2.wipe σ vs) js ws) Hb (g.add D) Z1 M/\C1 (g.add D) Hb/\j<=es.length/\∃us' zs,Hb D=some (.lst us')/\aJ K (g.add D) Hb us' (ys++zs)/\(dY tg1 tt1 te M (cH Z1 vs1) (es.drop j)).sat (λr=>r1=zs++r) λ_=>False
     refine⟨λj m Hb=>m=es.length-j/\P1 j Hb,⟨es.length,rfl,((ea.trans e2).trans e3).trans e4,I4.ex e4,c1,atk _,us,[],e4 _ _ hu3,by rw[atp];exact hU3.ex e4 I4.kd,?_⟩,?_⟩
     .rw[atU,hr1];rfl
     .rintro j m Hb ⟨rfl,fb,Ib,Cb,hjl,us',zs,hub,hUb,hsb⟩;by_cases hlj:j<es.length
      .refine .inr ⟨w1.go _ j Hb Cb hlj,P1 (j+1),λH' p=>⟨es.length-(j+1),by omega,rfl,p⟩,λx H' y=>?_⟩;have hdj:es[j]?=some es[j]:=asz hlj;obtain⟨f2,rx⟩:=w1.yld _ j Hb x H' _ Ib.kd Cb hdj y;have J2:=(Ib.ex f2).wipe vs1;rw[atu hlj,dY]at hsb;split at hsb
       .exact atX hsb
       .next Z2 he1=>
        refine⟨g.add D,_,M,_,Z2,J2,rx,he1,λws1 J3=>⟨Bc js1 ws1 _ vs1 hj1 |>.trans (Fv _ vs1),?_⟩⟩;refine lQ.go J3 (Dk hsb.bnd) λb H6 hb6 e6=>?_;have f26:=f2.trans e6;have hu6:=f26 _ _ hub;have hU6:=hUb.ex f26 Ib.kd;cases b with
        |false=>
         have hb6:(dY tg1 tt1 te M (cH Z1 vs1) (es.drop (j+1))).sat (λr=>r1=zs++r) λ_=>False:=hb6;exact⟨fb.trans f26,Ib.ex f26,w1.ex _ _ _ Ib.kd Cb f26,hlj,us',zs,hu6,hU6,hb6⟩
        |true=>
         have hb6:((yX (te M Z2)).bind λy=>(dY tg1 tt1 te M (cH Z1 vs1) (es.drop (j+1))).bind λr=>Out.ok (y::r)).sat (λr=>r1=zs++r) λ_=>False:=hb6;refine tQ.go (J3.ex e6) (Dk hb6.bnd) λy v H7 hyv e7 ry=>?_;have f27:=f26.trans e7;have Ib7:=Ib.ex f27;have hu7:=f27 _ _ hub;have hU7:=hUb.ex f27 Ib.kd;have hyv:=hyv.bnd;have hr:∃r,dY tg1 tt1 te M (cH Z1 vs1) (es.drop (j+1))=.ok r/\r1=zs++y::r:=by
          cases q1:dY tg1 tt1 te M (cH Z1 vs1) (es.drop (j+1)) with
          |bad=>rw[q1]at hyv;exact atX hyv
          |exc y=>exact absurd q1 tO
          |ok r=>
           rw[q1]at hyv;exact⟨r,rfl,hyv⟩
         obtain⟨r,hr,hr1'⟩:=hr;have hll:us'.length<50000:=by
          rw[hUb.length];rw[ht,hr1']at hlen;simp at hlen |-
          omega
         refine⟨us',hu7,sz_lt (Nat.lt_trans hll (by decide)),Ex.mut (fb.trans f27) nD,Ib7.loc nm hu7 lD,fm true _ _ _ _ Ib7.kd (w1.ex _ _ _ Ib.kd Cb f27) (Gr.upd Ib7.kd hu7 (.inr lD)),hlj,us'++[v],zs++[y],at7,?_,?_⟩
         .rw[<-List.append_assoc];exact Y7 Ib7.kd hu7 lD (hU7.append (.cons ry .nil))
         .rw[hr];show r1=_;rw[hr1'];simp
      .have e:j=es.length:=by omega
       refine .inl ⟨w1.stop _ j Hb Cb e,?_⟩;rw[e,atz]at hsb;have hsb:r1=zs++[]:=hsb;rw[atp]at hsb;subst hsb;refine⟨fb,hlt,us',ys++r1,hub,hUb,?_⟩;rw[hr2];show total=_;rw[ht,List.append_assoc]
  .have e:i=ds.length:=by omega
   refine .inl ⟨w.stop _ i Ha Ca e,?_⟩;rw[e,atz]at hs;have hs:total=ys++[]:=hs;rw[atp]at hs;subst hs;exact hQ D us Ha (Fd e1 D nD) (e1.trans ea) hu hU
theorem aey{it it1:IF}{tg tg1:gH}{js vs js1 vs1:List Nat}{tt tt1:QT}{te:QF}(hj:∀j∈js,j∈vs)(hj1:∀j∈js1,j∈vs1)(σ:L2.St)(H:Hp)(Q:VK)(h:tQ K aj W (Fg it tg vs tt it1 tg1 vs1 tt1 te) σ H Q) :
  tLc2 (tI K aj W false it) (Ar K aj js tg) (lQ K aj WF tt) (tI K aj WF true it1) (Ar K aj js1 tg1) (lQ K aj WF tt1) (tQ K aj WF te) vs vs1 σ H Q:=by
 obtain⟨g,Z,M,I,h⟩:=h;refine aiI hj hj1 σ H Q ⟨g,Z,M,I,h.bnd.mono (λxs hk l us H' nl e hl r=>?_) λ_ z=>z⟩;refine hk (.ref l) H' e (.lst (.inl ⟨hl,λz=>?_⟩) (aJ.less (g:=g.add l) (g':=g) rfl (λa z=>?_) r))
 .exact I.kd.fresh nl z
 .rcases z with z|z|z
  .exact .inl z
  .exact .inr (.inl z)
  .exact .inr (.inr (.inl z))
end
section
variable{X:Cx}{aj:aQ}{W:WX}{q:Bool}{elt tg iter tg1 iter1:Expr}{ifs ifs1:List Expr}{scope:Scope}{own:List (Str×Nat)}{it it1:IF}{tgf tgf1:gH}{js js1 vs1:List Nat}{tt tt1:QT}{te:QF}{pos cpos:Pos}
theorem amh(hc:X.calm=true)(hN:X.N.Nodup)(hi:QI aj X W false tg iter it)(ok:blkC X.N X.env.scope scope own=true)(hv:∀i∈vs1,i∈own.map (·.2))(hj:∀j∈js,j∈own.map (·.2))(hj1:∀j∈js1,j∈vs1)
  (hg:∀(s:Shared) (H:Hp) (C:Addr) (cl:List (Str×Addr)) (fp:List Addr),QG aj (X.blk s H scope (compEnvC scope cl C X.env) fp) tg js tgf)
  (ht:∀(s:Shared) (H:Hp) (C:Addr) (cl:List (Str×Addr)) (fp:List Addr),PTs (X.blk s H scope (compEnvC scope cl C X.env) fp) ifs (lQ X.K aj WF tt))
  (hi1:∀(s:Shared) (H:Hp) (C:Addr) (cl:List (Str×Addr)) (fp:List Addr),QI aj (X.blk s H scope (compEnvC scope cl C X.env) fp) WF true tg1 iter1 it1)
  (hg1:∀(s:Shared) (H:Hp) (C:Addr) (cl:List (Str×Addr)) (fp:List Addr),QG aj (X.blk s H scope (compEnvC scope cl C X.env) fp) tg1 js1 tgf1)
  (ht1:∀(s:Shared) (H:Hp) (C:Addr) (cl:List (Str×Addr)) (fp:List Addr),PTs (X.blk s H scope (compEnvC scope cl C X.env) fp) ifs1 (lQ X.K aj WF tt1))
  (he:∀(s:Shared) (H:Hp) (C:Addr) (cl:List (Str×Addr)) (fp:List Addr),QE aj (X.blk s H scope (compEnvC scope cl C X.env) fp) WF elt te) (hs:∀x,foldedSetIterable iter X.env x=pure x) (hs1:∀env x,foldedSetIterable iter1 env x=pure x) :
  QE aj X W (.ListComp elt [⟨tg,iter,ifs,0⟩,⟨tg1,iter1,ifs1,0⟩] scope pos) (Fg it tgf (own.map (·.2)) tt it1 tgf1 vs1 tt1 te):=
 PE.weak (pe_lc2 (g:=Ar X.K aj js tgf) (tt:=lQ X.K aj WF tt) (wi1:=tI X.K aj WF true it1) (g1:=Ar X.K aj js1 tgf1) (tt1:=lQ X.K aj WF tt1) (te:=tQ X.K aj WF te) hc hN hi (blkOk_by ok) hv (λs H C cl fp=>hg s H C cl fp) ht (λs H C cl fp=>hi1 s H C cl fp) (λs H C cl fp=>hg1 s H C cl fp) ht1 (λs H C cl fp=>he s H C cl fp) hs hs1) λσ H Q h=>aey hj hj1 σ H Q h
theorem ah1{j:Nat}{y:Str}{py:Pos}(hc:X.calm=true)(hN:X.N.Nodup)(hy:X.N[j]?=some y)(hyl:X.env.scope.names.lookup y=some .local)(hsw:swapsWith (.ListComp elt [⟨tg,iter,ifs,0⟩,⟨tg1,iter1,ifs1,0⟩] scope cpos) (some (.Name y py)) pos.line X.env=pure true)
  (hi:QI aj X W false tg iter it) (ok:blkC X.N X.env.scope scope own=true) (hv:∀i∈vs1,i∈own.map (·.2)) (hj:∀j∈js,j∈own.map (·.2)) (hj1:∀j∈js1,j∈vs1)
  (hg:∀(s:Shared) (H:Hp) (C:Addr) (cl:List (Str×Addr)) (fp:List Addr),QG aj (X.blk s H scope (compEnvC scope cl C X.env) fp) tg js tgf)
  (ht:∀(s:Shared) (H:Hp) (C:Addr) (cl:List (Str×Addr)) (fp:List Addr),PTs (X.blk s H scope (compEnvC scope cl C X.env) fp) ifs (lQ X.K aj WF tt))
  (hi1:∀(s:Shared) (H:Hp) (C:Addr) (cl:List (Str×Addr)) (fp:List Addr),QI aj (X.blk s H scope (compEnvC scope cl C X.env) fp) WF true tg1 iter1 it1)
  (hg1:∀(s:Shared) (H:Hp) (C:Addr) (cl:List (Str×Addr)) (fp:List Addr),QG aj (X.blk s H scope (compEnvC scope cl C X.env) fp) tg1 js1 tgf1)
  (ht1:∀(s:Shared) (H:Hp) (C:Addr) (cl:List (Str×Addr)) (fp:List Addr),PTs (X.blk s H scope (compEnvC scope cl C X.env) fp) ifs1 (lQ X.K aj WF tt1))
  (he:∀(s:Shared) (H:Hp) (C:Addr) (cl:List (Str×Addr)) (fp:List Addr),QE aj (X.blk s H scope (compEnvC scope cl C X.env) fp) WF elt te) (hs:∀x,foldedSetIterable iter X.env x=pure x) (hs1:∀env x,foldedSetIterable iter1 env x=pure x) :
  SE aj X W q (.Assign [.Name y py] (.ListComp elt [⟨tg,iter,ifs,0⟩,⟨tg1,iter1,ifs1,0⟩] scope cpos) pos) (aR (aF j) (gOf (Fg it tgf (own.map (·.2)) tt it1 tgf1 vs1 tt1 te))):=by
 refine PS.weak (ps_setLc2 (g:=Ar X.K aj js tgf) (tt:=lQ X.K aj WF tt) (wi1:=tI X.K aj WF true it1) (g1:=Ar X.K aj js1 tgf1) (tt1:=lQ X.K aj WF tt1) (te:=tQ X.K aj WF te) hc hN hy hyl hsw hi (blkOk_by ok) hv (λs H C cl fp=>hg s H C cl fp) ht (λs H C cl fp=>hi1 s H C cl fp) (λs H C cl fp=>hg1 s H C cl fp) ht1 (λs H C cl fp=>he s H C cl fp) hs hs1) λD σ H ⟨g,Z,M,I,z⟩=>?_;refine aey hj hj1 σ H _ ⟨g,Z,M,I,(Out.iY (dw (σ:=σ) z)).mono (λd kk v H' e r=>?_) λx kk H' c dd e r=>kk H' g c dd (Gr.ex e) (I.ex e) r⟩;exact kk _ H' g (Gr.ex e) ((I.ex e).set r)
end
section
variable{prog:Program}{w:World}{A:Around}{E:Value->Shared->Prop}{s:Shared}
theorem aeh{a:Addr}{k:NestedKey}{stored:List Value}{Q:Bool->Shared->Prop}(hk:NestedIs s.heap k (.ref a))(h8:k.depth<=8)(hst:∀v∈stored,∃x t,v=Value.str x t)(h:Q false s):wpAny (model prog w) A (tableMayTell (.ref a) stored) Q E s:=by
 unfold tableMayTell;split
 .exact at4 h
 .refine at3 (quiet_key k _ 8 s hk h8 _ _ _ ?_);simp only[Bool.not_true,as7,if_false];refine at3 ?_;refine wpAny_forIn_list _ (λrest r s'=>s'=s/\r=(none,())/\∀v∈rest,∃x t,v=Value.str x t) _ ?_ ?_ _ _ ⟨rfl,rfl,hst⟩
  .rintro x rest r s' ⟨rfl,rfl,hr⟩;obtain⟨y,t,rfl⟩:=hr x asC;refine at3 (QuietAt.byValue (n:=8) rfl _ _ _ ?_);simp only[Bool.not_true,as7,if_false];exact at4 ⟨rfl,rfl,λv hv=>hr v (asB _ hv)⟩
  .rintro r s' ⟨rfl,rfl,_⟩;exact at4 h
theorem acu{d a:Addr}{o:Obj}{es:Array DictEntry}{ep:Nat}{ks:List NestedKey}{Q:Option Nat->Shared->Prop}(hu:A.units+8<cLine)(hk:NestedIs s.heap (.tup ks) (.ref a))(h8:(NestedKey.tup ks).depth<=8)
  (ho:s.heap.get? d=some o) (hd:o.data=.dict es ep) (he:∀e∈es,∃x t,e.key=Value.str x t) (h:Q none s):wpAny (model prog w) A (dictFind d (.ref a) ((NestedKey.tup ks).hash w)) Q E s:=by
 have hany:¬(es.any λe=>e.key==Value.ref a&&e.hash != (NestedKey.tup ks).hash w)=true:=by rw[<-Array.any_toList,List.any_eq_true];rintro⟨e,hin,hc⟩;obtain⟨x,t,hx⟩:=he e (Array.mem_toList_iff.mp hin);rw[hx]at hc;simp at hc
 have hst:∀v∈(placesWithHash es.size (λi=>es[i]?.map (·.hash)) ((NestedKey.tup ks).hash w)).filterMap (λi=>es[i]?.map (·.key)),∃x t,v=Value.str x t:=by
  intro v hv;obtain⟨i,_,hi⟩:=List.mem_filterMap.mp hv;cases hei:es[i]? with
  |none=>rw[hei]at hi;cases hi
  |some e=>
   rw[hei]at hi
   obtain rfl:e.key=v:=by simpa using hi
   exact he e (Array.mem_of_getElem? hei)
 unfold dictFind
 try with_reducible refine wpAny_holding ?_
 refine at3 (wpAny_dictEntries ho hd ?_)
 dsimp only
 rw[at6 (show ¬((Value.ref a::(placesWithHash es.size (λi=>es[i]?.map (·.hash)) ((NestedKey.tup ks).hash w)).filterMap (λi=>es[i]?.map (·.key))).all carriedByValue)=true by simp[carriedByValue])];rw[at6 hany];by_cases hone:(((placesWithHash es.size (λi=>es[i]?.map (·.hash)) ((NestedKey.tup ks).hash w)).filterMap (λi=>es[i]?.map (·.key)))==[Value.ref a])=true <;>
 (first | rw[at5 hone] | rw[at6 hone])<;>(first | refine at3 (at4 ?_) | refine at3 (aeh hk h8 hst ?_))<;>(
  rw[at6 (by simp)];refine at3 ?_;refine wpAny_forIn_list _ (λ_ b s'=>s'=s/\b=(none,none)) _ ?_ ?_ _ _ ⟨rfl,rfl⟩
  .rintro x rest b s' ⟨rfl,rfl⟩;cases hex:es[x]? with
   |none=>exact at4 ⟨rfl,rfl⟩
   |some e=>
    obtain⟨y,t,hy⟩:=he e (Array.mem_of_getElem? hex)
    dsimp only
    by_cases hh:(e.hash==(NestedKey.tup ks).hash w)=true
    .rw[at5 hh,hy];refine at3 (wpAny_dictEpoch ho hd (at3 (eqAt_key (.text y) (.tup ks) _ _ _ _ (.text y t) hk (by have:(NestedKey.text y).depth=0:=rfl;omega) _ _ _ _ (at3 (wpAny_dictEpoch ho hd ?_)))));rw[at6 (by simp)];simp only[NestedKey.beq,as7,if_false];refine at3 (wpAny_rule ?_)
     first | rw[at6 (by simp)] | skip
     first
      |exact at4 ⟨rfl,rfl⟩
      |exact at3 (at4 (at4 ⟨rfl,rfl⟩))
    .rw[at6 hh];exact at4 ⟨rfl,rfl⟩
  .rintro b s' ⟨rfl,rfl⟩;exact at4 h)
theorem aeb{d a:Addr}{o:Obj}{es:Array DictEntry}{ep:Nat}{ks:List NestedKey}{Q:Option Value->Shared->Prop}(hu:A.units+8<cLine)(hk:NestedIs s.heap (.tup ks) (.ref a))(h8:(NestedKey.tup ks).depth<=8)
  (ho:s.heap.get? d=some o) (hd:o.data=.dict es ep) (he:∀e∈es,∃x t,e.key=Value.str x t) (h:Q none { s with toks:=s.toks+(NestedKey.tup ks).draws }):wpAny (model prog w) A (dictGet d (.ref a)) Q E s:=by
 unfold dictGet
 try with_reducible refine wpAny_holding ?_
 refine at3 (pyHash_key _ _ _ _ _ hk (by omega) (at3 (acu (s:={ s with toks:=s.toks+(NestedKey.tup ks).draws }) hu hk h8 ho hd he ?_)));exact at4 h
theorem Hw{d a:Addr}{o:Obj}{es:Array DictEntry}{ep:Nat}{ks:List NestedKey}{Q:Bool->Shared->Prop}(hu:A.in1.units+8<cLine)(hk:NestedIs s.heap (.tup ks) (.ref a))(h8:(NestedKey.tup ks).depth<=8)(hs:(d==sysModules)=false)
  (ho:s.heap.get? d=some o) (hc:o.cls=.type "dict") (hd:o.data=.dict es ep) (he:∀e∈es,∃x t,e.key=Value.str x t) (h:Q false { s with toks:=s.toks+(NestedKey.tup ks).draws }):wpAny (model prog w) A (contains (.ref d) (.ref a)) Q E s:=by
 have hT:s.TypeIs (.ref d) "dict":=⟨o,ho,hc⟩
 unfold contains
 try with_reducible refine wpAny_holding ?_
 refine at3 (wpAny_specialOf hT PySem.F.slot_dict_contains.lookup ?_);show wpAny _ _ (if (some (Value.builtin "dict.__contains__")==some Value.none)=true then _ else _) _ E s
 rw[at6 (by rw[beq_builtin_none];exact Bool.false_ne_true)];refine at3 (wpAny_callSpecialUnlessNone?_slot (name:=Str.ofString "__contains__") hT PySem.F.slot_dict_contains
  (wpAny_call_entry PySem.F.slot_dict_contains hT PySem.F.entry_dict_contains ?_ (args_dict_contains _ _)))
 show wpAny _ _ (dictGet d (.ref a) >>= _) _ _ s;refine at3 (aeb hu hk h8 ho hd he ?_);show wpAny _ _ (Builtin.Dict.pendingKey? d (.ref a) >>= _) _ _ _;exact at3 (wpAny_pendingKey_other hs (at4 ⟨_,rfl,wpAny_truthy_bool h⟩))
end
def rGx(X:Cx)(d:Addr)(neg:Bool):R2:=λx y H Q=>y=.ref d/\((∃(z:Str) (r:Option Value),x=.str z/\PySem.W.nsIn X.K d z=some r/\Q (.bl (neg ^^ r.isSome)) H)\/(∃i,x=.int i/\Q (.bl neg) H)\/
 ∃(g:Gh) (dd:Dat) (b:Addr) (ks:List NestedKey),x=.ref b/\Rep X.K g H x dd/\sE dd=some (.tup ks)/\(NestedKey.tup ks).depth<=8/\Q (.bl neg) H)
section
variable{X:Cx}{d:Addr}{es:Array DictEntry}{n:Nat}
theorem adM{pins:List (Addr×Obj)}{σ:L2.St}{H:Hp}{s:Shared}(D:KDict X.K X.w d es n)(I:L2.Inv X pins σ H s):s.heap.MapOf (mixKind X.prog X.w) d (λk=>findBy keyIs es k):=
 ⟨_,es,n,I.kIn _ _ D.at_,⟨rfl,rfl,rfl⟩,rfl,λe he=>by
  obtain⟨x,t,e1,e2⟩:=D.lit.all e (Array.mem_toList_iff.mpr he);exact⟨.inr x,by rw[e1];exact keyIs_str x t,e2⟩,λ_=>rfl⟩
theorem YX(D:KDict X.K X.w d es n)(i:Int):findBy keyIs es (.inl i)=none:=by unfold findBy;rw[Option.map_eq_none_iff,Array.find?_eq_none];intro e he;obtain⟨x,t,e1,_⟩:=D.lit.all e (Array.mem_toList_iff.mpr he);rw[e1];exact λz=>by cases z
theorem ab6(D:KDict X.K X.w d es n):∀e∈es,∃x t,e.key=Value.str x t:=λe he=>by
 obtain⟨x,t,e1,_⟩:=D.lit.all e (Array.mem_toList_iff.mpr he);exact⟨x,t,e1⟩
theorem ai9(hu:X.A.units+64<cLine)(D:KDict X.K X.w d es n):OpR X (compareOp .In) (rGx X d false):=by
 intro pins s σ H x y v u Q I rx ry h;obtain⟨rfl,h⟩:=h;rcases h with⟨z,r,rfl,e,q⟩|⟨i,rfl,q⟩|⟨g,dd,b,ks,rfl,hr,hk,h8,q⟩
 .exact op_in_kd D pins s σ H _ _ v u Q I rx ry ⟨z,r,rfl,rfl,e,by simpa using q⟩
 .obtain⟨t,rfl⟩:=rx;cases ry;refine wpAny_in_of (knd:=mixKind X.prog X.w) (k:=.inl i) (keyIs_int i t) D.low (adM D I) ?_;rw[YX D];exact⟨.bl false,H,I.tok _,rfl,q⟩
 .obtain rfl:v=Value.ref b:=rx
  cases ry;show wpAny _ _ (do return Value.bool (<-contains (.ref d) (.ref b))) _ _ s;exact at3 (Hw (show X.A.units+1+8<cLine by omega) (key_is I hr hk rfl) h8 D.low (I.kIn _ _ D.at_) rfl rfl (ab6 D) (at4 ⟨.bl false,H,I.tok _,rfl,q⟩))
theorem ac7(hu:X.A.units+64<cLine)(D:KDict X.K X.w d es n):OpR X (compareOp .NotIn) (rGx X d true):=by
 intro pins s σ H x y v u Q I rx ry h;obtain⟨rfl,h⟩:=h;rcases h with⟨z,r,rfl,e,q⟩|⟨i,rfl,q⟩|⟨g,dd,b,ks,rfl,hr,hk,h8,q⟩
 .exact op_notIn_kd D pins s σ H _ _ v u Q I rx ry ⟨z,r,rfl,rfl,e,by simpa using q⟩
 .obtain⟨t,rfl⟩:=rx;cases ry;refine wpAny_notIn_of (knd:=mixKind X.prog X.w) (k:=.inl i) (keyIs_int i t) D.low (adM D I) ?_;rw[YX D];exact⟨.bl true,H,I.tok _,rfl,q⟩
 .obtain rfl:v=Value.ref b:=rx
  cases ry;show wpAny _ _ (do return Value.bool (!(<-contains (.ref d) (.ref b)))) _ _ s;exact at3 (Hw (show X.A.units+1+8<cLine by omega) (key_is I hr hk rfl) h8 D.low (I.kIn _ _ D.at_) rfl rfl (ab6 D) (at4 ⟨.bl true,H,I.tok _,rfl,q⟩))
end
def VG(neg:Bool)(kvs:List (Str×Dat))(k:QF):QF:=λM Z=>(k M Z).bind λd=>match d with
 |.str x=>.ok (.bool (neg ^^ (kvs.lookup x).isSome))
 |.int _=>.ok (.bool neg)
 |.tuple ds=>(match rW ds with
  |some ks=>Out.when (decide ((NestedKey.tup ks).depth<=8)) (.ok (.bool neg))
  |none=>.bad)
 |_=>.bad
def acU(kvs:List (Str×Dat))(k:QF):QF:=λM Z=>(k M Z).bind λd=>match d with
 |.str x=>match kvs.lookup x with
  |some y=>.ok y
  |none=>.bad
 |_=>.bad
section
variable{X:Cx}{aj:aQ}{W:WX}{a:Expr}{fa:QF}{x:Str}{p pos:Pos}{kvs:List (Str×Dat)}{k:Nat}
theorem aep{neg:Bool}{d:Addr}(D:adn X.w X.K d kvs)(σ:L2.St)(H:Hp)(Q:VK)(h:tQ X.K aj W (VG neg kvs fa) σ H Q):tOp (rGx X d neg) (tW X.K aj W fa) (tC (.ref d)) σ H Q:=by
 obtain⟨g,Z,M,I,h⟩:=h;refine tW.go I h.bnd λe v H1 h1 e1 r1=>?_;split at h1
 .next z=>
  cases fV r1;obtain⟨es,n,_,_,hl⟩:=D;have hz:=hl z;cases hk:kvs.lookup z with
  |none=>
   rw[hk]at hz h1;exact⟨rfl,.inl ⟨z,none,rfl,hz,h1 _ H1 e1 (.bl _)⟩⟩
  |some d'=>
   rw[hk]at hz h1;obtain⟨v,u,h2,_⟩:=hz;exact⟨rfl,.inl ⟨z,some u,rfl,h2,h1 _ H1 e1 (.bl _)⟩⟩
 .exact⟨rfl,.inr (.inl ⟨_,cG r1,h1 _ H1 e1 (.bl _)⟩)⟩
 .next ds=>
  split at h1
  .next ks hk=>
   obtain⟨h8,h1⟩:=h1.lE;obtain⟨p,us,rfl,q1,q2⟩:=lV r1;exact⟨rfl,.inr (.inr ⟨g,.tuple ds,p,ks,rfl,.tup q1 q2,by rw[sE,hk];rfl,atZ h8,h1 _ H1 e1 (.bl _)⟩)⟩
  .exact atX h1
 .exact atX h1
theorem opG{neg:Bool}{op:CmpOp}{d:Addr}(hr:Room k X.A)(hn:(op=.In/\neg=false)\/(op=.NotIn/\neg=true))(D:adn X.w X.K d kvs):OpR X (compareOp op) (rGx X d neg):=by
 obtain⟨es,n,D,_⟩:=D;have hu:X.A.units+64<cLine:=by have:=hr.un;omega
 rcases hn with⟨rfl,rfl⟩|⟨rfl,rfl⟩
 .exact ai9 hu D
 .exact ac7 hu D
theorem akO{neg:Bool}{op:CmpOp}(hr:Room k X.A)(hn:(op=.In/\neg=false)\/(op=.NotIn/\neg=true))(g:bh X.prog X.w X.K X.mg X.base aj k x (.dic kvs))(hg:Gl X x)(hd:(x==("__debug__" : Str))=false)(ha:QW aj X W a fa):QE aj X W (.Compare a [op] [.Name x p] pos) (VG neg kvs fa)/\uE aj X W (.Compare a [op] [.Name x p] pos) (aW (VG neg kvs fa)):=by obtain⟨d,hm,D⟩:=g;have hb:PE X (.Name x p) (tC (.ref d)):=pe_glob hg hm rfl hd;refine⟨PE.weak (pe_cmpR (opG hr hn D) ha hb (by cases op<;>rfl)) λσ H Q h=>aep D σ H Q h,PT.weak (pt_cmpR (opG hr hn D) ha hb (by cases op<;>rfl)) λσ H Q ⟨g,Z,M,I,h⟩=>?_⟩;refine aep D σ H _ ⟨g,Z,M,I,h.bnd.mono (λd h1 v H' e' r'=>?_) λ_ z=>z⟩;obtain⟨k,h2,h3⟩:=GJ r'.weak h1;exact⟨k,h2,h3 H' e'⟩
theorem aku(g:bh X.prog X.w X.K X.mg X.base aj k x (.dic kvs))(hg:Gl X x)(hd:(x==("__debug__" : Str))=false)(ha:QW aj X W a fa)(hp:PlainIx a):QE aj X W (.Subscript (.Name x p) a pos) (acU kvs fa):=by
 obtain⟨d,hm,es,n,D,_,hl⟩:=g;have hb:PE X (.Name x p) (tC (.ref d)):=pe_glob hg hm rfl hd;refine PE.weak (pe_ix ix_kdict hb ha hp) λσ H Q ⟨g,Z,M,I,h⟩=>?_;refine tW.go I h.bnd λe v H1 h1 e1 r1=>?_;split at h1
 .next z=>
  cases fV r1;have hz:=hl z;split at h1
  .next y hk=>
   rw[hk]at hz;obtain⟨v,u,h2,h3,h4⟩:=hz;exact⟨d,z,v,rfl,rfl,⟨es,n,u,D.at_,D.lit,h2,h3⟩,h1 v H1 e1 (h4 g H1)⟩
  .exact atX h1
 .exact atX h1
end
structure Hs where
 Ms:List (Str×List (Str×MV))
 ft:Ft
 xm:List (Str×List (Str×Bool))
 df:List (Str×Bool)
 xf:List (Str×List Str)
structure U6(P:Program)(w:World)(K:asv)(mg:Str->Option Value)(base:Heap)(aj:aQ)(k:Nat)(h:Hs):Prop where
 ms:∀m tb,h.Ms.lookup m=some tb->∀c v,tb.lookup c=some v->cC P w K mg base aj k c m v
 fk:NK h.ft aj
 co:jN K aj
 hw:aj.w=w
 xm:∀y tab,h.xm.lookup y=some tab->(∃D,aj y=some D)/\adt K aj y λx=>tab.lookup x
 xf:∀y fs,h.xf.lookup y=some fs->∃C,aj y=some C/\XfC K C/\∀f∈fs,PySem.W.findIn K (.ref C) f=some none
structure Tc where
 N:List Str
 sc:Scope
 G:List (Str×GV)
 B:List Str
 hs:Hs
 ml:List Str
 top:Bool
structure Amb(aj:aQ)(c:Tc)(X:Cx)(W:WX)(k:Nat):Prop where
 hN:X.N=c.N
 hs:X.env.scope=c.sc
 calm:X.calm=true
 nd:X.N.Nodup
 tk:Takes X W
 rm:Room k X.A
 gl:∀x v,c.G.lookup x=some v->bh X.prog X.w X.K X.mg X.base aj k x v
 bl:∀x,x∈c.B->X.mg x=none
 fn:c.top=true->∀x,X.fn x=true
 hk:U6 X.prog X.w X.K X.mg X.base aj k c.hs
theorem Amb.tw{aj:aQ}{c:Tc}{X:Cx}{W:WX}{k:Nat}(a:Amb aj c X W k){x:Str}{v:GV}(h:c.G.lookup x=some v)(hv:v.soft=true):Takes X W:=
 a.tk
theorem Amb.tm{aj:aQ}{c:Tc}{X:Cx}{W:WX}{k:Nat}(a:Amb aj c X W k){m:Str}{tb:List (Str×MV)}(h:c.hs.Ms.lookup m=some tb):Takes X W:=
 a.tk
def gd{α:Type}(b:Bool)(o:Option α):Option α:=match b with
 |true=>o
 |false=>none
theorem aP{α:Type}{b:Bool}{o:Option α}{x:α}:gd b o=some x↔b=true/\o=some x:=by
 cases b
 .exact⟨λh=>(nomatch h),λh=>(nomatch h.1)⟩
 .exact⟨λh=>⟨rfl,h⟩,λh=>h.2⟩
def idx:List Str->Str->Option Nat
 |[],_=>none
 |y::ys,x=>match y==x with
  |true=>some 0
  |false=>(idx ys x).map (· + 1)
theorem Uj:∀{N:List Str} {x:Str} {i:Nat},idx N x=some i->N[i]?=some x
 |[],_,_,h=>nomatch h
 |y::ys,x,i,h=>by
  rw[idx]at h;split at h
  .next e=>
   cases h;rw[List.getElem?_cons_zero,at8 e]
  .rw[atr]at h;obtain⟨j,h1,rfl⟩:=h;rw[List.getElem?_cons_succ];exact Uj h1
def agW(sc:Scope)(x:Str):Bool:=match sc.names.lookup x with
 |some .local=>true
 |some .cell=>true
 |some .free=>true
 |_=>false
theorem ahY{sc:Scope}{x:Str}(h:agW sc x=true):Vis sc x:=by
 unfold agW at h;unfold Vis;split at h
 .next e=>exact .inl e
 .next e=>exact .inr (.inl e)
 .next e=>exact .inr (.inr e)
 .cases h
def wF(x:Str):Bool:=(x==("__debug__" : Str)) || (x==("__classdict__" : Str))
theorem jK{x:Str}(h:wF x=false):(x==("__debug__" : Str))=false/\(x==("__classdict__" : Str))=false:=by unfold wF at h;rw[Bool.or_eq_false_iff]at h;exact h
def xX(sc:Scope)(x:Str):Bool:=match sc.names.lookup x with
 |some .globalImplicit=>true
 |_=>false
def Mp(c:Tc)(x:Str):Option Nat:=gd (agW c.sc x&&!wF x) (idx c.N x)
def aki(c:Tc)(x:Str):Bool:=match c.sc.names.lookup x with
 |some .local=>true
 |some .cell=>c.top
 |_=>false
def wW(c:Tc)(x:Str):Option Nat:=gd (aki c x) (idx c.N x)
section
variable{aj:aQ}{c:Tc}{X:Cx}{W:WX}{k:Nat}{x:Str}{i:Nat}
theorem oX(a:Amb aj c X W k)(h:xX c.sc x=true):Gl X x:=by
 unfold xX at h;unfold Gl PySem.Env.kindOf;rw[a.hs];split at h
 .assumption
 .cases h
theorem Ak(a:Amb aj c X W k)(h:Mp c x=some i):X.N[i]?=some x/\Vis X.env.scope x/\(x==("__debug__" : Str))=false/\(x==("__classdict__" : Str))=false:=by obtain⟨h1,h2⟩:=aP.mp h;rw[asw]at h1;obtain⟨d1,d2⟩:=jK (by simpa using h1.2);exact⟨by rw[a.hN];exact Uj h2,by rw[a.hs];exact ahY h1.1,d1,d2⟩
theorem oR(a:Amb aj c X W k)(h:wW c x=some i):X.N[i]?=some x/\L2.Loc X.env.scope x/\(X.fn x=true\/X.env.scope.names.lookup x=some .local):=by
 obtain⟨h1,h2⟩:=aP.mp h;unfold aki at h1;refine⟨by rw[a.hN];exact Uj h2,?_⟩;rw[a.hs];unfold L2.Loc;split at h1
 .next e=>exact⟨.inl e,.inr e⟩
 .next e=>exact⟨.inr e,.inl (a.fn h1 x)⟩
 .cases h1
def vX(c:Tc)(x y:Str):Bool:=(x==y)&&(xX c.sc x&&c.B.contains x)
theorem pJ{y:Str}(a:Amb aj c X W k)(h:vX c x y=true):x=y/\Gl X x/\X.mg x=none:=by unfold vX at h;rw[asw,asw]at h;exact⟨at8 h.1,oX a h.2.1,a.bl x (by simpa using h.2.2)⟩
end
def z7:Expr->Bool
 |.Set _ _ _=>true
 |_=>false
theorem EY{b:Expr}{op:CmpOp}(h:z7 b=false):behindInMarks op b=false:=by cases b<;>first | rfl | cases h
theorem Ww{b c:Expr}{op op':CmpOp}(h:z7 c=false):lastMarks [op,op'] [b,c]=false:=EY h
theorem tK{e:Expr}{env:PySem.Env}(h:z7 e=false):∀x,foldedSetIterable e env x=pure x:=λx=>by
 cases e<;>first | rfl | cases h
def Ze:Expr->Bool
 |.Slice _ _ _ _=>true
 |_=>false
def akZ:Operator->Option (Dat->Dat->Out Dat)
 |.Add=>some bZ
 |.Sub=>some pC
 |.Mult=>some yw
 |.FloorDiv=>some Ez
 |.Mod=>some jc
 |.Pow=>some Qt
 |_=>none
def Rh:CmpOp->Option (Dat->Dat->Out Dat)
 |.Eq=>some bH
 |.NotEq=>some Aq
 |.Lt=>some Nr
 |.LtE=>some rE
 |.Gt=>some gtD
 |.GtE=>some geD
 |.In=>some (inD false)
 |.NotIn=>some (inD true)
 |_=>none
theorem ajq{op:Operator}{o:Dat->Dat->Out Dat}(h:akZ op=some o)(X:Cx)(aj:aQ)(W:WX):∃r,OpR X (binaryOp op) r/\rA aj X.K W o r:=by
 cases op<;>cases h
 .exact⟨_,aiO,ajV⟩
 .exact⟨_,op_sub,alm⟩
 .exact⟨_,op_mul,akQ⟩
 .exact⟨_,op_mod,alo⟩
 .exact⟨_,op_pow,akX⟩
 .exact⟨_,op_fdiv,alD⟩
theorem Dq{op:CmpOp}{o:Dat->Dat->Out Dat}(h:Rh op=some o){X:Cx}{k:Nat}(hr:Room k X.A)(aj:aQ)(W:WX):∃r,OpR X (compareOp op) r/\rA aj X.K W o r:=by
 have h65:X.A.units+65<cLine:=by have:=hr.un;omega
 cases op<;>cases h
 .exact⟨_,amk hr.units,anx⟩
 .exact⟨_,akB hr.units,amQ⟩
 .exact⟨_,ajZ h65,amX⟩
 .exact⟨_,op_le,anr⟩
 .exact⟨_,op_gt,anp⟩
 .exact⟨_,op_ge,amT⟩
 .exact⟨_,aj1 h65,ahQ⟩
 .exact⟨_,afC h65,ahQ⟩
def V3:Expr->Option Dat
 |.Constant .none _ _=>some .none
 |.Constant (.bool b) _ _=>some (.bool b)
 |_=>none
theorem abf{e:Expr}{d:Dat}{X:Cx}(h:V3 e=some d):∃v,scD d=some v/\(v=.non\/∃b,v=.bl b)/\PE X e (tC v):=by
 unfold V3 at h;split at h
 .cases h;exact⟨_,rfl,.inl rfl,pe_non⟩
 .cases h;exact⟨_,rfl,.inr ⟨_,rfl⟩,pe_bl⟩
 .cases h
def isN:CmpOp->Option Bool
 |.Is=>some false
 |.IsNot=>some true
 |_=>none
theorem aek{op:CmpOp}{neg:Bool}{v:V}{X:Cx}(h:isN op=some neg)(hv:v=.non\/∃b,v=.bl b):OpR X (compareOp op) (aac neg v):=by
 cases op<;>cases h
 .exact ajU hv
 .exact afh hv
def b1D(x:Str):Option (Dat->Out Dat):=
 if x=="len" then some j8 else if x=="abs" then some N7 else if x=="sum" then some Yx else if x=="max" then some maxD else if x=="all" then some M4 else if x=="any" then some QD
 else if x=="tuple" then some nu else if x=="list" then some Og else if x=="int" then some intD else
 none
def b2D(x:Str):Option (Dat->Dat->Out Dat):=if x=="max" then some wO else if x=="min" then some JM else none
theorem aj3{x:Str}{o:Dat->Out Dat}{X:Cx}(hc:X.calm=true)(h:b1D x=some o)(aj:aQ)(W:WX):∃(f:Value) (id:String) (r:List V->Hp->VK->Prop),(f=.builtin id\/f=.type id)/\CallR X f r/\KH aj X.K W o r/\BV f x:=by
 unfold b1D at h;split at h
 .next e=>cases h;cases at8 e;exact⟨_,_,_,.inl rfl,ajF,alH,by decide +kernel,by decide,by decide⟩
 split at h
 .next e=>cases h;cases at8 e;exact⟨_,_,_,.inl rfl,call_abs,ajI,by decide +kernel,by decide,by decide⟩
 split at h
 .next e=>cases h;cases at8 e;exact⟨_,_,_,.inl rfl,cr_sum hc,alS,by decide +kernel,by decide,by decide⟩
 split at h
 .next e=>cases h;cases at8 e;exact⟨_,_,_,.inl rfl,cr_max hc,amq,by decide +kernel,by decide,by decide⟩
 split at h
 .next e=>cases h;cases at8 e;exact⟨_,_,_,.inl rfl,cr_all hc,alc,by decide +kernel,by decide,by decide⟩
 split at h
 .next e=>cases h;cases at8 e;exact⟨_,_,_,.inl rfl,cr_any hc,amc,by decide +kernel,by decide,by decide⟩
 split at h
 .next e=>cases h;cases at8 e;exact⟨_,_,_,.inr rfl,call_tuple_of,ago,by decide +kernel,by decide,by decide⟩
 split at h
 .next e=>cases h;cases at8 e;exact⟨_,_,_,.inr rfl,call_list_of,ajr,by decide +kernel,by decide,by decide⟩
 split at h
 .next e=>cases h;cases at8 e;exact⟨_,_,_,.inr rfl,ak0,akR,by decide +kernel,by decide,by decide⟩
 .cases h
theorem amn{x:Str}{o:Dat->Dat->Out Dat}{X:Cx}(hc:X.calm=true)(h:b2D x=some o)(aj:aQ)(W:WX):∃(f:Value) (id:String) (r:List V->Hp->VK->Prop),(f=.builtin id\/f=.type id)/\CallR X f r/\Fn2 aj X.K W o r/\BV f x:=by
 unfold b2D at h;split at h
 .next e=>cases h;cases at8 e;exact⟨_,_,_,.inl rfl,call_max2 hc,ajh,by decide +kernel,by decide,by decide⟩
 split at h
 .next e=>cases h;cases at8 e;exact⟨_,_,_,.inl rfl,call_min2 hc,ah0,by decide +kernel,by decide,by decide⟩
 .cases h
def tyN(x:Str):Option Ly:=if x=="int" then some .int else if x=="bool" then some .bool else if x=="str" then some .str else if x=="tuple" then some .tuple else if x=="list" then some .list else none
theorem ako{x:Str}{t:Ly}(h:tyN x=some t):BV (.type t.name) x:=by
 unfold tyN at h;split at h
 .next e=>cases h;cases at8 e;exact⟨by decide +kernel,by decide,by decide⟩
 split at h
 .next e=>cases h;cases at8 e;exact⟨by decide +kernel,by decide,by decide⟩
 split at h
 .next e=>cases h;cases at8 e;exact⟨by decide +kernel,by decide,by decide⟩
 split at h
 .next e=>cases h;cases at8 e;exact⟨by decide +kernel,by decide,by decide⟩
 split at h
 .next e=>cases h;cases at8 e;exact⟨by decide +kernel,by decide,by decide⟩
 .cases h
structure Tr where
 E:Tc->Expr->Option QF
 W:Tc->Expr->Option QF
 T:Tc->Expr->Option QT
 I:Tc->Bool->Expr->Expr->Option IF
structure Tr.Ok(t:Tr):Prop where
 oe:∀{aj:aQ} {c:Tc} {X:Cx} {W:WX} {k:Nat},Amb aj c X W k->∀{e:Expr} {f:QF},t.E c e=some f->QE aj X W e f
 ow:∀{aj:aQ} {c:Tc} {X:Cx} {W:WX} {k:Nat},Amb aj c X W k->∀{e:Expr} {f:QF},t.W c e=some f->QW aj X W e f
 ot:∀{aj:aQ} {c:Tc} {X:Cx} {W:WX} {k:Nat},Amb aj c X W k->∀{e:Expr} {f:QT},t.T c e=some f->uE aj X W e f
 oi:∀{aj:aQ} {c:Tc} {X:Cx} {W:WX} {k:Nat},Amb aj c X W k->∀{firm:Bool} {tg e:Expr} {f:IF},t.I c firm tg e=some f->QI aj X W firm tg e f
def KN(t:Tr)(c:Tc):List Expr->Option QA
 |[]=>some au
 |a::es=>gd (nst a) ((t.E c a).bind λfa=>(KN t c es).bind λfr=>some (ak fa fr))
section
variable{aj:aQ}{c:Tc}{X:Cx}{W:WX}{k:Nat}{t:Tr}
theorem wz(o:t.Ok)(a:Amb aj c X W k):∀{es:List Expr} {f:QA},KN t c es=some f->Hz aj X W es f/\es.all nst=true/\∀M Z ds,f M Z=.ok ds->ds.length=es.length
 |[],f,h=>by
  cases h;exact⟨alw,rfl,λM Z ds e=>by cases e;rfl⟩
 |e::es,f,h=>by
  rw[KN,aP]at h;obtain⟨hs,h⟩:=h;obtain⟨fa,h1,h⟩:=asu.mp h;obtain⟨fr,h2,h⟩:=asu.mp h;cases h;obtain⟨i1,i2,i3⟩:=wz o a h2;refine⟨aiX (o.oe a h1) i1 (bQ hs es),by simp[hs,i2],λM Z ds e=>?_⟩;unfold ak at e;cases hf:fa M Z with
  |ok d=>
   rw[hf]at e;cases hr:fr M Z with
   |ok dr=>
    rw[hr]at e;cases e;simp[i3 M Z dr hr]
   |exc y=>rw[hr]at e;cases e
   |bad=>rw[hr]at e;cases e
  |exc y=>rw[hf]at e;cases e
  |bad=>rw[hf]at e;cases e
end
def trO(t:Tr)(c:Tc):Option Expr->Option QO
 |none=>some fD
 |some a=>(t.W c a).bind λfa=>some (dW fa)
theorem ae7{aj:aQ}{c:Tc}{X:Cx}{W:WX}{k:Nat}{t:Tr}(o:t.Ok)(a:Amb aj c X W k){e:Option Expr}{f:QO}(h:trO t c e=some f):QOe aj X W e f:=by
 cases e with
 |none=>cases h;exact aiW
 |some e=>
  obtain⟨fa,h1,h⟩:=asu.mp h;cases h;exact ajA (o.ow a h1)
def Yv(c:Tc):List Expr->Option (List Nat)
 |[]=>some []
 |.Name x _::es=>(wW c x).bind λi=>(Yv c es).bind λjs=>some (i::js)
 |_::_=>none
def Xf(c:Tc):Expr->Option (List Nat×gH)
 |.Name x _=>(wW c x).bind λi=>some ([i],aF i)
 |.Tuple es _ _=>(Yv c es).bind λjs=>some (js,bF js)
 |_=>none
theorem Vo{aj:aQ}{c:Tc}{X:Cx}{W:WX}{k:Nat}(a:Amb aj c X W k):∀{es:List Expr} {js:List Nat},Yv c es=some js->Tp X es js
 |[],js,h=>by cases h;trivial
 |.Name x p::es,js,h=>by
  rw[Yv]at h;obtain⟨i,h1,h⟩:=asu.mp h;obtain⟨r,h2,h⟩:=asu.mp h;cases h;obtain⟨s1,s2,s3⟩:=oR a h1;exact⟨s1,s2,s3,Vo a h2⟩
theorem wu{aj:aQ}{c:Tc}{X:Cx}{W:WX}{k:Nat}(a:Amb aj c X W k){e:Expr}{js:List Nat}{f:gH}(h:Xf c e=some (js,f)):QG aj X e js f:=by
 unfold Xf at h;split at h
 .obtain⟨i,h1,h⟩:=asu.mp h;cases h;obtain⟨s1,s2,s3⟩:=oR a h1;exact UJ a.nd s1 s2 s3
 .obtain⟨js',h1,h⟩:=asu.mp h;cases h;exact aed a.calm a.nd (Vo a h1)
 .cases h
def Tc.inn(c:Tc)(scope:Scope):Tc:={ c with sc:=relS scope c.sc,top:=false }
theorem Amb.inn{aj:aQ}{c:Tc}{X:Cx}{W:WX}{k:Nat}(a:Amb aj c X W k)(scope:Scope)(s:Shared)(H:Hp)(C:Addr)(cl:List (Str×Addr))(fp:List Addr):Amb aj (c.inn scope) (X.blk s H scope (compEnvC scope cl C X.env) fp) WF k where
 hN:=a.hN
 hs:=by show relS scope X.env.scope=relS scope c.sc;rw[a.hs]
 calm:=a.calm
 nd:=a.nd
 tk:=akC
 rm:=a.rm
 gl:=a.gl
 bl:=a.bl
 fn:=λz=>nomatch z
 hk:=a.hk
def Qa:List Expr->List Nat->List (Str×Nat)
 |.Name x _::es,j::js=>(x,j)::Qa es js
 |_,_=>[]
def qQ:Expr->List Nat->List (Str×Nat)
 |.Name x _,[j]=>[(x,j)]
 |.Tuple es _ _,js=>Qa es js
 |_,_=>[]
def Rg(js vs:List Nat):Bool:=js.all λj=>vs.contains j
theorem qO{js vs:List Nat}(h:Rg js vs=true):∀j∈js,j∈vs:=λj hj=>by
 have:=asV.mp h j hj;simpa using this
def U3(t:Tr)(c:Tc):List Expr->Option QT
 |[]=>some jL
 |[a]=>t.T c a
 |_=>none
theorem PTs.weak{X:Cx}{e:List Expr}{t t':TT}(h:PTs X e t)(k:∀σ H Q,t' σ H Q->t σ H Q):PTs X e t':=⟨λpins s σ H Q I q=>h.run pins s σ H Q I (k σ H Q q)⟩
theorem xY{aj:aQ}{c:Tc}{X:Cx}{W:WX}{k:Nat}{t:Tr}(o:t.Ok)(a:Amb aj c X W k){ifs:List Expr}{f:QT}(h:U3 t c ifs=some f):PTs X ifs (lQ X.K aj W f):=by
 unfold U3 at h;split at h
 .cases h;exact PTs.weak pts_nil λσ H Q ⟨g,Z,M,I,z⟩=>z H (Ex.refl H)
 .exact pts_one (o.ot a h)
 .cases h
def aaE(t:Tr)(c:Tc)(elt tg iter:Expr)(ifs:List Expr)(scope:Scope):Option QF:=
 (t.I c false tg iter).bind λit=>(Xf (c.inn scope) tg).bind λjt=>(U3 t (c.inn scope) ifs).bind λtt=>(t.E (c.inn scope) elt).bind λte=>
  gd (blkC c.N c.sc scope (qQ tg jt.1)&&(Rg jt.1 ((qQ tg jt.1).map (·.2))&&!z7 iter)) (some (fX it jt.2 ((qQ tg jt.1).map (·.2)) tt te))
theorem abT{aj:aQ}{c:Tc}{X:Cx}{W:WX}{k:Nat}{t:Tr}(o:t.Ok)(a:Amb aj c X W k){elt tg iter:Expr}{ifs:List Expr}{scope:Scope}{pos:Pos}{f:QF}(h:aaE t c elt tg iter ifs scope=some f):QE aj X W (.ListComp elt [⟨tg,iter,ifs,0⟩] scope pos) f:=by unfold aaE at h;obtain⟨it,h1,h⟩:=asu.mp h;obtain⟨⟨js,tf⟩,h2,h⟩:=asu.mp h;obtain⟨tt,h3,h⟩:=asu.mp h;obtain⟨te,h4,h⟩:=asu.mp h;obtain⟨hb,h⟩:=aP.mp h;cases h;simp only[asw,asO]at hb;obtain⟨b1,b2,b3⟩:=hb;exact anF a.calm a.nd (o.oi a h1) (by rw[a.hN,a.hs];exact b1) (qO b2) (λs H C cl fp=>wu (a.inn scope s H C cl fp) h2) (λs H C cl fp=>xY o (a.inn scope s H C cl fp) h3) (λs H C cl fp=>o.oe (a.inn scope s H C cl fp) h4) (tK b3)
def YD(t:Tr)(c:Tc)(x:Str)(e:Expr)(es:List Expr):Option QF:=match c.G.lookup x with
 |some (.fq n m)=>(KN t c (e::es)).bind λas=>gd (xX c.sc x&&(!wF x&&decide ((e::es).length=n))) (some (aU m as))
 |some _=>none
 |none=>match es with
  |[]=>(b1D x).bind λo=>(t.W c e).bind λfa=>gd (vX c x x&&nst e) (some (fj o fa))
  |[.Name y p]=>match x=="isinstance" with
   |true=>(tyN y).bind λty=>(t.W c e).bind λfa=>gd (vX c x x&&(vX c y y&&nst e)) (some (uK ty fa))
   |false=>(b2D x).bind λo=>(t.W c e).bind λfa=>(t.W c (.Name y p)).bind λfb=>gd (vX c x x&&nst e) (some (aA o fa fb))
  |[e2]=>(b2D x).bind λo=>(t.W c e).bind λfa=>(t.W c e2).bind λfb=>gd (vX c x x&&(nst e&&nst e2)) (some (aA o fa fb))
  |_=>none
theorem aeC{aj:aQ}{c:Tc}{X:Cx}{W:WX}{k:Nat}{x:Str}{o:Dat->Dat->Out Dat}{a b:Expr}{fa fb:QF}{p pos:Pos}(am:Amb aj c X W k)(h:b2D x=some o)(hg:vX c x x=true)(ha:QW aj X W a fa)(hb:QW aj X W b fb)(hs:nst a=true)(hs2:nst b=true):QE aj X W (.Call (.Name x p) [a,b] [] pos) (aA o fa fb):=by obtain⟨f,id,r,hf,hc,ho,hv⟩:=amn am.calm h aj W;obtain⟨_,hg,hm⟩:=pJ am hg;exact amB hf hc ho hg hm hv ha hb hs hs2
theorem adx{aj:aQ}{c:Tc}{X:Cx}{W:WX}{k:Nat}{t:Tr}(o:t.Ok)(a:Amb aj c X W k){x:Str}{e:Expr}{es:List Expr}{p pos:Pos}{f:QF}(h:YD t c x e es=some f):QE aj X W (.Call (.Name x p) (e::es) [] pos) f:=by
 unfold YD at h;split at h
 .next n m hl=>
  obtain⟨as,h1,h⟩:=asu.mp h;obtain⟨hb,h⟩:=aP.mp h;cases h;simp only[asw,asO,atY]at hb;obtain⟨b1,b2,b3⟩:=hb;obtain⟨fa,hm,hk,fd,ps,j,hj,hp,hB,F⟩:=a.gl x _ hl;obtain⟨i1,i2,i3⟩:=wz o a h1;exact aiw (passAt (a.tw hl rfl)) F (a.rm.mono hj) (oX a b1) hm hk hB i1 (b3.trans hp.symm) (jK b2).1 i2 i3
 .cases h
 .split at h
  .obtain⟨o1,h1,h⟩:=asu.mp h;obtain⟨fa,h2,h⟩:=asu.mp h;obtain⟨hb,h⟩:=aP.mp h;cases h;rw[asw]at hb;obtain⟨f,id,r,hf,hc,ho,hv⟩:=aj3 a.calm h1 aj W;obtain⟨_,hg,hm⟩:=pJ a hb.1;exact ahx hf hc ho hg hm hv (o.ow a h2) hb.2
  .split at h
   .next ex=>
    obtain⟨ty,h1,h⟩:=asu.mp h;obtain⟨fa,h2,h⟩:=asu.mp h;obtain⟨hb,h⟩:=aP.mp h;cases h;simp only[asw]at hb;obtain⟨b1,b2,b3⟩:=hb;obtain⟨_,hg,hm⟩:=pJ a b1;obtain⟨_,hg2,hm2⟩:=pJ a b2;cases at8 ex;exact akp hg hm ⟨by decide +kernel,by decide,by decide⟩ hg2 hm2 (ako h1) (o.ow a h2) b3
   .obtain⟨o1,h1,h⟩:=asu.mp h;obtain⟨fa,h2,h⟩:=asu.mp h;obtain⟨fb,h3,h⟩:=asu.mp h;obtain⟨hb,h⟩:=aP.mp h;cases h;rw[asw]at hb;exact aeC a h1 hb.1 (o.ow a h2) (o.ow a h3) hb.2 rfl
  .obtain⟨o1,h1,h⟩:=asu.mp h;obtain⟨fa,h2,h⟩:=asu.mp h;obtain⟨fb,h3,h⟩:=asu.mp h;obtain⟨hb,h⟩:=aP.mp h;cases h;simp only[asw]at hb;exact aeC a h1 hb.1 (o.ow a h2) (o.ow a h3) hb.2.1 hb.2.2
  .cases h
def stE(t:Tr)(c:Tc):Expr->Option QF
 |.Name x _=>(match Mp c x with
  |some i=>some (aq i)
  |none=>match c.G.lookup x with
   |some (.con d)=>gd (xX c.sc x&&!wF x) (some (qC d))
   |_=>none)
 |.Constant (.int i) _ _=>some (qC (.int i))
 |.Constant (.str x) _ _=>some (qC (.str x))
 |.Constant (.bool x) _ _=>some (qC (.bool x))
 |.Constant .none _ _=>some (qC .none)
 |.BinOp a op b _=>(akZ op).bind λo=>(t.W c a).bind λfa=>(t.W c b).bind λfb=>some (aA o fa fb)
 |.UnaryOp .USub a _=>(t.W c a).bind λfa=>some (fj U4 fa)
 |.UnaryOp .Not a _=>(t.W c a).bind λfa=>some (Rp fa)
 |.BoolOp _ [a] _=>t.E c a
 |.BoolOp .And (a::b::r) p=>(t.E c a).bind λfa=>(t.E c (.BoolOp .And (b::r) p)).bind λfb=>some (z9 fa fb)
 |.BoolOp .Or (a::b::r) p=>(t.E c a).bind λfa=>(t.E c (.BoolOp .Or (b::r) p)).bind λfb=>some (agR fa fb)
 |.Compare a [op] [b] _=>(match isN op with
  |some neg=>(V3 b).bind λd=>(t.W c a).bind λfa=>some (Cv neg d fa)
  |none=>(Rh op).bind λo=>(t.W c a).bind λfa=>(t.W c b).bind λfb=>gd (!z7 b) (some (aA o fa fb)))
 |.Compare a [op,op'] [b,b2] _=>(Rh op).bind λo=>(Rh op').bind λo'=>(t.W c a).bind λfa=>(t.W c b).bind λfb=>(t.W c b2).bind λfc=>gd (!z7 b2) (some (Wg (mj o o' fa fb fc)))
 |.IfExp d a b _=>(t.T c d).bind λta=>(t.E c a).bind λfa=>(t.E c b).bind λfb=>some (Ud ta fa fb)
 |.Tuple es _ _=>(KN t c es).bind λfr=>some (bA fr)
 |.List es _=>(KN t c es).bind λfr=>some (qY fr)
 |.Subscript a b _=>(match b with
  |.Slice lo hi none _=>(t.W c a).bind λfa=>(trO t c lo).bind λfl=>(trO t c hi).bind λfh=>some (pZ fa fl fh)
  |b=>gd (!Ze b) ((t.W c a).bind λfa=>(t.W c b).bind λfb=>some (aA aY fa fb)))
 |.ListComp elt [⟨tg,iter,ifs,0⟩] scope _=>aaE t c elt tg iter ifs scope
 |.Call (.Name x _) (e::es) [] _=>YD t c x e es
 |_=>none
def stW(t:Tr)(c:Tc):Expr->Option QF
 |.Name x p=>(match Mp c x with
  |some i=>some (ao i)
  |none=>t.E c (.Name x p))
 |e=>t.E c e
def valT:Expr->Bool
 |.UnaryOp .Not _ _=>false
 |.BoolOp _ _ _=>false
 |.IfExp _ _ _ _=>false
 |.Compare _ _ _ _=>false
 |_=>true
theorem abh{e:Expr}{env:PySem.Env}(h:valT e=true):∀whole,isTrue e env whole=(do let v <-whole;standAt e.pos;holding [v] (truthy v)):=λwhole=>by
 cases e with
 | UnaryOp o a p=>cases o<;>first | (with_unfolding_all rfl) | cases h
 |BoolOp _ _ _=>cases h
 |IfExp _ _ _ _=>cases h
 |Compare _ _ _ _=>cases h
 |_=>with_unfolding_all rfl
def stT(t:Tr)(c:Tc):Expr->Option QT
 |.UnaryOp .Not a _=>(t.T c a).bind λta=>some (iz ta)
 |.BoolOp _ [a] _=>t.T c a
 |.BoolOp .And (a::b::r) p=>(t.T c a).bind λta=>(t.T c (.BoolOp .And (b::r) p)).bind λtb=>some (lJ ta tb)
 |.BoolOp .Or (a::b::r) p=>(t.T c a).bind λta=>(t.T c (.BoolOp .Or (b::r) p)).bind λtb=>some (Eh ta tb)
 |.Compare a [op] [b] _=>(match isN op with
  |some neg=>(V3 b).bind λd=>(t.W c a).bind λfa=>some (aW (Cv neg d fa))
  |none=>(Rh op).bind λo=>(t.W c a).bind λfa=>(t.W c b).bind λfb=>gd (!z7 b) (some (aW (aA o fa fb))))
 |.Compare a [op,op'] [b,b2] _=>(Rh op).bind λo=>(Rh op').bind λo'=>(t.W c a).bind λfa=>(t.W c b).bind λfb=>(t.W c b2).bind λfc=>gd (!z7 b2) (some (mj o o' fa fb fc))
 |e=>gd (valT e) ((t.W c e).bind λfa=>some (iJ fa))
def trF(t:Tr)(c:Tc)(firm:Bool)(e:Expr):Option QF:=match firm with
 |true=>t.E c e
 |false=>t.W c e
def isTup:Expr->Bool
 |.Tuple _ _ _=>true
 |_=>false
def stI(t:Tr)(c:Tc)(firm:Bool)(tg:Expr):Expr->Option IF
 |.Call (.Name x p) [a] [] pos=>(match vX c x "range" with
  |true=>(t.W c a).bind λfa=>gd (nst a) (some (Ji fa))
  |false=>match vX c x "enumerate" with
   |true=>(trF t c firm a).bind λfa=>gd (nst a&&isTup tg) (some (yC 0 fa))
   |false=>(trF t c firm (.Call (.Name x p) [a] [] pos)).bind λfa=>some (dG fa))
 |.Call (.Name x p) [a,b] [] pos=>(match vX c x "range" with
  |true=>(t.W c a).bind λfa=>(t.W c b).bind λfb=>gd (nst a&&nst b) (some (Dg fa fb))
  |false=>match vX c x "zip" with
   |true=>(trF t c firm a).bind λfa=>(trF t c firm b).bind λfb=>gd (nst a&&(nst b&&isTup tg)) (some (Kh fa fb))
   |false=>(trF t c firm (.Call (.Name x p) [a,b] [] pos)).bind λfa=>some (dG fa))
 |.Call (.Name x p) [a] [⟨some kw,.Constant (.int i) j kp,kp2⟩] pos=>gd (vX c x "enumerate"&&(kw=="start"&&(decide (-(2^63)<=i/\i<2^63)&&(nst a&&isTup tg)))) ((trF t c firm a).bind λfa=>some (yC i fa))
 |e=>(trF t c firm e).bind λfa=>some (dG fa)
theorem aaC{b:Expr}(h:(!Ze b)=true):PlainIx b:=λv i=>by
 cases b<;>first | rfl | cases h
section
variable{aj:aQ}{c:Tc}{X:Cx}{W:WX}{k:Nat}{t:Tr}
theorem ak3(o:t.Ok)(a:Amb aj c X W k){e:Expr}{f:QF}(h:stE t c e=some f):QE aj X W e f:=by
 unfold stE at h;split at h
 .split at h
  .next i hi=>
   cases h;obtain⟨s1,s2,s3,s4⟩:=Ak a hi;exact ake s1 s2 s3 s4
  .split at h
   .next d hl=>
    obtain⟨hb,h⟩:=aP.mp h;cases h;simp only[asw,asO]at hb;obtain⟨v,u,h1,h2,h3,_⟩:=a.gl _ _ hl;exact PE.weak (pe_glob (oX a hb.1) h1 h2 (jK hb.2).1) λσ H Q ⟨g,Z,M,I,z⟩=>z v H (Ex.refl H) (h3 g H)
   .cases h
 .cases h;exact alF
 .cases h;exact ak1
 .cases h;exact ano
 .cases h;exact akv
 .obtain⟨op,h1,h⟩:=asu.mp h;obtain⟨fa,h2,h⟩:=asu.mp h;obtain⟨fb,h3,h⟩:=asu.mp h;cases h;obtain⟨r,r1,r2⟩:=ajq h1 X aj W;exact ajK r1 r2 (o.ow a h2) (o.ow a h3)
 .obtain⟨fa,h2,h⟩:=asu.mp h;cases h;exact amm (o.ow a h2)
 .obtain⟨fa,h2,h⟩:=asu.mp h;cases h;exact ajs (o.ow a h2)
 .exact pe_one (o.oe a h)
 .obtain⟨fa,h2,h⟩:=asu.mp h;obtain⟨fb,h3,h⟩:=asu.mp h;cases h;exact ajE (o.oe a h2) (o.oe a h3)
 .obtain⟨fa,h2,h⟩:=asu.mp h;obtain⟨fb,h3,h⟩:=asu.mp h;cases h;exact al8 (o.oe a h2) (o.oe a h3)
 .split at h
  .next neg hn=>
   obtain⟨d,h1,h⟩:=asu.mp h;obtain⟨fa,h2,h⟩:=asu.mp h;cases h;obtain⟨v,v1,v2,v3⟩:=abf (X:=X) h1;refine anf v1 (aek hn v2) (o.ow a h2) v3 (EY ?_);unfold V3 at h1;split at h1<;>first | rfl | cases h1
  .obtain⟨op,h1,h⟩:=asu.mp h;obtain⟨fa,h2,h⟩:=asu.mp h;obtain⟨fb,h3,h⟩:=asu.mp h;obtain⟨hb,h⟩:=aP.mp h;cases h;obtain⟨r,r1,r2⟩:=Dq h1 a.rm aj W;exact aic r1 r2 (o.ow a h2) (o.ow a h3) (EY (by simpa using hb))
 .obtain⟨op,h1,h⟩:=asu.mp h;obtain⟨op',h1',h⟩:=asu.mp h;obtain⟨fa,h2,h⟩:=asu.mp h;obtain⟨fb,h3,h⟩:=asu.mp h;obtain⟨fc,h4,h⟩:=asu.mp h;obtain⟨hb,h⟩:=aP.mp h;cases h;obtain⟨r,r1,r2⟩:=Dq h1 a.rm aj W;obtain⟨r',r1',r2'⟩:=Dq h1' a.rm aj W;exact agX r1 r1' r2 r2' (o.ow a h2) (o.ow a h3) (o.ow a h4) (Ww (by simpa using hb))
 .obtain⟨ta,h1,h⟩:=asu.mp h;obtain⟨fa,h2,h⟩:=asu.mp h;obtain⟨fb,h3,h⟩:=asu.mp h;cases h;exact af7 (o.ot a h1) (o.oe a h2) (o.oe a h3)
 .obtain⟨fr,h1,h⟩:=asu.mp h;cases h;exact akt (wz o a h1).1
 .obtain⟨fr,h1,h⟩:=asu.mp h;cases h;exact alR (wz o a h1).1
 .split at h
  .obtain⟨fa,h1,h⟩:=asu.mp h;obtain⟨fl,h2,h⟩:=asu.mp h;obtain⟨fh,h3,h⟩:=asu.mp h;cases h;exact amV (o.ow a h1) (ae7 o a h2) (ae7 o a h3)
  .obtain⟨hb,h⟩:=aP.mp h;obtain⟨fa,h1,h⟩:=asu.mp h;obtain⟨fb,h2,h⟩:=asu.mp h;cases h;exact ana (o.ow a h1) (o.ow a h2) (aaC hb)
 .exact abT o a h
 .exact adx o a h
 .cases h
theorem aj5(o:t.Ok)(a:Amb aj c X W k){e:Expr}{f:QF}(h:stW t c e=some f):QW aj X W e f:=by
 unfold stW at h;split at h
 .split at h
  .next i hi=>
   cases h;obtain⟨s1,s2,s3,s4⟩:=Ak a hi;exact al3 s1 s2 s3 s4
  .exact(o.oe a h).w
 .exact(o.oe a h).w
theorem akH{a b:Expr}{rest:List Expr}{ta tb:QT}{pos:Pos}(ha:uE aj X W a ta)(hb:uE aj X W (.BoolOp .And (b::rest) pos) tb):uE aj X W (.BoolOp .And (a::b::rest) pos) (lJ ta tb):=by have hb':QWt aj X W (.BoolOp .And (b::rest) pos) tb:=⟨λwh pins s σ H Q I q=>hb.run pins s σ H Q I q⟩;exact PW.pt (al0 ha hb')
theorem amR{a b:Expr}{rest:List Expr}{ta tb:QT}{pos:Pos}(ha:uE aj X W a ta)(hb:uE aj X W (.BoolOp .Or (b::rest) pos) tb):uE aj X W (.BoolOp .Or (a::b::rest) pos) (Eh ta tb):=by have hb':QWt aj X W (.BoolOp .Or (b::rest) pos) tb:=⟨λwh pins s σ H Q I q=>hb.run pins s σ H Q I q⟩;exact PW.pt (anz ha hb')
theorem akn(o:t.Ok)(a:Amb aj c X W k){e:Expr}{f:QT}(h:stT t c e=some f):uE aj X W e f:=by
 unfold stT at h;split at h
 .obtain⟨ta,h1,h⟩:=asu.mp h;cases h;exact ame (o.ot a h1)
 .next op _ _=>
  cases op
  .exact PW.pt (pw_and1 (o.ot a h))
  .exact PW.pt (pw_or1 (o.ot a h))
 .obtain⟨ta,h1,h⟩:=asu.mp h;obtain⟨tb,h2,h⟩:=asu.mp h;cases h;exact akH (o.ot a h1) (o.ot a h2)
 .obtain⟨ta,h1,h⟩:=asu.mp h;obtain⟨tb,h2,h⟩:=asu.mp h;cases h;exact amR (o.ot a h1) (o.ot a h2)
 .split at h
  .next neg hn=>
   obtain⟨d,h1,h⟩:=asu.mp h;obtain⟨fa,h2,h⟩:=asu.mp h;cases h;obtain⟨v,v1,v2,v3⟩:=abf (X:=X) h1;refine amM v1 (aek hn v2) (o.ow a h2) v3 (EY ?_);unfold V3 at h1;split at h1<;>first | rfl | cases h1
  .obtain⟨op,h1,h⟩:=asu.mp h;obtain⟨fa,h2,h⟩:=asu.mp h;obtain⟨fb,h3,h⟩:=asu.mp h;obtain⟨hb,h⟩:=aP.mp h;cases h;obtain⟨r,r1,r2⟩:=Dq h1 a.rm aj W;exact alq r1 r2 (o.ow a h2) (o.ow a h3) (EY (by simpa using hb))
 .obtain⟨op,h1,h⟩:=asu.mp h;obtain⟨op',h1',h⟩:=asu.mp h;obtain⟨fa,h2,h⟩:=asu.mp h;obtain⟨fb,h3,h⟩:=asu.mp h;obtain⟨fc,h4,h⟩:=asu.mp h;obtain⟨hb,h⟩:=aP.mp h;cases h;obtain⟨r,r1,r2⟩:=Dq h1 a.rm aj W;obtain⟨r',r1',r2'⟩:=Dq h1' a.rm aj W;exact agO r1 r1' r2 r2' (o.ow a h2) (o.ow a h3) (o.ow a h4) (Ww (by simpa using hb))
 .obtain⟨hv,h⟩:=aP.mp h;obtain⟨fa,h1,h⟩:=asu.mp h;cases h;exact ajY (o.ow a h1) (abh hv)
theorem Ef(o:t.Ok)(a:Amb aj c X W k){firm:Bool}{e:Expr}{f:QF}(h:trF t c firm e=some f):QF' aj X W firm e f:=by
 cases firm
 .exact o.ow a h
 .exact o.oe a h
theorem QV{e:Expr}(h:isTup e=true):∃es j p,e=.Tuple es j p:=by cases e<;>first | exact⟨_,_,_,rfl⟩ | cases h
theorem ak9(o:t.Ok)(a:Amb aj c X W k){firm:Bool}{tg e:Expr}{f:IF}(h:stI t c firm tg e=some f):QI aj X W firm tg e f:=by
 unfold stI at h;split at h
 .split at h
  .next hb=>
   obtain⟨fa,h1,h⟩:=asu.mp h;obtain⟨hs,h⟩:=aP.mp h;cases h;obtain⟨rfl,hg,hm⟩:=pJ a hb;exact aeV hg hm (o.ow a h1) hs
  .split at h
   .next hb=>
    obtain⟨fa,h1,h⟩:=asu.mp h;obtain⟨hs,h⟩:=aP.mp h;cases h;obtain⟨rfl,hg,hm⟩:=pJ a hb;rw[asw]at hs;obtain⟨es,j,p,rfl⟩:=QV hs.2;exact aiF hg hm (Ef o a h1) hs.1
   .obtain⟨fa,h1,h⟩:=asu.mp h;cases h;exact YC (Ef o a h1)
 .split at h
  .next hb=>
   obtain⟨fa,h1,h⟩:=asu.mp h;obtain⟨fb,h2,h⟩:=asu.mp h;obtain⟨hs,h⟩:=aP.mp h;cases h;obtain⟨rfl,hg,hm⟩:=pJ a hb;rw[asw]at hs;exact ae8 hg hm (o.ow a h1) (o.ow a h2) hs.1 hs.2
  .split at h
   .next hb=>
    obtain⟨fa,h1,h⟩:=asu.mp h;obtain⟨fb,h2,h⟩:=asu.mp h;obtain⟨hs,h⟩:=aP.mp h;cases h;obtain⟨rfl,hg,hm⟩:=pJ a hb;simp only[asw]at hs;obtain⟨es,j,p,rfl⟩:=QV hs.2.2;exact amx hg hm (Ef o a h1) (Ef o a h2) hs.1 hs.2.1
   .obtain⟨fa,h1,h⟩:=asu.mp h;cases h;exact YC (Ef o a h1)
 .obtain⟨hs,h⟩:=aP.mp h;obtain⟨fa,h1,h⟩:=asu.mp h;cases h;simp only[asw,atY]at hs;obtain⟨hb,hk,hi,hn,ht⟩:=hs;obtain⟨rfl,hg,hm⟩:=pJ a hb;cases at8 hk;obtain⟨es,j,p,rfl⟩:=QV ht;exact afU hi.1 hi.2 hg hm (Ef o a h1) hn
 .obtain⟨fa,h1,h⟩:=asu.mp h;cases h;exact YC (Ef o a h1)
end
def strsOf:List Dat->Option (List Str)
 |[]=>some []
 |.str x::r=>(strsOf r).map (x::·)
 |_::_=>none
theorem JV{K:asv}{g:Gh}{H:Hp}:∀{us:List V} {ds:List Dat} {ns:List Str},aJ K g H us ds->strsOf ds=some ns->us=ns.map V.str
 |_,_,ns,.nil,e=>by cases e;rfl
 |_,_,ns,.cons (d:=d) (ds:=ds) h t,e=>by
  cases d with
  |str i=>
   rw[strsOf]at e;cases hr:strsOf ds with
   |none=>rw[hr]at e;cases e
   |some r=>
    rw[hr]at e;cases e;cases h;rw[JV t hr];rfl
  |_=>cases e
theorem Xk{K:asv}{g:Gh}{H:Hp}:∀ys:List Str,aJ K g H (ys.map V.str) (ys.map PyData.str)
 |[]=>.nil
 |y::ys=>.cons (.str y) (Xk ys)
def R9(o:Str->Dat->Out Dat)(a b:QF):QF:=λM Z=>(a M Z).bind λx=>match x with
 |.str z=>(b M Z).bind (o z)
 |_=>.bad
def afW(o:Str->Dat->Dat->Out Dat)(a b c:QF):QF:=λM Z=>(a M Z).bind λx=>match x with
 |.str z=>(b M Z).bind λy=>(c M Z).bind (o z y)
 |_=>.bad
def qLM(o:List Dat->Dat->Out Dat)(a b:QF):QF:=λM Z=>(a M Z).bind λx=>match x with
 |.list ds=>(b M Z).bind (o ds)
 |_=>.bad
def Ol(x:Str):Dat->Out Dat
 |.list ds=>match strsOf ds with
  |some ys=>Out.when (decide ((ys.map λy=>y.length).sum+ys.length*x.length<=16777216)) (.ok (.str (Txt.join x ys)))
  |none=>.bad
 |_=>.bad
def Za(x:Str):Dat->Out Dat
 |.str y=>Out.when (!(y.length==0)&&decide (x.length+2<=100000)) (.ok (.list ((Txt.split x y).map .str)))
 |_=>.bad
def adk(x:Str):Dat->Out Dat
 |.str y=>Out.when (!(y.length==0)&&decide (x.length<=100000)) (.ok (.tuple [.str (Txt.partition x y).1,.str (Txt.partition x y).2.1,.str (Txt.partition x y).2.2]))
 |_=>.bad
def Vu(x:Str):Dat->Dat->Out Dat
 |.str y,.int k=>Out.when (!(y.length==0)&&(decide (-100000<=k)&&(decide (k<=100000)&&decide (x.length+2<=100000)))) (.ok (.list ((Txt.splitMax x y k).map .str)))
 |_,_=>.bad
def Ay(ds:List Dat)(d:Dat):Out Dat:=Out.when (Im d&&ds.all Im) (match ds.findIdx? λz=>PyData.eqv z d with
 |some j=>.ok (.int (j:Nat))
 |none=>.bad)
def Vj(ds:List Dat)(d:Dat):Out Dat:=match strsOf ds,d with
 |some ys,.str z=>(match ys.findIdx? λy=>y==z with
  |some j=>.ok (.int (j:Nat))
  |none=>.bad)
 |_,_=>.bad
section
variable{X:Cx}{aj:aQ}{W:WX}{a b c:Expr}{fa fb fc:QF}{pos apos:Pos}{k:Nat}
theorem acs{e:Expr}{r:V->List V->Hp->VK->Prop}{o:Str->Dat->Out Dat}(key:PE X e (tM1 r (tW X.K aj W fa) (tW X.K aj W fb)))
  (ho:∀(σ:L2.St) (g:Gh) (H:Hp) (z:Str) (y:V) (d:Dat) (Q:VK),Kd g H->dZ X.K g H y d->(o z d).sat (λt=>∀v H',Ex H H'->Rep X.K g H' v t->Q v H') (rB X.K aj W g H σ)->r (.str z) [y] H Q):QE aj X W e (R9 o fa fb):=
 PE.weak key λσ H Q ⟨g,Z,M,I,h⟩=>by
  refine tW.go I h.bnd λd v H1 h1 e1 r1=>?_;have I1:=I.ex e1;cases d with
  |str z=>
   refine⟨⟨z,fV r1⟩,?_⟩;refine tW.go I1 (h1.bnd.mono (λ_ z=>z) λ_ z=>z.ex e1) λd2 v2 H2 h2 e2 r2=>?_;rw[fV r1];exact ho σ g H2 z v2 d2 Q (I1.ex e2).kd r2 (h2.mono (λt ht u H' e' r'=>ht u H' ((e1.trans e2).trans e') r') λ_ z=>(z.ex e1).ex e2)
  |_=>exact atX h1
theorem aip(ha:QW aj X W a fa)(hb:QW aj X W b fb)(hs:nst b=true)(hbs:baseOk a=true)(hl:(apos.endLine==pos.line)=true):QE aj X W (.Call (.Attribute a "join" apos) [b] [] pos) (R9 Ol fa fb):=
 acs (pe_join ha hb (bQ hs []) (iU hbs) hl) λσ g H z y d Q kd r h=>by
  unfold Ol at h;split at h
  .next ds=>
   split at h
   .next ys hy=>
    obtain⟨hz,h⟩:=h.lE;obtain⟨p,us,rfl,h1,h2⟩:=iZ r;have:=JV h2 hy;subst this;exact⟨z,p,ys,rfl,rfl,.inl h1,atZ hz,h _ H (Ex.refl H) (.str _)⟩
   .exact atX h
  .exact atX h
theorem Yo{g:Gh}{H:Hp}{ys:List Str}{Q:VK}(kd:Kd g H)(h:∀v H',Ex H H'->Rep X.K g H' v (.list (ys.map .str))->Q v H'):rNewStrs ys H Q:=λp np=>h _ _ (Ex.new np) (.lst (.inl ⟨at7,kd.fresh np⟩) (Xk ys))
theorem agy(ha:QW aj X W a fa)(hb:QW aj X W b fb)(hs:nst b=true)(hbs:baseOk a=true)(hl:(apos.endLine==pos.line)=true):QE aj X W (.Call (.Attribute a "split" apos) [b] [] pos) (R9 Za fa fb):=
 acs (pe_split ha hb (bQ hs []) (iU hbs) hl) λσ g H z y d Q kd r h=>by
  unfold Za at h;split at h
  .next w=>
   obtain⟨hz,h⟩:=h.lE;simp only[asw,asO,atY]at hz;cases fV r;exact⟨z,w,rfl,rfl,hz.1,sz_of hz.2,Yo kd h⟩
  .exact atX h
theorem ajm(ha:QW aj X W a fa)(hb:QW aj X W b fb)(hs:nst b=true)(hbs:baseOk a=true)(hl:(apos.endLine==pos.line)=true):QE aj X W (.Call (.Attribute a "partition" apos) [b] [] pos) (R9 adk fa fb):=
 acs (pe_partition ha hb (bQ hs []) (iU hbs) hl) λσ g H z y d Q kd r h=>by
  unfold adk at h;split at h
  .next w=>
   obtain⟨hz,h⟩:=h.lE;simp only[asw,asO,atY]at hz;cases fV r;exact⟨z,w,rfl,rfl,hz.1,sz_of hz.2,λp np=>h _ _ (Ex.new np) (.tup (st_of at7) (.cons (.str _) (.cons (.str _) (.cons (.str _) .nil))))⟩
  .exact atX h
theorem aeu(ha:QW aj X W a fa)(hb:QW aj X W b fb)(hc:QW aj X W c fc)(hs:[b,c].all nst=true)(hbs:baseOk a=true)(hl:(apos.endLine==pos.line)=true):QE aj X W (.Call (.Attribute a "split" apos) [b,c] [] pos) (afW Vu fa fb fc):=by
 have hs2:=hs;simp only[atc,List.all_nil,Bool.and_true,asw]at hs2;refine PE.weak (pe_bm (T:="str") PySem.F.plainAttrs_str PySem.F.slot_str_split PySem.F.type_str_split mt_splitMax ha (pa_cons hb (pa_cons hc pa_nil (bQ hs2.2 [])) (bQ hs2.1 [c])) (iU hbs) ?_ hl (bQ hs2.1 [c]) (star_any [c] (by simp[hs2.2]))) λσ H Q ⟨g,Z,M,I,h⟩=>?_
 .rw[Ei _ hs];rfl
 .refine tW.go I h.bnd λd v H1 h1 e1 r1=>?_;have I1:=I.ex e1;cases d with
  |str z=>
   rw[fV r1];refine⟨rfl,?_⟩;refine tW.go I1 (h1.bnd.mono (λ_ z=>z) λ_ z=>z.ex e1) λd2 v2 H2 h2 e2 r2=>?_;have I2:=I1.ex e2;refine tW.go I2 (h2.bnd.mono (λ_ z=>z) λ_ z=>(z.ex e1).ex e2) λd3 v3 H3 h3 e3 r3=>?_;unfold Vu at h3;split at h3
   .next y k=>
    obtain⟨hz,h3⟩:=h3.lE;simp only[asw,asO,atY]at hz;cases fV r2;cases cG r3;exact⟨z,y,k,rfl,rfl,hz.1,by omega,by omega,sz_of hz.2.2.2,Yo (I2.ex e3).kd λv H' e' r'=>h3 v H' (((e1.trans e2).trans e3).trans e') r'⟩
   .exact atX h3
  |_=>exact atX h1
theorem ab4{α:Type}{p:α->Bool}{l:List α}{j:Nat}(h:l.findIdx? p=some j):∃z,l[j]?=some z/\p z=true/\∀m z',m<j->l[m]?=some z'->p z'=false:=by
 rw[List.findIdx?_eq_some_iff_getElem]at h;obtain⟨h1,h2,h3⟩:=h;refine⟨l[j],asz h1,h2,λm z' hm e=>?_⟩;have hl:m<l.length:=by omega
 rw[asz hl]at e;cases e;simpa using h3 m hm
theorem agj(ha:QW aj X W a fa)(hb:QW aj X W b fb)(hs:nst b=true)(hbs:baseOk a=true)(hl:(apos.endLine==pos.line)=true):QE aj X W (.Call (.Attribute a "index" apos) [b] [] pos) (qLM Ay fa fb):=by
 have hs1:[b].all nst=true:=by simp[hs]
 refine PE.weak (pe_bm (T:="list") PySem.F.plainAttrs_list PySem.F.slot_list_index PySem.F.type_list_index mt_index ha (pa_cons hb pa_nil (bQ hs [])) (iU hbs) ?_ hl (bQ hs []) (by with_unfolding_all rfl)) λσ H Q ⟨g,Z,M,I,h⟩=>?_
 .rw[Ei _ hs1];rfl
 .refine tW.go I h.bnd λd v H1 h1 e1 r1=>?_;have I1:=I.ex e1;cases d with
  |list ds=>
   obtain⟨p,us,rfl,q1,q2⟩:=iZ r1;refine⟨.inl ⟨rfl,us,q1⟩,?_⟩;refine tW.go I1 (h1.bnd.mono (λ_ z=>z) λ_ z=>z.ex e1) λd2 v2 H2 h2 e2 r2=>?_;unfold Ay at h2;obtain⟨hz,h2⟩:=h2.lE;rw[asw]at hz;have q2':=q2.ex e2 I1.kd;have r2':=acp hz.1 r2;split at h2
   .next j hj=>
    obtain⟨z,z1,z2,z3⟩:=ab4 hj;obtain⟨u,u1,u2⟩:=q2'.get z1;have fz:∀{m:Nat} {z:Dat},ds[m]?=some z->Im z=true:=λ{m z} e=>asV.mp hz.2 z (asH e);refine⟨p,us,v2,j,u,rfl,rfl,ex_l e2 q1,Q9 hz.1 r2',Nz hz.2 q2',u1,?_,λm z' hm e=>?_,h2 _ H2 (e1.trans e2) (.int _)⟩
    .rw[VH (fz z1) hz.1 u2 r2'];exact z2
    .obtain⟨d',k1,k2⟩:=q2'.get' e;rw[VH (fz k1) hz.1 k2 r2'];exact z3 m d' hm k1
   .exact atX h2
  |_=>exact atX h1
def agr(ds:List Dat)(b:QF):QF:=λM Z=>(b M Z).bind (Vj ds)
theorem afz{x:Str}{p:Pos}{ds:List Dat}(hg:bh X.prog X.w X.K X.mg X.base aj k x (.con (.tuple ds)))(hx:Gl X x)(hd:(x==("__debug__" : Str))=false)(hb:QW aj X W b fb)(hs:nst b=true)(hl:(apos.endLine==pos.line)=true):QE aj X W (.Call (.Attribute (.Name x p) "index" apos) [b] [] pos) (agr ds fb):=by
 obtain⟨v,u,g1,g2,g3,g4⟩:=hg;have hs1:[b].all nst=true:=by simp[hs]
 refine PE.weak (pe_bm (T:="tuple") PySem.F.plainAttrs_tuple PySem.F.slot_tuple_index PySem.F.type_tuple_index mt_tup_index (pe_glob hx g1 g2 hd) (pa_cons hb pa_nil (bQ hs [])) (iU rfl) ?_ hl (bQ hs []) (by with_unfolding_all rfl)) λσ H Q ⟨g,Z,M,I,h⟩=>?_
 .rw[Ei _ hs1];rfl
 .have r0:=g3 g λ_=>none;have rH:=g3 g;cases r0 with
  | @tup l us _ hq hr=>
   rcases hq with hq|hq
   .rcases hq with hq|⟨o,hq⟩<;>cases hq
   .refine⟨.inr (.inl ⟨rfl,g4 l ds rfl rfl⟩),?_⟩;refine tW.go I h.bnd λd2 v2 H2 h2 e2 r2=>?_;unfold Vj at h2;split at h2
    .next ys z hy=>
     split at h2
     .next j hj=>
      cases fV r2;obtain⟨y,y1,y2,y3⟩:=ab4 hj;have:=JV hr hy;subst this;cases at8 y2;refine⟨l,ys,z,j,rfl,rfl,.inr hq,y1,λm hm e=>?_,h2 _ H2 e2 (.int _)⟩;have:=y3 m z hm e;simp at this
     .exact atX h2
    .exact atX h2
def Uy:Dat->Out Str
 |.str y=>Out.when (decide (y.length<=100000)) (.ok y)
 |.int i=>Out.when (decide (i.natAbs.log2<1920)) (.ok (Str.ofString (toString i)))
 |_=>.bad
def ag3(a b:QF):QF:=λM Z=>(a M Z).bind λd=>(Uy d).bind λx=>Out.when (decide (x.length<=100000)) ((b M Z).bind λe=>(Uy e).bind λy=>Out.when (decide (x.length+y.length<=100000)) (.ok (.str (x++y))))
theorem afF{g:Gh}{H:Hp}{v:V}{d:Dat}{P:Str->Prop}{E:dX->Prop}{R:V->Prop}(r:dZ X.K g H v d)(h:(Uy d).sat P E)(k:∀y,P y->R (.str y)):(∃y:Str,v=.str y/\y.length<=sizeLine/\R (.str y))\/∃i:Int,v=.int i/\i.natAbs.log2<1920/\R (.str (toString i)):=by
 unfold Uy at h;split at h
 .next y=>
  obtain⟨hz,h⟩:=h.lE;exact .inl ⟨y,fV r,sz_of (atZ hz),k _ h⟩
 .next i=>
  obtain⟨hz,h⟩:=h.lE;exact .inr ⟨i,cG r,atZ hz,k _ h⟩
 .exact atX h
theorem akd{p1 p2:Pos}(ha:QW aj X W a fa)(hb:QW aj X W b fb):QE aj X W (.JoinedStr [.FormattedValue a (-1) none p1,.FormattedValue b (-1) none p2] pos) (ag3 fa fb):=
 PE.weak (pe_joined (.cons (pe_fmt ha) (.cons (pe_fmt hb) .nil))) λσ H Q ⟨g,Z,M,I,h⟩=>by
  have e0:∀y:Str,Str.empty++y=y:=λy=>by
   apply TL.ext_tl;rw[TL.tl_append];rfl
  refine tW.go I h.bnd λd v H1 h1 e1 r1=>?_;have I1:=I.ex e1;refine afF (R:=λx=>∃y:Str,x=.str y/\(Str.empty++y).length<=sizeLine/\tJs [tFmt (tW X.K aj W fb)] (Str.empty++y) σ H1 λout H1=>Q (V.str out) H1) r1 h1.bnd λx hx=>?_;obtain⟨hz,hx⟩:=hx.lE;refine⟨x,rfl,by rw[e0];exact sz_of (atZ hz),?_⟩;refine tW.go I1 (hx.bnd.mono (λ_ z=>z) λ_ z=>z.ex e1) λd2 v2 H2 h2 e2 r2=>?_;refine afF (R:=λz=>∃y:Str,z=.str y/\(Str.empty++x++y).length<=sizeLine/\tJs [] (Str.empty++x++y) σ H2 λout H1=>Q (V.str out) H1) r2 h2.bnd λy hy=>?_;obtain⟨hz2,hy⟩:=hy.lE;have hl:(x++y).length=x.length+y.length:=Array.size_append;refine⟨y,rfl,by rw[e0,hl];exact sz_of (atZ hz2),?_⟩;rw[e0];exact hy _ H2 (e1.trans e2) (.str _)
end
def txM(m:Str):Option Nat:=if m=="join" then some 0 else if m=="split" then some 1 else if m=="partition" then some 2 else if m=="index" then some 3 else none
def trX(t:Tr)(c:Tc):Expr->Option QF
 |.Call (.Attribute o m apos) [e] [] pos=>(txM m).bind λn=>(t.W c e).bind λfe=>gd (baseOk o&&(nst e&&(apos.endLine==pos.line))) (match n with
  |0=>(t.W c o).bind λfo=>some (R9 Ol fo fe)
  |1=>(t.W c o).bind λfo=>some (R9 Za fo fe)
  |2=>(t.W c o).bind λfo=>some (R9 adk fo fe)
  |_=>(match o with
   |.Name x _=>(match c.G.lookup x with
    |some (.con (.tuple ds))=>gd (xX c.sc x&&!wF x) (some (agr ds fe))
    |some _=>none
    |none=>(t.W c o).bind λfo=>some (qLM Ay fo fe))
   |_=>(t.W c o).bind λfo=>some (qLM Ay fo fe)))
 |.Call (.Attribute o m apos) [e,e2] [] pos=>(match m=="split" with
  |true=>(t.W c o).bind λfo=>(t.W c e).bind λfe=>(t.W c e2).bind λf2=>gd (baseOk o&&(nst e&&(nst e2&&(apos.endLine==pos.line)))) (some (afW Vu fo fe f2))
  |false=>none)
 |.JoinedStr [.FormattedValue a k1 none _,.FormattedValue b k2 none _] _=>(t.W c a).bind λfa=>(t.W c b).bind λfb=>gd (decide (k1=-1)&&decide (k2=-1)) (some (ag3 fa fb))
 |_=>none
section
variable{aj:aQ}{c:Tc}{X:Cx}{W:WX}{k:Nat}{t:Tr}
theorem akI{m:Str}{n:Nat}(h:txM m=some n):(m="join"/\n=0)\/(m="split"/\n=1)\/(m="partition"/\n=2)\/(m="index"/\n=3):=by
 unfold txM at h;split at h
 .next e=>cases h;exact .inl ⟨at8 e,rfl⟩
 split at h
 .next e=>cases h;exact .inr (.inl ⟨at8 e,rfl⟩)
 split at h
 .next e=>cases h;exact .inr (.inr (.inl ⟨at8 e,rfl⟩))
 split at h
 .next e=>cases h;exact .inr (.inr (.inr ⟨at8 e,rfl⟩))
 .cases h
theorem ala(o:t.Ok)(a:Amb aj c X W k){e:Expr}{f:QF}(h:trX t c e=some f):QE aj X W e f:=by
 unfold trX at h;split at h
 .obtain⟨n,h0,h⟩:=asu.mp h;obtain⟨fe,h1,h⟩:=asu.mp h;obtain⟨hb,h⟩:=aP.mp h;simp only[asw]at hb;obtain⟨b1,b2,b3⟩:=hb;rcases akI h0 with⟨rfl,rfl⟩|⟨rfl,rfl⟩|⟨rfl,rfl⟩|⟨rfl,rfl⟩
  .obtain⟨fo,h2,h⟩:=asu.mp h;cases h;exact aip (o.ow a h2) (o.ow a h1) b2 b1 b3
  .obtain⟨fo,h2,h⟩:=asu.mp h;cases h;exact agy (o.ow a h2) (o.ow a h1) b2 b1 b3
  .obtain⟨fo,h2,h⟩:=asu.mp h;cases h;exact ajm (o.ow a h2) (o.ow a h1) b2 b1 b3
  .have lst:∀{b:Expr} {apos pos:Pos},baseOk b=true->((t.W c b).bind λfo=>some (qLM Ay fo fe))=some f->(apos.endLine==pos.line)=true->QE aj X W (.Call (.Attribute b "index" apos) [_] [] pos) f:=λ{b apos pos} hb h b3=>by
    obtain⟨fo,h2,h⟩:=asu.mp h;cases h;exact agj (o.ow a h2) (o.ow a h1) b2 hb b3
   simp only at h;split at h
   .split at h
    .next hl=>
     obtain⟨hg,h⟩:=aP.mp h;cases h;simp only[asw,asO]at hg;exact afz (a.gl _ _ hl) (oX a hg.1) (jK hg.2).1 (o.ow a h1) b2 b3
    .cases h
    .exact lst b1 h b3
   .exact lst b1 h b3
 .split at h
  .next hm=>
   obtain⟨fo,h1,h⟩:=asu.mp h;obtain⟨fe,h2,h⟩:=asu.mp h;obtain⟨f2,h3,h⟩:=asu.mp h;obtain⟨hb,h⟩:=aP.mp h;cases h;simp only[asw]at hb;cases at8 hm;exact aeu (o.ow a h1) (o.ow a h2) (o.ow a h3) (by simp[hb.2.1,hb.2.2.1]) hb.1 hb.2.2.2
  .cases h
 .obtain⟨fa,h1,h⟩:=asu.mp h;obtain⟨fb,h2,h⟩:=asu.mp h;obtain⟨hb,h⟩:=aP.mp h;cases h;simp only[asw,atY]at hb;obtain⟨rfl,rfl⟩:=hb;exact akd (o.ow a h1) (o.ow a h2)
 .cases h
end
def MV.n:MV->Nat
 |.q n _=>n
 |.g n _=>n
def MV.qt:MV->Bool
 |.q _ _=>true
 |.g _ _=>false
def tbN(tb:List (Str×MV))(n:Nat):Bool:=tb.all λp=>p.2.n==n
def tbQ(tb:List (Str×MV)):Bool:=tb.all λp=>p.2.qt
theorem ql{α:Type}{c:Str}{v:α}:∀{tb:List (Str×α)},tb.lookup c=some v->(c,v)∈tb
 |[],h=>nomatch h
 |(y,u)::r,h=>by
  rw[asY]at h;split at h
  .next e=>
   cases h;rw[at8 e];exact asC
  .exact asB _ (ql h)
section
variable{aj:aQ}{c:Tc}{X:Cx}{W:WX}{k:Nat}{t:Tr}
theorem Yd(a:Amb aj c X W k){m:Str}{n:Nat}{tb:List (Str×MV)}(h:c.hs.Ms.lookup m=some tb)(hn:tbN tb n=true):Ka X aj k m n tb:=λy v hv=>by
 refine⟨a.hk.ms m tb h y v hv,?_⟩;have:=asV.mp hn _ (ql hv);cases v<;>exact at8 this
def Yw(t:Tr)(c:Tc)(o:Expr)(m:Str)(es:List Expr)(apos pos:Pos):Option QF:=
 (c.hs.Ms.lookup m).bind λtb=>(t.W c o).bind λfo=>(KN t c es).bind λas=>
  gd (tbQ tb&&(tbN tb (es.length+1)&&(baseOk o&&(decide (es.length<30)&&(apos.endLine==pos.line))))) (some (aX tb fo as))
theorem adS(o:t.Ok)(a:Amb aj c X W k){b:Expr}{m:Str}{es:List Expr}{apos pos:Pos}{f:QF}(h:Yw t c b m es apos pos=some f):QE aj X W (.Call (.Attribute b m apos) es [] pos) f:=by
 unfold Yw at h;obtain⟨tb,h1,h⟩:=asu.mp h;obtain⟨fo,h2,h⟩:=asu.mp h;obtain⟨as,h3,h⟩:=asu.mp h;obtain⟨hb,h⟩:=aP.mp h;cases h;simp only[asw,atY]at hb;obtain⟨_,b2,b3,b4,b5⟩:=hb;obtain⟨i1,i2,i3⟩:=wz o a h3;cases es with
 |nil=>
  cases h3;exact ahg (a.tm h1) a.rm (Yd a h1 b2) (o.ow a h2) b3 b5
 |cons e es=>exact ahT (a.tm h1) a.rm (Yd a h1 b2) (o.ow a h2) i1 i3 b3 i2 b5 b4
def inN:CmpOp->Option Bool
 |.In=>some false
 |.NotIn=>some true
 |_=>none
theorem adF{op:CmpOp}{neg:Bool}(hr:Room k X.A)(h:inN op=some neg):OpR X (compareOp op) (rInD X neg):=by
 have h65:X.A.units+64<cLine:=by have:=hr.un;omega
 cases op<;>cases h
 .exact op_inD h65
 .exact op_notInD h65
def acW(t:Tr)(c:Tc)(e:Expr)(op:CmpOp)(o:Expr)(f:Str):Option QF:=
 (inN op).bind λneg=>(c.hs.df.lookup f).bind λ_=>(t.E c e).bind λfe=>(t.W c o).bind λfo=>gd (baseOk o) (some (QC neg f fe fo))
theorem akY{o e:Expr}{f:Str}{p1 pos:Pos}{fo fk:QF}{neg:Bool}{op:CmpOp}(co:jN X.K aj)(hw:aj.w=X.w)(hr:OpR X (compareOp op) (rInD X neg))(hk:QE aj X W e fk)(ho:QW aj X W o fo)(hb:baseOk o=true):uE aj X W (.Compare e [op] [.Attribute o f p1] pos) (aW (QC neg f fk fo)):=
 PT.weak (pt_cmpR hr hk (pe_fld ho (iU hb)) (by cases op<;>rfl)) λσ H Q ⟨g,Z,M,I,h⟩=>by
  refine ahH co hw σ H _ ⟨g,Z,M,I,h.bnd.mono (λd h1 v H' e' r'=>?_) λ_ z=>z⟩;obtain⟨k,h2,h3⟩:=GJ r'.weak h1;exact⟨k,h2,h3 H' e'⟩
theorem abL(o:t.Ok)(a:Amb aj c X W k){e b:Expr}{op:CmpOp}{m:Str}{p1 pos:Pos}{f:QF}(h:acW t c e op b m=some f):QE aj X W (.Compare e [op] [.Attribute b m p1] pos) f/\uE aj X W (.Compare e [op] [.Attribute b m p1] pos) (aW f):=by unfold acW at h;obtain⟨neg,h1,h⟩:=asu.mp h;obtain⟨_,_,h⟩:=asu.mp h;obtain⟨fe,h2,h⟩:=asu.mp h;obtain⟨fo,h3,h⟩:=asu.mp h;obtain⟨hb,h⟩:=aP.mp h;cases h;exact⟨akb a.hk.co a.hk.hw (adF a.rm h1) (o.oe a h2) (o.ow a h3) hb,akY a.hk.co a.hk.hw (adF a.rm h1) (o.oe a h2) (o.ow a h3) hb⟩
def Yi(t:Tr)(c:Tc)(e:Expr)(op:CmpOp)(x:Str):Option QF:=
 (inN op).bind λneg=>match c.G.lookup x with
  |some (.dic kvs)=>(t.W c e).bind λfe=>gd (xX c.sc x&&!wF x) (some (VG neg kvs fe))
  |_=>none
theorem YB(o:t.Ok)(a:Amb aj c X W k){e:Expr}{op:CmpOp}{x:Str}{p1 pos:Pos}{f:QF}(h:Yi t c e op x=some f):QE aj X W (.Compare e [op] [.Name x p1] pos) f/\uE aj X W (.Compare e [op] [.Name x p1] pos) (aW f):=by
 unfold Yi at h;obtain⟨neg,h1,h⟩:=asu.mp h;split at h
 .next kvs hl=>
  obtain⟨fe,h2,h⟩:=asu.mp h;obtain⟨hb,h⟩:=aP.mp h;cases h;simp only[asw,asO]at hb;refine akO a.rm ?_ (a.gl x _ hl) (oX a hb.1) (jK hb.2).1 (o.ow a h2);cases op<;>cases h1
  .exact .inl ⟨rfl,rfl⟩
  .exact .inr ⟨rfl,rfl⟩
 .cases h
def Zi(t:Tr)(c:Tc):Expr->Option QF
 |.Call (.Name y _) [b] [] _=>(match vX c y "set" with
  |true=>(t.W c b).bind λfb=>gd (nst b) (some (fj Rk fb))
  |false=>(t.W c (.Call (.Name y ⟨0,0,0,0⟩) [b] [] ⟨0,0,0,0⟩)).bind λ_=>none)
 |e=>(t.W c e).bind λfe=>gd (nst e) (some (fj JN fe))
theorem aj2(a:Amb aj c X W k):X.A.units+65<cLine:=by have:=a.rm.un;omega
theorem aeX(o:t.Ok)(a:Amb aj c X W k)(hg:Gl X "sorted")(hm:X.mg "sorted"=none){e:Expr}{p pos:Pos}{f:QF}(h:Zi t c e=some f):QE aj X W (.Call (.Name "sorted" p) [e] [] pos) f:=by
 unfold Zi at h;split at h
 .split at h
  .next hb=>
   obtain⟨fb,h1,h⟩:=asu.mp h;obtain⟨hn,h⟩:=aP.mp h;cases h;obtain⟨rfl,hg2,hm2⟩:=pJ a hb;exact aiG (aj2 a) a.calm hg hm hg2 hm2 (o.ow a h1) hn
  .obtain⟨_,_,h⟩:=asu.mp h;cases h
 .obtain⟨fe,h1,h⟩:=asu.mp h;obtain⟨hn,h⟩:=aP.mp h;cases h;exact ahV (aj2 a) hg hm (o.ow a h1) hn
def Tn(t:Tr)(c:Tc)(elt tg iter:Expr)(ifs:List Expr)(tg1 iter1:Expr)(ifs1:List Expr)(scope:Scope):Option QF:=
 (t.I c false tg iter).bind λit=>(Xf (c.inn scope) tg).bind λjt=>(U3 t (c.inn scope) ifs).bind λtt=>(t.I (c.inn scope) true tg1 iter1).bind λit1=>(Xf (c.inn scope) tg1).bind λjt1=>(U3 t (c.inn scope) ifs1).bind λtt1=>(t.E (c.inn scope) elt).bind λte=>
  gd (blkC c.N c.sc scope (qQ tg jt.1++qQ tg1 jt1.1)&&(Rg ((qQ tg1 jt1.1).map (·.2)) ((qQ tg jt.1++qQ tg1 jt1.1).map (·.2))&&(Rg jt.1 ((qQ tg jt.1++qQ tg1 jt1.1).map (·.2))&&(Rg jt1.1 ((qQ tg1 jt1.1).map (·.2))&&(!z7 iter&&!z7 iter1)))))
   (some (Fg it jt.2 ((qQ tg jt.1++qQ tg1 jt1.1).map (·.2)) tt it1 jt1.2 ((qQ tg1 jt1.1).map (·.2)) tt1 te))
theorem af6(o:t.Ok)(a:Amb aj c X W k){elt tg iter tg1 iter1:Expr}{ifs ifs1:List Expr}{scope:Scope}{pos:Pos}{f:QF}(h:Tn t c elt tg iter ifs tg1 iter1 ifs1 scope=some f):QE aj X W (.ListComp elt [⟨tg,iter,ifs,0⟩,⟨tg1,iter1,ifs1,0⟩] scope pos) f:=by unfold Tn at h;obtain⟨it,h1,h⟩:=asu.mp h;obtain⟨⟨js,tf⟩,h2,h⟩:=asu.mp h;obtain⟨tt,h3,h⟩:=asu.mp h;obtain⟨it1,h4,h⟩:=asu.mp h;obtain⟨⟨js1,tf1⟩,h5,h⟩:=asu.mp h;obtain⟨tt1,h6,h⟩:=asu.mp h;obtain⟨te,h7,h⟩:=asu.mp h;obtain⟨hb,h⟩:=aP.mp h;cases h;simp only[asw,asO]at hb;obtain⟨b1,b2,b3,b4,b5,b6⟩:=hb;exact amh a.calm a.nd (o.oi a h1) (by rw[a.hN,a.hs];exact b1) (qO b2) (qO b3) (qO b4) (λs H C cl fp=>wu (a.inn _ s H C cl fp) h2) (λs H C cl fp=>xY o (a.inn _ s H C cl fp) h3) (λs H C cl fp=>o.oi (a.inn _ s H C cl fp) h4) (λs H C cl fp=>wu (a.inn _ s H C cl fp) h5) (λs H C cl fp=>xY o (a.inn _ s H C cl fp) h6) (λs H C cl fp=>o.oe (a.inn _ s H C cl fp) h7) (tK b5) (λenv=>tK b6)
def els{α:Type}(a b:Option α):Option α:=match a with
 |some x=>some x
 |none=>b
theorem uV{α:Type}{a b:Option α}{x:α}(h:els a b=some x):a=some x\/b=some x:=by
 cases a with
 |none=>exact .inr h
 |some y=>exact .inl h
def xE0(t:Tr)(c:Tc):Expr->Option QF
 |.Attribute o f _=>gd (baseOk o) ((t.W c o).bind λfo=>some (iQ f fo))
 |.Call (.Attribute o m apos) es [] pos=>Yw t c o m es apos pos
 |.Compare e [op] [.Attribute o f _] _=>acW t c e op o f
 |.Compare e [op] [.Name x _] _=>Yi t c e op x
 |.Subscript (.Name x _) e _=>(match c.G.lookup x with
  |some (.dic kvs)=>(t.W c e).bind λfe=>gd (xX c.sc x&&(!wF x&&!Ze e)) (some (acU kvs fe))
  |_=>none)
 |.ListComp elt [⟨tg,iter,ifs,0⟩,⟨tg1,iter1,ifs1,0⟩] scope _=>Tn t c elt tg iter ifs tg1 iter1 ifs1 scope
 |.Call (.Name x _) [e] [] _=>(match vX c x "sorted" with
  |true=>Zi t c e
  |false=>match vX c x "list",e with
   |true,.Attribute o f _=>(c.hs.df.lookup f).bind λ_=>(t.W c o).bind λfo=>gd (baseOk o) (some (Es f fo))
   |_,_=>none)
 |_=>none
theorem aj0(o:t.Ok)(a:Amb aj c X W k){e:Expr}{f:QF}(h:xE0 t c e=some f):QE aj X W e f:=by
 unfold xE0 at h;split at h
 .obtain⟨hb,h⟩:=aP.mp h;obtain⟨fo,h1,h⟩:=asu.mp h;cases h;exact akA a.hk.co (o.ow a h1) hb
 .exact adS o a h
 .exact(abL o a h).1
 .exact(YB o a h).1
 .split at h
  .next kvs hl=>
   obtain⟨fe,h1,h⟩:=asu.mp h;obtain⟨hb,h⟩:=aP.mp h;cases h;simp only[asw]at hb;exact aku (a.gl _ _ hl) (oX a hb.1) (jK (by simpa using hb.2.1)).1 (o.ow a h1) (aaC hb.2.2)
  .cases h
 .exact af6 o a h
 .split at h
  .next hb=>
   obtain⟨rfl,hg,hm⟩:=pJ a hb;exact aeX o a hg hm h
  .split at h
   .next hb=>
    obtain⟨_,_,h⟩:=asu.mp h;obtain⟨fo,h1,h⟩:=asu.mp h;obtain⟨hb2,h⟩:=aP.mp h;cases h;obtain⟨rfl,hg,hm⟩:=pJ a hb;exact agJ a.hk.co a.hk.hw a.calm hg hm (o.ow a h1) hb2
   .cases h
 .cases h
def xE1(t:Tr)(c:Tc)(e:Expr):Option QF:=els (trX t c e) (xE0 t c e)
theorem alp(o:t.Ok)(a:Amb aj c X W k){e:Expr}{f:QF}(h:xE1 t c e=some f):QE aj X W e f:=(uV h).elim (ala o a) (aj0 o a)
def xE(t:Tr)(c:Tc)(e:Expr):Option QF:=xE1 t c e
theorem am6(o:t.Ok)(a:Amb aj c X W k){e:Expr}{f:QF}(h:xE t c e=some f):QE aj X W e f:=alp o a h
def xW(t:Tr)(c:Tc):Expr->Option QF
 |.Attribute o f _=>gd (baseOk o) ((t.W c o).bind λfo=>some (bM f fo))
 |_=>none
theorem anI(o:t.Ok)(a:Amb aj c X W k){e:Expr}{f:QF}(h:xW t c e=some f):QW aj X W e f:=by
 unfold xW at h;split at h
 .obtain⟨hb,h⟩:=aP.mp h;obtain⟨fo,h1,h⟩:=asu.mp h;cases h;exact akS a.hk.co (o.ow a h1) hb
 .cases h
def xT(t:Tr)(c:Tc):Expr->Option QT
 |.Compare e [op] [.Attribute o f _] _=>(acW t c e op o f).bind λg=>some (aW g)
 |.Compare e [op] [.Name x _] _=>(Yi t c e op x).bind λg=>some (aW g)
 |_=>none
theorem amO(o:t.Ok)(a:Amb aj c X W k){e:Expr}{f:QT}(h:xT t c e=some f):uE aj X W e f:=by
 unfold xT at h;split at h
 .obtain⟨g,h1,h⟩:=asu.mp h;cases h;exact(abL o a h1).2
 .obtain⟨g,h1,h⟩:=asu.mp h;cases h;exact(YB o a h1).2
 .cases h
def xI(t:Tr)(c:Tc)(firm:Bool):Expr->Option IF
 |.Attribute o f _=>(match firm with
  |true=>none
  |false=>(c.hs.df.lookup f).bind λ_=>gd (baseOk o) ((t.W c o).bind λfo=>some (Fe f fo)))
 |_=>none
theorem am8(o:t.Ok)(a:Amb aj c X W k){firm:Bool}{tg e:Expr}{f:IF}(h:xI t c firm e=some f):QI aj X W firm tg e f:=by
 unfold xI at h;split at h
 .split at h
  .cases h
  .obtain⟨_,_,h⟩:=asu.mp h;obtain⟨hb,h⟩:=aP.mp h;obtain⟨fo,h1,h⟩:=asu.mp h;cases h;exact ahc a.hk.co a.hk.hw (o.ow a h1) hb
 .cases h
def xtE(t:Tr)(c:Tc)(e:Expr):Option QF:=els (xE t c e) (stE t c e)
def xtW(t:Tr)(c:Tc)(e:Expr):Option QF:=els (xW t c e) (stW t c e)
def xtT(t:Tr)(c:Tc)(e:Expr):Option QT:=els (xT t c e) (stT t c e)
def xtI(t:Tr)(c:Tc)(firm:Bool)(tg e:Expr):Option IF:=els (xI t c firm e) (stI t c firm tg e)
end
structure uO(aj:aQ)(c:Tc)(X:Cx)(W:WX)(k:Nat):Prop extends Amb aj c X W k where
 ps:PassesOwn (model X.prog X.w) X.A X.env X.xe
 st:X.stack=X.env::X.outer
 fr:X.env.frame=some X.env.locals
 kf:X.env.scope.kind=.function
structure Ts where
 G:Tc->Expr->Option GF
 H:Tc->Expr->Option GT
 S:Tc->Stmt->Option SF
 B:Tc->List Stmt->Option SF
structure Ts.Ok(s:Ts)(q:Bool):Prop where
 og:∀{aj:aQ} {c:Tc} {X:Cx} {W:WX} {k:Nat},uO aj c X W k->∀{e:Expr} {f:GF},s.G c e=some f->GE aj X W q e f
 oh:∀{aj:aQ} {c:Tc} {X:Cx} {W:WX} {k:Nat},uO aj c X W k->∀{e:Expr} {f:GT},s.H c e=some f->IW aj X W q e f
 os:∀{aj:aQ} {c:Tc} {X:Cx} {W:WX} {k:Nat},uO aj c X W k->∀{e:Stmt} {f:SF},s.S c e=some f->SE aj X W q e f
 ob:∀{aj:aQ} {c:Tc} {X:Cx} {W:WX} {k:Nat},uO aj c X W k->∀{e:List Stmt} {f:SF},s.B c e=some f->Ge aj X W q e f
def DW:Expr->Bool
 |.ListComp _ _ _ _=>true
 |.SetComp _ _ _ _=>true
 |.DictComp _ _ _ _ _=>true
 |_=>false
theorem Ir{e:Expr}{tg:Option Expr}{l:Nat}{env:PySem.Env}(h:DW e=false):swapsWith e tg l env=pure false:=by cases e<;>first | rfl | cases h
def ac8:Expr->Bool
 |.Tuple _ _ _=>true
 |_=>false
def swB(sc:Scope)(v:Expr)(scope:Scope)(x:Str)(p:Pos):Bool:=(match sc.names.lookup x with
 |some .local=>true
 |_=>false)&&(p.line==v.pos.line&&!(scope.names.any λ(n,k)=>n==x&&(k==.local || k==.cell)))
theorem RW{X:Cx}{elt:Expr}{gens:List Comprehension}{scope:Scope}{pos p:Pos}{x:Str}{l:Nat}(hk:X.env.scope.kind=.function)(h:swB X.env.scope (.ListComp elt gens scope pos) scope x p=true):X.env.scope.names.lookup x=some .local/\swapsWith (.ListComp elt gens scope pos) (some (.Name x p)) l X.env=pure true:=by
 unfold swB at h;simp only[asw]at h;obtain⟨h1,h2,h3⟩:=h;have e1:X.env.scope.names.lookup x=some .local:=by
  split at h1
  .assumption
  .cases h1
 refine⟨e1,?_⟩;have eb:X.env.blockKind=.function:=by unfold PySem.Env.blockKind;rw[hk];rfl
 unfold swapsWith
 show(pure (X.env.blockKind==.function&&X.env.kindOf x==some .local&&p.line==(Expr.ListComp elt gens scope pos).pos.line&&!(scope.names.any λ(n,k)=>n==x&&(k==.local || k==.cell))):Sem Bool)=pure true
 rw[eb,h2,h3];unfold PySem.Env.kindOf;rw[e1];rfl
def agh(sc:Scope)(v:Expr)(x:Str)(p:Pos):Bool:=!(p.line==v.pos.line) || (match sc.names.lookup x with
 |some .local=>false
 |_=>true)
theorem aeP{X:Cx}{elt:Expr}{gens:List Comprehension}{scope:Scope}{pos p:Pos}{x:Str}{l:Nat}(h:agh X.env.scope (.ListComp elt gens scope pos) x p=true):swapsWith (.ListComp elt gens scope pos) (some (.Name x p)) l X.env=pure false:=by
 unfold swapsWith
 show(pure (X.env.blockKind==.function&&X.env.kindOf x==some .local&&p.line==(Expr.ListComp elt gens scope pos).pos.line&&!(scope.names.any λ(n,k)=>n==x&&(k==.local || k==.cell))):Sem Bool)=pure false
 unfold agh at h;rw[atQ,asO]at h;rcases h with h|h
 .rw[h,Bool.and_false,Bool.false_and]
 .have e:(X.env.kindOf x==some .local)=false:=by
   unfold PySem.Env.kindOf;split at h
   .cases h
   .next q=>
    cases hl:X.env.scope.names.lookup x with
    |none=>rfl
    | some y=>cases y<;>first | exact absurd hl q | rfl
  rw[e,Bool.and_false,Bool.false_and,Bool.false_and]
def trN(t:Tr)(c:Tc):Expr->Option IF
 |.List es _=>(KN t c es).bind λfr=>some (M7 fr)
 |_=>none
theorem adU{aj:aQ}{c:Tc}{X:Cx}{W:WX}{k:Nat}{t:Tr}(o:t.Ok)(a:Amb aj c X W k){e:Expr}{f:IF}(h:trN t c e=some f):FE aj X W e f/\DW e=false:=by
 unfold trN at h;split at h
 .obtain⟨fr,h1,h⟩:=asu.mp h;cases h;exact⟨akD (wz o a h1).1,rfl⟩
 .cases h
section
variable{X:Cx}{aj:aQ}{W:WX}{q:Bool}{e:Expr}{pos:Pos}
theorem ak6{j:Nat}{y:Str}{py:Pos}{elt tg iter:Expr}{cpos:Pos}{scope:Scope}{own:List (Str×Nat)}{it:IF}{tgf:gH}{js:List Nat}{tt:QT}{te:QF}{ifs:List Expr}(hc:X.calm=true)(hN:X.N.Nodup)(hy:X.N[j]?=some y)(hyl:X.env.scope.names.lookup y=some .local)
  (hsw:swapsWith (.ListComp elt [⟨tg,iter,ifs,0⟩] scope cpos) (some (.Name y py)) pos.line X.env=pure true) (hi:QI aj X W false tg iter it) (ok:blkC X.N X.env.scope scope own=true) (hj:∀j∈js,j∈own.map (·.2))
  (hg:∀(s:Shared) (H:Hp) (C:Addr) (cl:List (Str×Addr)) (fp:List Addr),QG aj (X.blk s H scope (compEnvC scope cl C X.env) fp) tg js tgf)
  (ht:∀(s:Shared) (H:Hp) (C:Addr) (cl:List (Str×Addr)) (fp:List Addr),PTs (X.blk s H scope (compEnvC scope cl C X.env) fp) ifs (lQ X.K aj WF tt))
  (he:∀(s:Shared) (H:Hp) (C:Addr) (cl:List (Str×Addr)) (fp:List Addr),QE aj (X.blk s H scope (compEnvC scope cl C X.env) fp) WF elt te) (hs:∀x,foldedSetIterable iter X.env x=pure x) :
  SE aj X W q (.Assign [.Name y py] (.ListComp elt [⟨tg,iter,ifs,0⟩] scope cpos) pos) (Ew j (DQ it tgf (own.map (·.2)) tt te)):=by
 refine PS.weak (ps_setLc (g:=Ar X.K aj js tgf) (tt:=lQ X.K aj WF tt) (te:=tQ X.K aj WF te) hc hN hy hyl hsw hi (blkOk_by ok) (λs H C cl fp=>hg s H C cl fp) ht (λs H C cl fp=>he s H C cl fp) hs) λD σ H h=>?_;exact YM hj σ H _ (aeS D σ H h)
end
def ahz(t:Tr)(c:Tc)(elt tg iter:Expr)(ifs:List Expr)(scope:Scope):Option IF:=
 (t.I c false tg iter).bind λit=>(Xf (c.inn scope) tg).bind λjt=>(U3 t (c.inn scope) ifs).bind λtt=>(t.E (c.inn scope) elt).bind λte=>
  gd (blkC c.N c.sc scope (qQ tg jt.1)&&(Rg jt.1 ((qQ tg jt.1).map (·.2))&&!z7 iter)) (some (DQ it jt.2 ((qQ tg jt.1).map (·.2)) tt te))
def Ux(t:Tr)(c:Tc)(x:Str)(p:Pos)(elt tg iter:Expr)(ifs:List Expr)(scope:Scope)(cpos:Pos):Option SF:=
 (wW c x).bind λj=>gd (swB c.sc (.ListComp elt [⟨tg,iter,ifs,0⟩] scope cpos) scope x p || agh c.sc (.ListComp elt [⟨tg,iter,ifs,0⟩] scope cpos) x p)
  (match c.ml.contains x with
  |true=>(ahz t c elt tg iter ifs scope).bind λf=>some (Ew j f)
  |false=>(aaE t c elt tg iter ifs scope).bind λf=>some (aR (aF j) (gOf f)))
section
variable{aj:aQ}{c:Tc}{X:Cx}{W:WX}{k:Nat}{t:Tr}{q:Bool}
theorem acP(o:t.Ok)(a:uO aj c X W k){x:Str}{p cpos pos:Pos}{elt tg iter:Expr}{ifs:List Expr}{scope:Scope}{f:SF}(h:Ux t c x p elt tg iter ifs scope cpos=some f):SE aj X W q (.Assign [.Name x p] (.ListComp elt [⟨tg,iter,ifs,0⟩] scope cpos) pos) f:=by
 unfold Ux at h;obtain⟨j,hj,h⟩:=asu.mp h;obtain⟨hsw,h⟩:=aP.mp h;obtain⟨s1,s2,s3⟩:=oR a.toAmb hj;rw[atQ]at hsw;split at h
 .obtain⟨f1,h1,h⟩:=asu.mp h;cases h;unfold ahz at h1;obtain⟨it,h2,h1⟩:=asu.mp h1;obtain⟨⟨js,tf⟩,h3,h1⟩:=asu.mp h1;obtain⟨tt,h4,h1⟩:=asu.mp h1;obtain⟨te,h5,h1⟩:=asu.mp h1;obtain⟨hb,h1⟩:=aP.mp h1;cases h1;simp only[asw,asO]at hb;obtain⟨b1,b2,b3⟩:=hb;rcases hsw with hsw|hsw
  .rw[<-a.hs]at hsw;obtain⟨l1,l2⟩:=RW (l:=pos.line) a.kf hsw;exact ak6 a.calm a.nd s1 l1 l2 (o.oi a.toAmb h2) (by rw[a.hN,a.hs];exact b1) (qO b2) (λs H C cl fp=>wu (a.toAmb.inn scope s H C cl fp) h3) (λs H C cl fp=>xY o (a.toAmb.inn scope s H C cl fp) h4) (λs H C cl fp=>o.oe (a.toAmb.inn scope s H C cl fp) h5) (tK b3)
  .exact aeW a.nd s1 s2 s3 (amG a.calm a.nd (o.oi a.toAmb h2) (by rw[a.hN,a.hs];exact b1) (qO b2) (λs H C cl fp=>wu (a.toAmb.inn scope s H C cl fp) h3) (λs H C cl fp=>xY o (a.toAmb.inn scope s H C cl fp) h4) (λs H C cl fp=>o.oe (a.toAmb.inn scope s H C cl fp) h5) (tK b3)) (aeP (by rw[a.hs];exact hsw))
 .obtain⟨f1,h1,h⟩:=asu.mp h;cases h;rcases hsw with hsw|hsw
  .rw[<-a.hs]at hsw;obtain⟨l1,l2⟩:=RW (l:=pos.line) a.kf hsw;unfold aaE at h1;obtain⟨it,h2,h1⟩:=asu.mp h1;obtain⟨⟨js,tf⟩,h3,h1⟩:=asu.mp h1;obtain⟨tt,h4,h1⟩:=asu.mp h1;obtain⟨te,h5,h1⟩:=asu.mp h1;obtain⟨hb,h1⟩:=aP.mp h1;cases h1;simp only[asw,asO]at hb;obtain⟨b1,b2,b3⟩:=hb;exact ams a.calm a.nd s1 l1 l2 (o.oi a.toAmb h2) (by rw[a.hN,a.hs];exact b1) (qO b2) (λs H C cl fp=>wu (a.toAmb.inn scope s H C cl fp) h3) (λs H C cl fp=>xY o (a.toAmb.inn scope s H C cl fp) h4) (λs H C cl fp=>o.oe (a.toAmb.inn scope s H C cl fp) h5) (tK b3)
  .exact YH (ahP (abT o a.toAmb h1)) (UJ a.nd s1 s2 s3) (aeP (l:=pos.line) (by rw[a.hs];exact hsw)) (by with_unfolding_all rfl) (by with_unfolding_all rfl)
end
theorem Di{tg e:Expr}{l:Nat}{env:PySem.Env}(h:DW e=false):swapsWithSole [tg] e l env=pure false:=Ir h
def adu(t:Tr)(s:Ts)(c:Tc):Expr->Expr->Option SF
 |.Name x p,.ListComp elt [⟨tg,iter,ifs,0⟩] scope cpos=>Ux t c x p elt tg iter ifs scope cpos
 |.Name x _,e=>(wW c x).bind λj=>match c.ml.contains x with
  |true=>(trN t c e).bind λf=>some (Ew j f)
  |false=>gd (!DW e) ((s.G c e).bind λf=>some (aR (aF j) f))
 |.Tuple [.Name x _,.Starred (.Name y _) _] _ _,e=>(wW c x).bind λi=>(wW c y).bind λj=>gd (!DW e&&!ac8 e) ((s.G c e).bind λf=>some (X4 i j f))
 |.Tuple ts _ _,e=>(Yv c ts).bind λjs=>gd (!DW e&&!ac8 e) ((s.G c e).bind λf=>some (aR (bF js) f))
 |_,_=>none
theorem Rr{tg e:Expr}{env:PySem.Env}(h:ac8 e=false):swappedStores [tg] e env=pure none:=by cases tg<;>first | rfl | (cases e<;>first | rfl | cases h)
section
variable{aj:aQ}{c:Tc}{X:Cx}{W:WX}{k:Nat}{t:Tr}{s:Ts}{q:Bool}
theorem agS(o:t.Ok)(os:s.Ok q)(a:uO aj c X W k){tg e:Expr}{pos:Pos}{f:SF}(h:adu t s c tg e=some f):SE aj X W q (.Assign [tg] e pos) f:=by
 unfold adu at h;split at h
 .exact acP o a h
 .obtain⟨j,hj,h⟩:=asu.mp h;obtain⟨s1,s2,s3⟩:=oR a.toAmb hj;split at h
  .obtain⟨f1,h1,h⟩:=asu.mp h;cases h;obtain⟨i1,i2⟩:=adU o a.toAmb h1;exact aeW a.nd s1 s2 s3 i1 (Ir i2)
  .obtain⟨hc,h⟩:=aP.mp h;obtain⟨f1,h1,h⟩:=asu.mp h;cases h;exact YH (os.og a h1) (UJ a.nd s1 s2 s3) (Di (by simpa using hc)) (by with_unfolding_all rfl) (by with_unfolding_all rfl)
 .obtain⟨i,hi,h⟩:=asu.mp h;obtain⟨j,hj,h⟩:=asu.mp h;obtain⟨hc,h⟩:=aP.mp h;obtain⟨f1,h1,h⟩:=asu.mp h;cases h;simp only[asw,asO]at hc;exact aii a.calm a.nd (oR a.toAmb hi) (oR a.toAmb hj) (os.og a h1) (Di hc.1) (Rr hc.2)
 .obtain⟨js,hj,h⟩:=asu.mp h;obtain⟨hc,h⟩:=aP.mp h;obtain⟨f1,h1,h⟩:=asu.mp h;cases h;simp only[asw,asO]at hc;exact YH (os.og a h1) (aed a.calm a.nd (Vo a.toAmb hj)) (Di hc.1) (Rr hc.2) (by with_unfolding_all rfl)
 .cases h
end
def adf(s:Ts)(c:Tc):List Stmt->Option SF
 |[]=>some aH
 |[a]=>s.S c a
 |a::b::r=>(s.S c a).bind λf=>(s.B c (b::r)).bind λg=>some (aC f g)
def stS(t:Tr)(s:Ts)(c:Tc):Stmt->Option SF
 |.Assign [tg] e _=>adu t s c tg e
 |.Assign [.Name x _,.Name y _] e _=>(wW c x).bind λi=>(wW c y).bind λj=>gd (!ac8 e) ((s.G c e).bind λf=>some (RN i j f))
 |.AugAssign (.Name x _) .Add e _=>(wW c x).bind λj=>(t.E c e).bind λf=>some (GZ j f)
 |.Expr (.Call (.Attribute (.Name x _) m apos) [e] [] pos) _=>(Mp c x).bind λj=>gd (m=="append"&&(c.ml.contains x&&(nst e&&(apos.endLine==pos.line)))) ((t.E c e).bind λf=>some (zB j f))
 |.Return (some e) _=>(match t.E c e with
  |some f=>some (aN f)
  |none=>(s.G c e).bind λf=>some (dh f))
 |.If d s1 s2 _=>(s.B c s1).bind λf=>(s.B c s2).bind λg=>match t.T c d with
  |some td=>some (bB td f g)
  |none=>(s.H c d).bind λtd=>some (QS td f g)
 |.For tg iter body [] _=>(t.I c true tg iter).bind λit=>(Xf c tg).bind λjt=>(s.B c body).bind λf=>gd (!z7 iter) (some (rQ it jt.2 f))
 |_=>none
section
variable{aj:aQ}{c:Tc}{X:Cx}{W:WX}{k:Nat}{t:Tr}{s:Ts}{q:Bool}
theorem agK(os:s.Ok q)(a:uO aj c X W k){b:List Stmt}{f:SF}(h:adf s c b=some f):Ge aj X W q b f:=by
 unfold adf at h;split at h
 .cases h;exact alG
 .exact ajQ (os.os a h)
 .obtain⟨f1,h1,h⟩:=asu.mp h;obtain⟨f2,h2,h⟩:=asu.mp h;cases h;exact aiH (os.os a h1) (os.ob a h2)
theorem amr(o:t.Ok)(os:s.Ok q)(a:uO aj c X W k){st:Stmt}{f:SF}(h:stS t s c st=some f):SE aj X W q st f:=by
 unfold stS at h;split at h
 .exact agS o os a h
 .obtain⟨i,hi,h⟩:=asu.mp h;obtain⟨j,hj,h⟩:=asu.mp h;obtain⟨hc,h⟩:=aP.mp h;obtain⟨f1,h1,h⟩:=asu.mp h;cases h;exact aiV a.nd (oR a.toAmb hi) (oR a.toAmb hj) (os.og a h1) (by with_unfolding_all rfl)
 .obtain⟨j,hj,h⟩:=asu.mp h;obtain⟨f1,h1,h⟩:=asu.mp h;cases h;obtain⟨s1,s2,s3⟩:=oR a.toAmb hj;exact amy a.nd s1 s2 s3 (o.oe a.toAmb h1)
 .obtain⟨j,hj,h⟩:=asu.mp h;obtain⟨hc,h⟩:=aP.mp h;obtain⟨f1,h1,h⟩:=asu.mp h;cases h;simp only[asw]at hc;cases at8 hc.1;obtain⟨s1,s2,s3,s4⟩:=Ak a.toAmb hj;exact akU s1 s2 s3 s4 (o.oe a.toAmb h1) hc.2.2.1 hc.2.2.2
 .split at h
  .next f1 h1=>
   cases h;exact alU (o.oe a.toAmb h1)
  .obtain⟨f1,h1,h⟩:=asu.mp h;cases h;exact ahU (os.og a h1)
 .obtain⟨f1,h1,h⟩:=asu.mp h;obtain⟨f2,h2,h⟩:=asu.mp h;split at h
  .next td h3=>
   cases h;exact amK (o.ot a.toAmb h3) (os.ob a h1) (os.ob a h2)
  .obtain⟨td,h3,h⟩:=asu.mp h;cases h;exact akL (os.oh a h3) (os.ob a h1) (os.ob a h2)
 .obtain⟨it,h1,h⟩:=asu.mp h;obtain⟨⟨js,tf⟩,h2,h⟩:=asu.mp h;obtain⟨f1,h3,h⟩:=asu.mp h;obtain⟨hc,h⟩:=aP.mp h;cases h;exact alj a.ps a.calm (o.oi a.toAmb h1) (wu a.toAmb h2) (os.ob a h3) (tK (by simpa using hc))
 .cases h
end
section
variable{prog:Program}{w:World}{A:Around}{E:Value->Shared->Prop}{s:Shared}{K:asv}{x D:Addr}{ox:Obj}{od:Option Obj}
open PySem.W PySem.Calls in
theorem afG{Q:Option Value->Shared->Prop}(C:L2.ExcC K D)(kin:K.In s.heap)(I:PySem.W.InstAt s.heap x ox D od)(q:Q (some (.ref D)) { s with toks:=s.toks+1 }):wpAny (model prog w) A (getAttr? (.ref x) "__class__") Q E s:=by
 have found:findObj K D od "__class__"=some (.bind (.builtin "getset_descriptor.__get__") (.builtin "object.__class__")):=by
  cases od with
  |none=>exact findObj_dataN (by obtain⟨cd,e,_⟩:=any_some C.hd;rw[e];rfl) C.ha C.hn C.ht
  |some o=>exact findObj_data (by obtain⟨cd,e,_⟩:=any_some C.hd;rw[e];rfl) C.ha C.hn C.ht
 obtain⟨hh,gn,dr,tk,os⟩:=s;have ty:=I.type (M:=model prog w);have isB:Looks (model prog w) hh (isInstance (.ref x) (.type "BaseException")) true:=ty.andThen (looks_subIn kin C.hs)
 have get:=looks_find (M:=model prog w) kin I found;have noObj:(onTheHeap (Value.ref D)&&Value.builtin "BaseException.__getattribute__"==Value.builtin "object.__getattribute__")=false:=by
  rw[show(Value.builtin "BaseException.__getattribute__"==Value.builtin "object.__getattribute__")=false by decide +kernel]
  rfl
 simp only[getAttr?,getAttrBy?,getAttrBy];refine at3 (wpAny_mkText (at3 (wpAny_attempt (wpAny_holding (at3 (ty.at (at3 ((looks_findIn (M:=model prog w) kin C.hg).at ?_))))))))
 change wpAny _ _ (if (onTheHeap (Value.ref D)&&Value.builtin "BaseException.__getattribute__"==Value.builtin "object.__getattribute__")=true then _ else _) _ _ _
 rw[noObj,at6 Bool.false_ne_true,getAttrByItsOwn];refine at3 ?_;rw[hookBefore,at5 (show onTheHeap (Value.ref D)=true from rfl)];refine(looks_findIn (M:=model prog w) kin C.hk).at (at3 (wpAny_attempt (wpAny_holding ?_)));rw[callGetattribute,show(false&&onTheHeap (Value.builtin "BaseException.__getattribute__"))=false from rfl,at6 Bool.false_ne_true,boundAndCalled,PySem.F.excAttr_ValueError.ga.bind (.ref x)]
 refine at3 (at4 ?_)
 change wpAny _ _ (call (.builtin "BaseException.__getattribute__") [.ref x,.str "__class__" tk]) _ _ _
 refine wpAny_call (codeAny_call_builtin PySem.F.excAttr_ValueError.ga.plain PySem.F.entry_bexc_ga ?_);refine @check_slot (model prog w) _ _ ⟨hh,gn,dr,tk+1,os⟩ "BaseException.__getattribute__" "BaseException" "__getattribute__" (.ref x) [.str "__class__" tk] [] _ (by decide +kernel) (by decide +kernel) isB (PySem.F.args_bexc_ga _ _) ?_
 unfold Builtin.«object.__getattribute__»;refine at3 (wpAny_of_eq (a:=((Value.ref x:Value),[Value.str "__class__" tk])) (by first | rfl | (simp only[slotArgs];rfl)) (at3 (at4 (at3 (ty.at (at3 (get.at ?_)))))))
 change wpAny _ _ (holding [Value.builtin "object.__class__"] (call (.builtin "getset_descriptor.__get__") [.builtin "object.__class__",.ref x,.ref D]) >>= ret) _ _ _
 refine at3 (wpAny_holding (wpAny_call (class_get (s:=⟨hh,gn,dr,tk+1,os⟩) kin I C.hm (at4 ?_))))
 change wpAny _ _ (handedOut (.ref D)) _ _ _
 rw[handedOut_of (v:=.ref D) rfl]
 first
  |exact at4 (at4 q)
  |exact at4 q
  |exact at4 (at3 (at4 (at4 q)))
theorem aeD{D:Addr}(h:PySem.W.hasDictIn K D=true):∃c d cd sl,K.lookup D=some ⟨c,d,.cls cd,sl⟩:=by
 obtain⟨cd,e,_⟩:=PySem.W.any_some h;unfold PySem.W.clsIn at e;split at e
 .next o=>exact⟨_,_,_,_,o⟩
 .cases e
theorem ait(C:L2.ExcC K D):PySem.W.KitX K (.ref x) (.ref D) (λh=>PySem.W.InstAt h x ox D od) where
 ty:=λ_ _ _ I=>I.type
 it:=λ_ _ kin _=>by
  obtain⟨_,_,_,_,o⟩:=aeD C.hd;intro _ _ _ _ k q;rw[isType,loadHead];exact at3 (wpAny_loadPart (k _ _ (kin _ _ o)) (at4 q))
 ne:=λh tp dd its n sl kin e=>Bool.eq_false_iff.mpr λz=>by
  obtain⟨_,_,_,_,o⟩:=aeD C.hd;cases Value.ref.inj (beq_iff_eq.mp z)
  cases(kin _ _ o).symm.trans e
 ca:=λkin I k=>afG C kin I k
end
def Y8(H:Hp)(d:Option Addr):Prop:=d=none\/∃b fs,d=some b/\H b=some (.xd fs)
theorem Y8.ex{H H':Hp}{d:Option Addr}(h:Y8 H d)(e:Ex H H'):Y8 H' d:=h.imp id λ⟨b,fs,h1,h2⟩=>⟨b,fs,h1,e _ _ h2⟩
def rIsK(K:asv)(D:Addr)(d:Option Addr)(a:Addr):List V->Hp->VK->Prop:=λxs H Q=>∃(c:Addr) (b:Bool),xs=[.ref a,.ref c]/\Y8 H d/\PySem.W.kitOne K (.ref D) (.ref c)=some b/\Q (.bl b) H
theorem ag0{X:Cx}{p:Addr×Obj}{D:Addr}{d:Option Addr}(C:L2.ExcC X.K D)(hp:p∈X.pn)(hz:Zc (.ref D) d p.2)(hf:∃vs,p.2.data=.fields vs):CallR X (.builtin "isinstance") (rIsK X.K D d p.1):=by
 intro pins s σ H xs us Q I r h;obtain⟨c,b,rfl,hd,e,q⟩:=h;obtain⟨u1,u2,rfl,r1,r2⟩:=vals2 r;cases r1;cases r2;obtain⟨hget,_⟩:=I.pin p (atf _ hp);obtain⟨vs,hv⟩:=hf;have nc:PySem.W.notCls p.2=true:=by unfold PySem.W.notCls;rw[hv]
 have J:∃od,PySem.W.InstAt s.heap p.1 p.2 D od:=by
  rcases hd with rfl|⟨b,fs,rfl,hb⟩
  .exact⟨none,hget,hz.1,nc,by rw[hz.2];exact True.intro⟩
  .have hx:ObjOk X.prog X.w H s.heap b (.xd fs):=I.hok b _ hb;obtain⟨mA,hns,_⟩:=hx;obtain⟨od,ho,_⟩:=lookIn_ns hns;exact⟨some od,hget,hz.1,nc,by rw[hz.2];exact ho⟩
 obtain⟨od,J⟩:=J;exact PySem.W.kia_one (ait C) I.kIn J e (λz=>nomatch z) λtk=>⟨.bl b,H,I.tok tk,rfl,q⟩
def kEl(sc:Scope)(x:Str)(kc:List Str):Expr->Option Str
 |.Call (.Name i _) [.Name e _,.Name c _] [] _=>gd (i=="isinstance"&&(e==x&&(xX sc i&&(xX sc c&&(!wF c&&kc.contains c))))) (some c)
 |_=>none
def kEs(sc:Scope)(x:Str)(kc:List Str):List Expr->Option (List Str)
 |[]=>some []
 |e::es=>(kEl sc x kc e).bind λc=>(kEs sc x kc es).bind λcs=>some (c::cs)
abbrev KF:=Str->Option (List Bool)->Option (List Bool)
def P0(cs:List Str):KF:=λn _=>some (cs.map (n==·))
def Sh:KF:=λ_ o=>o
def T6(f g:KF):KF:=λn o=>(f n o).bind λxs=>(g n o).bind λys=>gd (decide (xs.length+ys.length<=1000)) (some (xs++ys))
def Tz(f g:KF):KF:=λn o=>(f n o).bind λbs=>g n (some bs)
def kE(sc:Scope)(x y:Str)(kc:List Str):Expr->Option KF
 |.List es _=>(kEs sc x kc es).bind λcs=>gd (decide (cs.length<=100)) (some (P0 cs))
 |.Name z _=>gd (z==y) (some Sh)
 |.BinOp a .Add b _=>(kE sc x y kc a).bind λf=>(kE sc x y kc b).bind λg=>some (T6 f g)
 |_=>none
def kB(sc:Scope)(x y:Str)(kc:List Str):List Stmt->Option KF
 |[.Return (some e) _]=>kE sc x y kc e
 |.Assign [.Name z _] e _::r=>(kE sc x y kc e).bind λf=>(kB sc x y kc r).bind λg=>gd (z==y) (some (Tz f g))
 |_=>none
structure YF(H0:Hp)(a:Addr)(σ:L2.St)(H:Hp)(o:Option (List Bool)):Prop where
 ex:Ex H0 H
 sl:σ[0]?=some (some (.ref a))
 ln:1<σ.length
 x:∀bs,o=some bs->∃l,σ[1]?=some (some (.ref l))/\H l=some (.lst (bs.map V.bl))/\H0 l=none
section
variable(H0:Hp)(a:Addr)
def tKb(b:Bool):TE:=λσ H Q=>∃o,YF H0 a σ H o/\Q (.bl b) H
def tKa(bs:List Bool):TA:=λσ H Q=>∃o,YF H0 a σ H o/\Q (bs.map V.bl) H
def tKe(f:Option (List Bool)->Option (List Bool)):TE:=λσ H Q=>∃o bs,YF H0 a σ H o/\f o=some bs/\∀l H',Ex H H'->H0 l=none->H' l=some (.lst (bs.map V.bl))->Q (.ref l) H'
def tKs(f:Option (List Bool)->Option (List Bool)):TS:=λD σ H=>∃o bs,YF H0 a σ H o/\f o=some bs/\∀l H',Ex H0 H'->H0 l=none->H' l=some (.lst (bs.map V.bl))->D.rt (.ref l) H'
end
theorem YF.to{H0 H H':Hp}{a:Addr}{σ:L2.St}{o:Option (List Bool)}(I:YF H0 a σ H o)(e:Ex H H'):YF H0 a σ H' o:=⟨I.ex.trans e,I.sl,I.ln,λbs h=>by
 obtain⟨l,h1,h2,h3⟩:=I.x bs h;exact⟨l,h1,e _ _ h2,h3⟩⟩
section
variable{X:Cx}{p:Addr×Obj}{D:Addr}{d:Option Addr}{n x y:Str}{kc:List Str}{H0:Hp}
structure KX(X:Cx)(p:Addr×Obj)(D:Addr)(d:Option Addr)(n x y:Str)(kc:List Str)(H0:Hp):Prop where
 C:L2.ExcC X.K D
 pn:p∈X.pn
 z:Zc (.ref D) d p.2
 f:∃vs,p.2.data=.fields vs
 dk:Y8 H0 d
 mi:X.mg "isinstance"=none
 mc:∀c∈kc,∃Cc,X.mg c=some (.ref Cc)/\PySem.W.kitOne X.K (.ref D) (.ref Cc)=some (n==c)
 nd:X.N.Nodup
 n0:X.N[0]?=some x
 n1:X.N[1]?=some y
 l0:X.env.scope.names.lookup x=some .local
 l1:X.env.scope.names.lookup y=some .local
 d0:wF x=false
 d1:wF y=false
theorem aef{sc:Scope}(h:xX sc x=true):sc.names.lookup x=some .globalImplicit:=by
 unfold xX at h;split at h
 .assumption
 .cases h
theorem akr(k:KX X p D d n x y kc H0){e:Expr}{c:Str}(h:kEl X.env.scope x kc e=some c):PE X e (tKb H0 p.1 (n==c))/\nst e=true:=by
 unfold kEl at h;split at h
 .next i p1 e' p2 c' p3 p4=>
  obtain⟨hb,h⟩:=aP.mp h;cases h;simp only[asw,asO]at hb;obtain⟨b1,b2,b3,b4,b5,b6⟩:=hb;cases at8 b1;cases at8 b2;obtain⟨Cc,m1,m2⟩:=k.mc c (by simpa using b6);have he:=pe_var (X:=X) (pos:=p2) k.n0 (.inl k.l0) (jK k.d0).1 (jK k.d0).2;have hc:PE X (.Name c p3) (tC (.ref Cc)):=pe_glob (aef b4) m1 rfl (jK b5).1;have h1:=pa_cons he (pa_cons hc pa_nil (bQ (a:=.Name c p3) rfl [])) (bQ (a:=.Name x p2) rfl [.Name c p3]);have key:=pe_callB (pos:=p4) (p:=p1) (ag0 k.C k.pn k.z k.f) (aef b3) k.mi (by decide +kernel) h1 (by decide) (by decide) (bQ (a:=.Name x p2) rfl [.Name c p3]) (star_any [.Name c p3] rfl);refine⟨PE.weak key λσ H Q ⟨o,I,q⟩=>⟨_,I.sl,?_⟩,rfl⟩;exact⟨Cc,_,rfl,k.dk.ex I.ex,m2,q⟩
 .cases h
theorem ae4(k:KX X p D d n x y kc H0):∀{es:List Expr} {cs:List Str},kEs X.env.scope x kc es=some cs->PA X es (tKa H0 p.1 (cs.map (n==·)))
 |[],cs,h=>by
  cases h;exact PA.weak pa_nil λσ H Q ⟨o,I,q⟩=>q
 |e::es,cs,h=>by
  rw[kEs]at h;obtain⟨c,h1,h⟩:=asu.mp h;obtain⟨cs',h2,h⟩:=asu.mp h;cases h;obtain⟨g1,g2⟩:=akr k h1;exact PA.weak (pa_cons g1 (ae4 k h2) (bQ g2 es)) λσ H Q ⟨o,I,q⟩=>⟨o,I,o,I,q⟩
theorem Yg(k:KX X p D d n x y kc H0):∀{e:Expr} {f:KF},kE X.env.scope x y kc e=some f->PE X e (tKe H0 p.1 (f n))/\DW e=false
 |.List es _,f,h=>by
  rw[kE]at h;obtain⟨cs,h1,h⟩:=asu.mp h;obtain⟨hl,h⟩:=aP.mp h;cases h;refine⟨PE.weak (pe_lst (ae4 k h1)) λσ H Q ⟨o,bs,I,e,q⟩=>?_,rfl⟩;cases e;have hl:cs.length<=100:=atZ hl;refine⟨o,I,sz_of (by rw[asK,asK];omega),λl nl=>q l _ (Ex.new nl) ?_ at7⟩;cases hh:H0 l with
  |none=>rfl
  |some u=>rw[I.ex _ _ hh]at nl;cases nl
 |.Name z _,f,h=>by
  rw[kE]at h;obtain⟨hz,h⟩:=aP.mp h;cases h;cases at8 hz;refine⟨PE.weak (pe_var (X:=X) k.n1 (.inl k.l1) (jK k.d1).1 (jK k.d1).2) λσ H Q ⟨o,bs,I,e,q⟩=>?_,rfl⟩;obtain⟨l,i1,i2,i3⟩:=I.x bs e;exact⟨.ref l,i1,q l H (Ex.refl H) i3 i2⟩
 |.BinOp a .Add b _,f,h=>by
  rw[kE]at h;obtain⟨f1,h1,h⟩:=asu.mp h;obtain⟨f2,h2,h⟩:=asu.mp h;cases h;refine⟨PE.weak (pe_op abA (Yg k h1).1 (Yg k h2).1) λσ H Q ⟨o,bs,I,e,q⟩=>?_,rfl⟩;obtain⟨b1,e1,e⟩:=asu.mp e;obtain⟨b2,e2,e⟩:=asu.mp e;obtain⟨hl,e⟩:=aP.mp e;cases e;have hl:b1.length+b2.length<=1000:=atZ hl;refine⟨o,b1,I,e1,λl1 H1 x1 n1 g1=>⟨o,b2,I.to x1,e2,λl2 H2 x2 n2 g2=>?_⟩⟩;refine⟨l1,l2,_,_,rfl,rfl,.inl (.inl (x2 _ _ g1)),.inl (.inl g2),sz_of (by rw[asK,asK];omega),λl nl=>q l _ ((x1.trans x2).trans (Ex.new nl)) ?_ (by rw[as8];exact at7)⟩;cases hh:H0 l with
  |none=>rfl
  |some u=>rw[x2 _ _ (x1 _ _ (I.ex _ _ hh))]at nl;cases nl
theorem ahj(k:KX X p D d n x y kc H0):∀{b:List Stmt} {f:KF},kB X.env.scope x y kc b=some f->PSs X b (tKs H0 p.1 (f n))
 |[.Return (some e) _],f,h=>by
  rw[kB]at h;refine PSs.weak (pss_cons (ps_ret (Yg k h).1) pss_nil) λD σ H ⟨o,bs,I,e,q⟩=>⟨o,bs,I,e,λl H' x1 n1 g1=>q l H' (I.ex.trans x1) n1 g1⟩
 |.Assign [.Name z zp] e ep::r,f,h=>by
  rw[kB]at h;obtain⟨f1,h1,h⟩:=asu.mp h;obtain⟨f2,h2,h⟩:=asu.mp h;obtain⟨hz,h⟩:=aP.mp h;cases h;cases at8 hz;obtain⟨g1,g2⟩:=Yg k h1;have sw:swappedStores [.Name y zp] e X.env=pure none:=by unfold kE at h1;split at h1<;>first | rfl | cases h1
  refine PSs.weak (pss_cons (ps_asg g1 (pg_name k.nd k.n1 (.inl k.l1) (.inr k.l1)) (Di g2) sw (by with_unfolding_all rfl)) (ahj k h2)) λD σ H ⟨o,bs,I,e,q⟩=>?_;obtain⟨b1,e1,e⟩:=asu.mp e;refine⟨o,b1,I,e1,λl H' x1 n1 y1=>⟨some b1,bs,⟨I.ex.trans x1,?_,by rw[as5];exact I.ln,λbs' h'=>?_⟩,e,q⟩⟩
  .rw[asI (by decide)];exact I.sl
  .cases h';exact⟨l,asT I.ln,y1,n1⟩
end
def ajJ(K:asv)(mg:Str->Option Value)(aj:aQ)(kc kt:List Str):Prop:=∀n∈kt,∃D,aj n=some D/\L2.ExcC K D/\∀c∈kc,∃Cc,mg c=some (.ref Cc)/\PySem.W.kitOne K (.ref D) (.ref Cc)=some (n==c)
def akJ(kt:List Str)(f:KF):Str->Option (List Bool):=λn=>gd (kt.contains n) (f n none)
theorem alg{P:Program}{w:World}{K:asv}{mg:Str->Option Value}{base:Heap}{aj:aQ}{x qual a b:Str}{st:Stmt}{f:Addr}{fd:FuncData}{k:Nat}{kc kt:List Str}{F:KF}
  (U:Fun K x qual st f fd) (S:FnScope [a,b] [a] (defScope st)) (l0:(defScope st).names.lookup a=some .local) (l1:(defScope st).names.lookup b=some .local) (d0:wF a=false) (d1:wF b=false) (mi:mg "isinstance"=none)
  (hk:ajJ K mg aj kc kt) (h:kB (defScope st) a b kc (defBody st)=some F):FnK P w K mg base aj (k+1) f fd [a] (akJ kt F):=by
 obtain⟨oc,od,kV,doc,pm,an,cdv,ct,osl,rfl,lk,hcd⟩:=U.ex;intro A outer s H args p cls d n bs Q E hr hz hf hd hpin e0 hb ⟨C,c1,c2⟩ hn q;obtain⟨hn1,hn2⟩:=aP.mp hn;obtain⟨D,k1,k2,k3⟩:=hk n (by simpa using hn1);rw[c1]at k1;cases k1;subst c2;have KX0:K.In s.heap:=e0.mod.kin.keeps λb o e=>(e0.bs b o e).1;have lim:s.heap.NoLimit:=e0.mod.nolimit.keeps λb o e=>(e0.bs b o e).1;have r:Vals [V.ref p.1] [Value.ref p.1]:=.cons rfl .nil;refine codeAny_call_function hr.depth (KX0 _ _ lk) rfl S.co S.gen rfl (PySem.W.codeRec_of KX0 hcd) (hb _ _ _ _ ?_);refine wpAny_newFunctionEnv_cells S.kind (λy hy=>.inl ?_) λenv he s1 z=>?_
 .have:y.1=a:=by
   have:=(List.of_mem_zip hy).1;simpa using this
  rw[this];exact l0
 subst he;have I:=L2H.inv_startH (CX:=L2.CX P w) (E:=E) (w:=w) S hpin e0 rfl r z;have kx:KX (L2H.cxH (L2.CX P w) P w K mg base [a,b] qual (defScope st) f cdv A outer s H E p) p C d n a b kc H:=
  ⟨k2,asF.mpr rfl,hz,hf,hd,mi,k3,S.nd,rfl,rfl,l0,l1,d0,d1⟩
 refine⟨lim.keeps z.toInCall.keep,codeAny_func (wpAny_mono ((ahj kx h).run [] s1 (L2.start [a,b] [V.ref p.1]) H { nx:=λ_ _=>False,rt:=Q } I ⟨none,bs,⟨Ex.refl H,rfl,by simp[L2.start],λ_ y=>nomatch y⟩,hn2,λl H' x1 n1 g1=>q l H' x1 n1 g1⟩) (λfl s' hs=>?_) λe s' hs=>hs)⟩;cases fl with
 |ret u=>
  obtain⟨v,σ',H',J,rv,q⟩:=hs;exact⟨v,H',J.os,J.bare,J.base,J.hok,rv,q⟩
 |next=>
  obtain⟨_,_,_,q⟩:=hs;exact atX q
 |brk=>
  obtain⟨_,_,_,q⟩:=hs;exact atX q
 |cont=>
  obtain⟨_,_,_,q⟩:=hs;exact atX q
abbrev GA:=Mo->Env->bx (List Dat)
def tEA(K:asv)(aj:aQ)(W:WX)(q:Bool)(f:GA):TA:=λσ H Q=>∃g Z M,SInv K aj σ H g Z M/\(f M Z).sat (λds M'=>∀vs H' g',Gr q g g' H H'->SInv K aj σ H' g' Z M'->aJ K g' H' vs ds->Q vs H') (gE K aj W q g H σ Z)
def GAe(aj:aQ)(X:Cx)(W:WX)(q:Bool)(es:List Expr)(f:GA):Prop:=PA X es (tEA X.K aj W q f)
def Ug:GA:=λM _=>.ok [] M
def Az(a:GF)(r:GA):GA:=λM Z=>(a M Z).bind λd M1=>(r M1 Z).bind λds M2=>.ok (d::ds) M2
def Tq(m:Mo->List Dat->bx Dat)(as:GA):GF:=λM Z=>(as M Z).bind λds M1=>m M1 ds
def TF(m:Mo->List Dat->Out Dat)(as:GA):GF:=λM Z=>(as M Z).bind λds M1=>(m M1 ds).at M1
section
variable{X:Cx}{aj:aQ}{W:WX}{q:Bool}{a b e:Expr}{es:List Expr}{pos p:Pos}
theorem aky:GAe aj X W q [] Ug:=PA.weak pa_nil λσ H Q ⟨g,Z,M,I,h⟩=>h [] H g .refl I .nil
theorem aju{fa:GF}{fr:GA}(ha:GE aj X W q a fa)(hr:GAe aj X W q es fr)(hs:nst a=true):GAe aj X W q (a::es) (Az fa fr):=
 PA.weak (pa_cons ha hr (bQ hs es)) λσ H Q ⟨g,Z,M,I,h⟩=>by
  refine tE.go I h.bnd λd M1 v H1 g1 h1 r1 I1 rv=>?_;exact⟨g1,Z,M1,I1,h1.bnd.mono (λds M2 h2 vs H2 g2 r2 I2 rs=>h2 (v::vs) H2 g2 (r1.trans r2) I2 (.cons (rv.gr r2 I1.kd) rs)) λx M' z=>z.gr r1⟩
variable{x:Str}{k:Nat}{f:Addr}{fd:FuncData}{ps:List Str}
theorem af0{m:Mo->List Dat->bx Dat}{as:GA}(tk:Takes X W)(F:FnOk X.prog X.w X.K X.mg X.base (L2.CX X.prog X.w) k f fd ps (Jm X.K aj ps.length m))(hr:Room k X.A)(hg:Gl X x)(hm:X.mg x=some (.ref f))(hk:PySem.W.keepIn X.K (.ref f)=true)(hb:Binds X.K fd ps [])
  (ha:GAe aj X W false (e::es) as) (hl:(e::es).length=ps.length) (hd:(x==("__debug__" : Str))=false) (hs:(e::es).all nst=true) (hn:∀M Z ds M',as M Z=.ok ds M'->ds.length=(e::es).length):GE aj X W false (.Call (.Name x p) (e::es) [] pos) (Tq m as):=by
 have hs':=hs;rw[atc,asw]at hs';refine PE.weak (pe_callS (E:=λσ=>WE W σ) F hr hg hm hk hb (λσ=>passAt tk σ) ha hd (bQ hs'.1 es) (star_any es hs'.2)) λσ H Q ⟨g,Z,M,I,h⟩=>?_;refine⟨g,Z,M,I,?_⟩;have h:=h.bnd;cases has:as M Z with
 |exc x M1=>rw[has]at h;exact h
 |bad=>rw[has]at h;exact atX h
 |ok ds M1=>
  rw[has]at h;have h:(m M1 ds).sat (λd M'=>∀v H' g',Gr false g g' H H'->SInv X.K aj σ H' g' Z M'->Rep X.K g' H' v d->Q v H') (gE X.K aj W false g H σ Z):=h;intro vs H1 g1 r1 I1 rs;exact⟨by rw[rs.length,hn M Z ds M1 has];exact hl,g1,M1,ds,I1.kd,I1.wok,rs,h.mono (λd M' kk v H' g' c k' w' r'=>kk v H' g' (r1.trans c.gr) (I1.call c k' w') r') λx M' kk H' g' cc dd c k' w' r'=>kk H' g' cc dd (r1.trans c.gr) (I1.call c k' w') r'⟩
theorem ahe{m:Mo->List Dat->Out Dat}{as:GA}(tk:Takes X W)(F:FnOk X.prog X.w X.K X.mg X.base (L2.CX X.prog X.w) k f fd ps (TY X.K aj ps.length m))(hr:Room k X.A)(hg:Gl X x)(hm:X.mg x=some (.ref f))(hk:PySem.W.keepIn X.K (.ref f)=true)(hb:Binds X.K fd ps [])
  (ha:GAe aj X W false (e::es) as) (hl:(e::es).length=ps.length) (hd:(x==("__debug__" : Str))=false) (hs:(e::es).all nst=true) (hn:∀M Z ds M',as M Z=.ok ds M'->ds.length=(e::es).length):GE aj X W false (.Call (.Name x p) (e::es) [] pos) (TF m as):=by
 have hs':=hs;rw[atc,asw]at hs';refine PE.weak (pe_callS (E:=λσ=>WE W σ) F hr hg hm hk hb (λσ=>passAt tk σ) ha hd (bQ hs'.1 es) (star_any es hs'.2)) λσ H Q ⟨g,Z,M,I,h⟩=>?_;refine⟨g,Z,M,I,?_⟩;have h:=h.bnd;cases has:as M Z with
 |exc x M1=>rw[has]at h;exact h
 |bad=>rw[has]at h;exact atX h
 |ok ds M1=>
  rw[has]at h;have h:((m M1 ds).at M1).sat (λd M'=>∀v H' g',Gr false g g' H H'->SInv X.K aj σ H' g' Z M'->Rep X.K g' H' v d->Q v H') (gE X.K aj W false g H σ Z):=h;intro vs H1 g1 r1 I1 rs;exact⟨by rw[rs.length,hn M Z ds M1 has];exact hl,g1,M1,ds,I1.kd,I1.wok,rs,(Out.iY h).mono (λd kk v H' e' r'=>kk v H' g1 (r1.trans (Gr.ex e')) (I1.ex e') r') λx kk H' cc dd e' r'=>kk H' g1 cc dd (r1.trans (Gr.ex e')) (I1.ex e') r'⟩
def yN(a:GT):GT:=λM Z=>(a M Z).bind λb M1=>.ok (!b) M1
def Yk(a b:GT):GT:=λM Z=>(a M Z).bind λx M1=>if x=true then b M1 Z else .ok false M1
def QM(a b:GT):GT:=λM Z=>(a M Z).bind λx M1=>if x=true then .ok true M1 else b M1 Z
def yR(a:GF):GT:=λM Z=>(a M Z).bind λd M1=>(JK d).at M1
theorem alr{ta:GT}(ha:IW aj X W q a ta):IW aj X W q (.UnaryOp .Not a pos) (yN ta):=
 PT.weak (pt_not ha) λσ H Q ⟨g,Z,M,I,h⟩=>Sq.go I h.bnd λb M' H1 g1 h1 r1 I1=>h1 H1 g1 r1 I1
theorem amw{rest:List Expr}{ta tb:GT}(ha:IW aj X W q a ta)(hb:IW aj X W q (.BoolOp .And (b::rest) pos) tb):IW aj X W q (.BoolOp .And (a::b::rest) pos) (Yk ta tb):=by
 have hb':PW X (.BoolOp .And (b::rest) pos) (Sq X.K aj W q tb):=⟨λwh pins s σ H Q I z=>hb.run pins s σ H Q I z⟩;refine PT.weak (PW.pt (pw_and ha hb')) λσ H Q ⟨g,Z,M,I,h⟩=>?_;refine Sq.go I h.bnd λx M1 H1 g1 h1 r1 I1=>?_;cases x with
 |true=>exact⟨g1,Z,M1,I1,h1.mono (λb M' k H' g' r' I'=>k H' g' (r1.trans r') I') λ_ _ z=>z.gr r1⟩
 |false=>exact h1 H1 g1 r1 I1
theorem am1{rest:List Expr}{ta tb:GT}(ha:IW aj X W q a ta)(hb:IW aj X W q (.BoolOp .Or (b::rest) pos) tb):IW aj X W q (.BoolOp .Or (a::b::rest) pos) (QM ta tb):=by
 have hb':PW X (.BoolOp .Or (b::rest) pos) (Sq X.K aj W q tb):=⟨λwh pins s σ H Q I z=>hb.run pins s σ H Q I z⟩;refine PT.weak (PW.pt (pw_or ha hb')) λσ H Q ⟨g,Z,M,I,h⟩=>?_;refine Sq.go I h.bnd λx M1 H1 g1 h1 r1 I1=>?_;cases x with
 |true=>exact h1 H1 g1 r1 I1
 |false=>exact⟨g1,Z,M1,I1,h1.mono (λb M' k H' g' r' I'=>k H' g' (r1.trans r') I') λ_ _ z=>z.gr r1⟩
theorem al5{fa:GF}(ha:GE aj X W q a fa)(he:∀whole,isTrue a X.env whole=(do let v <-whole;standAt a.pos;holding [v] (truthy v))):IW aj X W q a (yR fa):=
 PT.weak (pt_truth ha he) λσ H Q ⟨g,Z,M,I,h⟩=>by
  refine tE.go I h.bnd λd M1 v H1 g1 h1 r1 I1 rv=>?_;obtain⟨k,h2,h3⟩:=adD rv.weak (Out.iY h1);exact⟨k,h2,h3 H1 g1 r1 I1⟩
end
def ZL(s:Ts)(c:Tc):List Expr->Option GA
 |[]=>some Ug
 |a::es=>gd (nst a) ((s.G c a).bind λfa=>(ZL s c es).bind λfr=>some (Az fa fr))
section
variable{aj:aQ}{c:Tc}{X:Cx}{W:WX}{k:Nat}{t:Tr}{s:Ts}{q:Bool}
theorem VJ(os:s.Ok q)(a:uO aj c X W k):∀{es:List Expr} {f:GA},ZL s c es=some f->GAe aj X W q es f/\es.all nst=true/\∀M Z ds M',f M Z=.ok ds M'->ds.length=es.length
 |[],f,h=>by
  cases h;exact⟨aky,rfl,λM Z ds M' e=>by cases e;rfl⟩
 |e::es,f,h=>by
  rw[ZL,aP]at h;obtain⟨hs,h⟩:=h;obtain⟨fa,h1,h⟩:=asu.mp h;obtain⟨fr,h2,h⟩:=asu.mp h;cases h;obtain⟨i1,i2,i3⟩:=VJ os a h2;refine⟨aju (os.og a h1) i1 hs,by simp[hs,i2],λM Z ds M' e=>?_⟩;unfold Az at e;cases hf:fa M Z with
  |ok d M1=>
   rw[hf]at e;have e:((fr M1 Z).bind λds M2=>bx.ok (d::ds) M2)=.ok ds M':=e;cases hr:fr M1 Z with
   |ok dr M2=>
    rw[hr]at e;cases e;simp[i3 M1 Z dr _ hr]
   |exc y M2=>rw[hr]at e;cases e
   |bad=>rw[hr]at e;cases e
  |exc y M1=>rw[hf]at e;cases e
  |bad=>rw[hf]at e;cases e
def xG(t:Tr)(s:Ts)(c:Tc):Expr->Option GF
 |.Call (.Name x _) [] [] _=>(match c.G.lookup x with
  |some (.cls 0 m)=>gd (xX c.sc x&&!wF x) (some (yI x m au))
  |_=>none)
 |.Call (.Name x _) (e::es) [] _=>(match c.G.lookup x with
  |some (.fg n m)=>gd (xX c.sc x&&(!wF x&&decide ((e::es).length=n))) (match KN t c (e::es) with
   |some as=>some (wX m as)
   |none=>(ZL s c (e::es)).bind λas=>some (Tq m as))
  |some (.fq n m)=>gd (xX c.sc x&&(!wF x&&decide ((e::es).length=n))) ((ZL s c (e::es)).bind λas=>some (TF m as))
  |some (.cls n m)=>gd (xX c.sc x&&(!wF x&&decide ((e::es).length=n))) ((KN t c (e::es)).bind λas=>some (yI x m as))
  |_=>none)
 |.Call (.Attribute o m apos) es [] pos=>(c.hs.Ms.lookup m).bind λtb=>(t.W c o).bind λfo=>(KN t c es).bind λas=>
  gd (tbN tb (es.length+1)&&(baseOk o&&(decide (es.length<30)&&(apos.endLine==pos.line)))) (some (bR tb fo as))
 |_=>none
theorem amI(o:t.Ok)(os:s.Ok false)(a:uO aj c X W k){e:Expr}{f:GF}(h:xG t s c e=some f):GE aj X W false e f:=by
 unfold xG at h;split at h
 .split at h
  .next m hl=>
   obtain⟨hb,h⟩:=aP.mp h;cases h;simp only[asw,asO]at hb;exact aiE a.rm (a.gl _ _ hl) (oX a.toAmb hb.1) (jK hb.2).1
  .cases h
 .split at h
  .next n m hl=>
   obtain⟨hb,h⟩:=aP.mp h;simp only[asw,asO,atY]at hb;obtain⟨b1,b2,b3⟩:=hb;obtain⟨fa,hm,hk,fd,ps,j,hj,hp,hB,F⟩:=a.gl _ _ hl;split at h
   .next as h1=>
    cases h;obtain⟨i1,i2,i3⟩:=wz o a.toAmb h1;exact ajC (a.tw hl rfl) F (a.rm.mono hj) (oX a.toAmb b1) hm hk hB i1 (b3.trans hp.symm) (jK b2).1 i2 i3
   .obtain⟨as,h1,h⟩:=asu.mp h;cases h;obtain⟨i1,i2,i3⟩:=VJ os a h1;exact af0 (a.tw hl rfl) F (a.rm.mono hj) (oX a.toAmb b1) hm hk hB i1 (b3.trans hp.symm) (jK b2).1 i2 i3
  .next n m hl=>
   obtain⟨hb,h⟩:=aP.mp h;simp only[asw,asO,atY]at hb;obtain⟨b1,b2,b3⟩:=hb;obtain⟨fa,hm,hk,fd,ps,j,hj,hp,hB,F⟩:=a.gl _ _ hl;obtain⟨as,h1,h⟩:=asu.mp h;cases h;obtain⟨i1,i2,i3⟩:=VJ os a h1;exact ahe (a.tw hl rfl) F (a.rm.mono hj) (oX a.toAmb b1) hm hk hB i1 (b3.trans hp.symm) (jK b2).1 i2 i3
  .next n m hl=>
   obtain⟨hb,h⟩:=aP.mp h;simp only[asw,asO,atY]at hb;obtain⟨b1,b2,b3⟩:=hb;obtain⟨as,h1,h⟩:=asu.mp h;cases h;obtain⟨i1,i2,i3⟩:=wz o a.toAmb h1;exact alf a.rm (a.gl _ _ hl) (oX a.toAmb b1) (jK b2).1 i1 i2 (λM Z ds z=>by rw[i3 M Z ds z];exact b3)
  .cases h
 .next b m apos es pos=>
  obtain⟨tb,h1,h⟩:=asu.mp h;obtain⟨fo,h2,h⟩:=asu.mp h;obtain⟨as,h3,h⟩:=asu.mp h;obtain⟨hb,h⟩:=aP.mp h;cases h;simp only[asw,atY]at hb;obtain⟨b2,b3,b4,b5⟩:=hb;obtain⟨i1,i2,i3⟩:=wz o a.toAmb h3;cases es with
  |nil=>
   cases h3;exact agt (a.tm h1) a.rm (Yd a.toAmb h1 b2) (o.ow a.toAmb h2) b3 b5
  |cons e es=>exact aiM (a.tm h1) a.rm (Yd a.toAmb h1 b2) (o.ow a.toAmb h2) i1 i3 b3 i2 b5 b4
 .cases h
def xH(t:Tr)(s:Ts)(c:Tc):Expr->Option GT
 |.UnaryOp .Not a _=>(s.H c a).bind λf=>some (yN f)
 |.BoolOp .And (a::b::r) p=>(s.H c a).bind λf=>(s.H c (.BoolOp .And (b::r) p)).bind λg=>some (Yk f g)
 |.BoolOp .Or (a::b::r) p=>(s.H c a).bind λf=>(s.H c (.BoolOp .Or (b::r) p)).bind λg=>some (QM f g)
 |.BoolOp _ [a] _=>s.H c a
 |e=>gd (valT e) ((s.G c e).bind λf=>some (yR f))
theorem anE(o:t.Ok)(os:s.Ok q)(a:uO aj c X W k){e:Expr}{f:GT}(h:xH t s c e=some f):IW aj X W q e f:=by
 unfold xH at h;split at h
 .obtain⟨f1,h1,h⟩:=asu.mp h;cases h;exact alr (os.oh a h1)
 .obtain⟨f1,h1,h⟩:=asu.mp h;obtain⟨f2,h2,h⟩:=asu.mp h;cases h;exact amw (os.oh a h1) (os.oh a h2)
 .obtain⟨f1,h1,h⟩:=asu.mp h;obtain⟨f2,h2,h⟩:=asu.mp h;cases h;exact am1 (os.oh a h1) (os.oh a h2)
 .next op _ _=>
  cases op
  .exact PW.pt (pw_and1 (os.oh a h))
  .exact PW.pt (pw_or1 (os.oh a h))
 .obtain⟨hv,h⟩:=aP.mp h;obtain⟨f1,h1,h⟩:=asu.mp h;cases h;exact al5 (os.og a h1) (abh hv)
theorem JL{e o:Expr}{f:Str}{p:Pos}{l:Nat}{env:PySem.Env}:swapsWith e (some (.Attribute o f p)) l env=pure false:=by cases e<;>rfl
theorem agc{e o:Expr}{i:Expr}{p:Pos}{l:Nat}{env:PySem.Env}:swapsWith e (some (.Subscript o i p)) l env=pure false:=by cases e<;>rfl
theorem agC{o:Expr}{f:Str}{p spos:Pos}{i:Expr}{env:PySem.Env}(h:Ze i=false):∀v,assign (.Subscript (.Attribute o f p) i spos) env v=(do
   let ov <-holding [v] (eval (.Attribute o f p) env)
   let iv <-holding [v,ov] (eval i env)
   standAt spos
   holding [v,ov,iv] (setItem ov iv v)
   release [v,ov,iv] []):=λv=>by
 cases i<;>first | (with_unfolding_all rfl) | cases h
def ale(t:Tr)(c:Tc)(kx tg iter:Expr)(scope:Scope):Option (Mo->Env->Out (List (Dat×Dat))):=
 (t.I c false tg iter).bind λit=>(Xf (c.inn scope) tg).bind λjt=>(t.E (c.inn scope) kx).bind λte=>
  gd (blkC c.N c.sc scope (qQ tg jt.1)&&(Rg jt.1 ((qQ tg jt.1).map (·.2))&&!z7 iter)) (some (qDc it jt.2 ((qQ tg jt.1).map (·.2)) te))
theorem af3(a:Amb aj c X W k):X.A.units+64<cLine:=by have:=a.rm.un;omega
def agN(t:Tr)(s:Ts)(c:Tc)(o:Expr)(f:Str):Expr->Option SF
 |.Dict [] [] _=>(t.W c o).bind λfo=>(c.hs.df.lookup f).bind λb=>some (Oh c.hs.ft fo f b)
 |.DictComp kx (.Constant (.bool true) _ _) [⟨tg,iter,[],0⟩] scope _=>(t.W c o).bind λfo=>(ale t c kx tg iter scope).bind λfe=>some (RL c.hs.ft fo f fe)
 |.List es p=>(t.W c o).bind λfo=>(trN t c (.List es p)).bind λfe=>some (Gm c.hs.ft fo f fe)
 |e=>gd (!DW e) ((t.W c o).bind λfo=>(s.G c e).bind λfe=>some (vL c.hs.ft fo f fe))
theorem aik(ot:t.Ok)(os:s.Ok false)(a:uO aj c X W k){o e:Expr}{f:Str}{p pos:Pos}{sf:SF}(h:agN t s c o f e=some sf):SE aj X W false (.Assign [.Attribute o f p] e pos) sf:=by
 have hk:=a.hk;unfold agN at h;split at h
 .obtain⟨fo,h1,h⟩:=asu.mp h;obtain⟨b,h2,h⟩:=asu.mp h;cases h;exact ah9 hk.co hk.fk hk.hw (ot.ow a.toAmb h1) JL
 .obtain⟨fo,h1,h⟩:=asu.mp h;obtain⟨fe,h2,h⟩:=asu.mp h;cases h;unfold ale at h2;obtain⟨it,i1,h2⟩:=asu.mp h2;obtain⟨⟨js,tf⟩,i2,h2⟩:=asu.mp h2;obtain⟨te,i3,h2⟩:=asu.mp h2;obtain⟨hb,h2⟩:=aP.mp h2;cases h2;simp only[asw,asO]at hb;obtain⟨b1,b2,b3⟩:=hb;exact ajk hk.co hk.fk (ot.ow a.toAmb h1) (aml (g:=Ar X.K aj js tf) (tk:=tQ X.K aj WF te) a.calm a.nd (af3 a.toAmb) (ot.oi a.toAmb i1) (blkOk_by (by rw[a.hN,a.hs];exact b1)) (λs H C cl fp=>wu (a.toAmb.inn _ s H C cl fp) i2) (λs H C cl fp=>ot.oe (a.toAmb.inn _ s H C cl fp) i3) (tK b3)) (λσ H Q z=>anC hk.hw (qO b2) σ H Q z) JL
 .obtain⟨fo,h1,h⟩:=asu.mp h;obtain⟨fe,h2,h⟩:=asu.mp h;cases h;exact ajD hk.co hk.fk (ot.ow a.toAmb h1) (adU ot a.toAmb h2).1 JL
 .obtain⟨hc,h⟩:=aP.mp h;obtain⟨fo,h1,h⟩:=asu.mp h;obtain⟨fe,h2,h⟩:=asu.mp h;cases h;exact aix hk.co hk.fk (ot.ow a.toAmb h1) (os.og a h2) JL
def Zf(n:Str):List Expr->Option (List Str)
 |[]=>some []
 |.Attribute (.Name m _) f _::es=>gd (m==n) ((Zf n es).bind λfs=>some (f::fs))
 |_=>none
def GV.kn:GV->Option (Str->Option (List Bool))
 |.kin κ=>some κ
 |_=>none
def acq(c:Tc)(nm:Option Str):Expr->Option Gj
 |.Constant (.str x) _ _=>some (.con (.str x))
 |.Constant .none _ _=>some (.con .none)
 |.Tuple [] _ _=>some (.con (.tuple []))
 |.Attribute (.Name m _) f _=>nm.bind λn=>gd (m==n) (some (.fld f))
 |.Tuple es _ _=>nm.bind λn=>(Zf n es).bind λfs=>some (.flds fs)
 |.Call (.Name f _) [.Name m _] [] _=>nm.bind λn=>gd (m==n&&(xX c.sc f&&!wF f)) ((c.G.lookup f).bind λv=>v.kn.bind fun κ=>some (.kin κ))
 |_=>none
def Gj.fs:Gj->List Str
 |.con _=>[]
 |.fld f=>[f]
 |.flds fs=>fs
 |.kin _=>[]
def acR(c:Tc)(nm:Option Str):List Stmt->Option (List (Nat×Gj))
 |[]=>some []
 |.Assign [.Name x _] e _::r=>(wW c x).bind λj=>(acq c nm e).bind λse=>(acR c nm r).bind λst=>some ((j,se)::st)
 |_=>none
def Uu(c:Tc):Option Str->Option (Option Nat)
 |none=>some none
 |some n=>(Mp c n).bind λi=>match c.sc.names.lookup n with
  |some .local=>some (some i)
  |_=>none
def akK(c:Tc):ExceptHandler->Option Hd
 |.ExceptHandler (some (.Name y _)) nm (s0::su) _=>(c.hs.xm.lookup y).bind λtab=>(Uu c nm).bind λi=>(acR c nm (s0::su)).bind λst=>
  (match c.G.lookup y with
  |some .exc=>some true
  |some (.exi _)=>some true
  |_=>none).bind λ_=>
  gd (xX c.sc y&&(!wF y&&(st.all (λp=>match i with
   |some j=>!(j==p.1)
   |none=>true)&&st.all (λp=>p.2.fs.all (λf=>((c.hs.xf.lookup y).getD []).contains f)&&decide (p.2.fs.length<=100))))) (some ⟨y,λx=>tab.lookup x,i,st⟩)
 |_=>none
def Tg(c:Tc):List ExceptHandler->Option (List Hd)
 |[]=>some []
 |h::hs=>(akK c h).bind λd=>(Tg c hs).bind λds=>some (d::ds)
theorem abW{y n:Str}{C:Addr}{a:Addr}{oe:Obj}{cls:Value}{d:Option Addr}{pn:List (Addr×Obj)}{j:Nat}{fl:List Str}(hC:aj y=some C)(T:XfC X.K C)(hno:∀f∈fl,PySem.W.findIn X.K (.ref C) f=some none)(hz:Zc cls d oe)(hf:∃vs,oe.data=.fields vs)(hN:X.N[j]?=some n)(hv:Vis X.env.scope n)(hd:(n==("__debug__" : Str))=false)(hcd:(n==("__classdict__" : Str))=false) :
  ∀{es:List Expr} {fs:List Str},Zf n es=some fs->(∀f∈fs,f∈fl)->PA (X.suite a ((a,oe)::pn)) es (tUA X.K aj a cls d (some j) λx=>TX y x fs)
 |[],fs,h,_=>by
  cases h;exact aeQ
 |.Attribute (.Name m p) f p2::es,fs,h,hs=>by
  rw[Zf]at h;obtain⟨hm,h⟩:=aP.mp h;obtain⟨fr,h1,h⟩:=asu.mp h;cases h;cases at8 hm;exact ajB (ae6 hC T (hno f (hs f asC)) hz hf hN hv hd hcd) (abW hC T hno hz hf hN hv hd hcd h1 λf hf=>hs f (asB _ hf)) rfl
theorem al7{y f:Str}{fa:Addr}{fd:FuncData}{ps:List Str}{j i:Nat}{κ:Str->Option (List Bool)}{a:Addr}{oe:Obj}{cls:Value}{d:Option Addr}{pn:List (Addr×Obj)}{n:Str}{p1 p2 pos:Pos}
  (hr:Room j X.A) (hg:Gl X f) (hm:X.mg f=some (.ref fa)) (hk:PySem.W.keepIn X.K (.ref fa)=true) (hdb:(f==("__debug__" : Str))=false) (hl:ps.length=1) (hB:Binds X.K fd ps []) (F:FnK X.prog X.w X.K X.mg X.base aj j fa fd ps κ)
  (hz:Zc cls d oe) (hf:∃vs,oe.data=.fields vs) (hv:PE (X.suite a ((a,oe)::pn)) (.Name n p2) (tVar i)) :
  PE (X.suite a ((a,oe)::pn)) (.Call (.Name f p1) [.Name n p2] [] pos) (tU X.K aj a cls d (some i) λx=>JB y x (.kin κ)):=by
 refine⟨λpins s σ H Q I ⟨g,Z,M,x,z,XI,e,q⟩=>?_⟩;refine wpAny_Call_Name_kw (ld_glob (X:=X.suite a ((a,oe)::pn)) I hg hm ?_ hdb);refine PySem.W.callWith_K (h₀:=X.base) I.ok.mod.kin hk (thn ((pa_cons hv pa_nil (bQ (a:=.Name n p2) rfl [])).run pos pins s σ H (λvs H1=>vs=[V.ref a]/\H1=H) I ⟨.ref a,XI.sl i rfl,rfl,rfl⟩) λus s1 ⟨vs,H1,I1,r,e1,e2⟩=>⟨I1.kIn,?_⟩) (bQ (a:=.Name n p2) rfl []) (star_any [] rfl);subst e1 e2;obtain⟨bs,e1,e⟩:=asu.mp e;cases e;obtain⟨C,c1,c2,c3⟩:=XI.xr
 obtain rfl:us=[Value.ref a]:=by
  cases r with
  |cons r1 r2=>
   cases r2;cases r1;rfl
 have P1:=I1.pin (a,oe) (atf _ asC);have hpin:L2H.PinOk X.stack H1 s1 (a,oe):=⟨P1.1,P1.2.1,λhm=>(asN.mp (I1.stkSub a hm)).elim P1.2.2.1 P1.2.2.2.1,P1.2.2.2.2⟩;have rel:∀bs:List Bool,∀H',aJ X.K g H' (bs.map V.bl) (bs.map PyData.bool):=λbs H'=>by
  induction bs with
  |nil=>exact .nil
  |cons b bs ih=>exact .cons (.bl b) ih
 refine wpAny_call (codeAny_mono (F (X.A.mark (some (.ref a))) X.stack s1 H1 ⟨[.ref a],[]⟩ (a,oe) cls d x.cls bs Q (λ_ _ _=>False) ⟨hr.dp,hr.un⟩ hz hf (c3.imp (·.2) λ⟨b,fs,z1,z2,_⟩=>⟨b,fs,z1,z2⟩) hpin I1.env0 (hB s1 [.ref a] I1.kIn (by rw[hl];rfl)) ⟨C,c1,c2⟩ e1
  λl H' x1 n1 y1=>q (.ref l) H' x1 (.lst (.inl ⟨y1,XI.inv.kd.fresh n1⟩) (rel bs H'))) λr s' hq=>?_)
 cases r with
 |error ee=>
  obtain⟨_,_,_,_,_,_,_,_,_,_,_,_,z⟩:=hq;exact atX z
 |ok fl=>
  cases fl with
  |ret u=>exact I1.after hq
  |next=>exact atX hq
  |brk=>exact atX hq
  |cont=>exact atX hq
theorem ai5{y:Str}{nm:Option Str}{i:Option Nat}{a:Addr}{oe:Obj}{cls:Value}{d:Option Addr}{pn:List (Addr×Obj)}{e:Expr}{se:Gj}(am:Amb aj c X W k)(hi:Uu c nm=some i)(hy:(c.hs.xf.lookup y).getD []=fl)(hfl:∀f∈se.fs,f∈fl)(hl:se.fs.length<=100)(hz:Zc cls d oe)(hf:∃vs,oe.data=.fields vs)(h:acq c nm e=some se) :
  PE (X.suite a ((a,oe)::pn)) e (tU X.K aj a cls d i λx=>JB y x se):=by
 have fld:∀n j,nm=some n->i=some j->X.N[j]?=some n/\Vis X.env.scope n/\(n==("__debug__" : Str))=false/\(n==("__classdict__" : Str))=false:=λn j e1 e2=>by
  subst e1 e2;unfold Uu at hi;obtain⟨j',h1,hi⟩:=asu.mp hi;split at hi
  .cases hi;exact Ak am h1
  .cases hi
 have hsome:∀n,nm=some n->∃j,i=some j:=λn e1=>by
  subst e1;unfold Uu at hi;obtain⟨j',h1,hi⟩:=asu.mp hi;split at hi
  .cases hi;exact⟨_,rfl⟩
  .cases hi
 have hxf:fl≠[]->∃C,aj y=some C/\XfC X.K C/\∀f∈fl,PySem.W.findIn X.K (.ref C) f=some none:=λne=>by
  cases hx:c.hs.xf.lookup y with
  |none=>
   rw[hx]at hy;exact absurd hy.symm ne
  |some l=>
   rw[hx]at hy;cases hy;exact am.hk.xf y _ hx
 unfold acq at h;split at h
 .cases h;exact aea pe_str λσ H Q ⟨g,Z,M,x,z,I,e,kk⟩=>by
   cases e;exact kk _ H (Ex.refl H) (.str _)
 .cases h;exact aea pe_non λσ H Q ⟨g,Z,M,x,z,I,e,kk⟩=>by
   cases e;exact kk _ H (Ex.refl H) .non
 .cases h;exact PE.weak (afo (aj:=aj) (cls:=cls) (d:=d) (i:=i) aeQ λx zs e=>by cases e;exact atk _) λσ H Q z=>z
 .obtain⟨n,e1,h⟩:=asu.mp h;obtain⟨hm,h⟩:=aP.mp h;cases h;cases at8 hm;obtain⟨j,rfl⟩:=hsome _ e1;obtain⟨f1,f2,f3,f4⟩:=fld _ j e1 rfl;obtain⟨C,c1,c2,c3⟩:=hxf (List.ne_nil_of_mem (hfl _ (asF.mpr rfl)));exact ae6 c1 c2 (c3 _ (hfl _ (asF.mpr rfl))) hz hf f1 f2 f3 f4
 .next es _ _ hne=>
  obtain⟨n,e1,h⟩:=asu.mp h;obtain⟨fs,e2,h⟩:=asu.mp h;cases h;obtain⟨j,rfl⟩:=hsome _ e1;obtain⟨f1,f2,f3,f4⟩:=fld _ j e1 rfl;have hfs:fs≠[]:=λz=>by
   subst z
   match es,e2 with
   |[],_=>exact hne rfl
   |.Attribute (.Name m _) f _::es,e2=>
    rw[Zf]at e2;obtain⟨_,e2⟩:=aP.mp e2;obtain⟨_,_,e2⟩:=asu.mp e2;cases e2
  have hfn:fl≠[]:=by
   cases fs with
   |nil=>exact absurd rfl hfs
   |cons f r=>exact List.ne_nil_of_mem (hfl f asC)
  obtain⟨C,c1,c2,c3⟩:=hxf hfn;exact afo (abW c1 c2 c3 hz hf f1 f2 f3 f4 e2 hfl) λx zs e=>by
   have:=Wr e;have hl:fs.length<=100:=hl;omega
 .obtain⟨n,e1,h⟩:=asu.mp h;obtain⟨hb,h9⟩:=aP.mp h;clear h;simp only[asw,asO]at hb;cases at8 hb.1;obtain⟨j,rfl⟩:=hsome _ e1;obtain⟨f1,f2,f3,f4⟩:=fld _ j e1 rfl;obtain⟨v,hv,h9⟩:=asu.mp h9;obtain⟨κ,hκ,h9⟩:=asu.mp h9;cases h9;cases v with
  |kin κ'=>
   cases hκ;obtain⟨fa,m1,kp,fd,ps,jj,hj,hl,hB,F⟩:=am.gl _ _ hv;exact al7 (am.rm.mono hj) (oX am hb.2.1) m1 kp (jK hb.2.2).1 hl hB F hz hf (pe_var f1 f2 f3 f4)
  |_=>cases hκ
 .cases h
theorem VR{y:Str}{nm:Option Str}{i:Option Nat}{a:Addr}{oe:Obj}{cls:Value}{d:Option Addr}{pn:List (Addr×Obj)}{fl:List Str}(am:Amb aj c X W k)(hi:Uu c nm=some i)(hy:(c.hs.xf.lookup y).getD []=fl)(hz:Zc cls d oe)(hf:∃vs,oe.data=.fields vs) :
  ∀{ss:List Stmt} {st:List (Nat×Gj)},acR c nm ss=some st->(∀p∈st,(∀f∈p.2.fs,f∈fl)/\p.2.fs.length<=100)->PSs (X.suite a ((a,oe)::pn)) ss (tSu X.K aj a cls d i y st)
 |[],st,h,_=>by
  cases h;exact PSs.weak pss_nil λD σ H z=>akk z
 |.Assign [.Name x p] e p2::r,st,h,hs=>by
  rw[acR]at h;obtain⟨j,h1,h⟩:=asu.mp h;obtain⟨se,h2,h⟩:=asu.mp h;obtain⟨st',h3,h⟩:=asu.mp h;cases h;obtain⟨s1,s2,s3⟩:=oR am h1;obtain⟨u1,u2⟩:=hs (j,se) asC;have he:=ai5 (a:=a) (pn:=pn) am hi hy u1 u2 hz hf h2;have hne:DW e=false/\swappedStores [.Name x p] e X.env=pure none:=by unfold acq at h2;split at h2<;>first | exact⟨rfl,rfl⟩ | cases h2
  refine PSs.weak (pss_cons (ps_asg he (pg_name (X:=X.suite a ((a,oe)::pn)) am.nd s1 s2 s3) (Di hne.1) hne.2 (by with_unfolding_all rfl)) (VR am hi hy hz hf h3 λp hp=>hs p (asB _ hp))) λD σ H z=>?_;exact akq z λσ' H' z'=>z'
def aoo(aj:aQ)(K:asv)(h:Hd)(D:Addr):Cl:=⟨.ref D,h.nm,λa cls d=>tSu K aj a cls d h.nm h.y h.st⟩
theorem aaI(am:Amb aj c X W k):∀{hds:List ExceptHandler} {hs:List Hd},Tg c hds=some hs->∃ls,Dc X hds ls/\Jk X.K aj hs ls
 |[],hs,h=>by
  cases h;exact⟨[],.nil,.nil⟩
 |h0::hds,hs,h=>by
  rw[Tg]at h;obtain⟨d,h1,h⟩:=asu.mp h;obtain⟨ds,h2,h⟩:=asu.mp h;cases h;obtain⟨ls,i1,i2⟩:=aaI am h2;unfold akK at h1;split at h1
  .next y np nm s0 su cp=>
   obtain⟨tab,j1,h1⟩:=asu.mp h1;obtain⟨i,j2,h1⟩:=asu.mp h1;obtain⟨st,j3,h1⟩:=asu.mp h1;obtain⟨_,j4,h1⟩:=asu.mp h1;obtain⟨hb,h1⟩:=aP.mp h1;cases h1;simp only[asw,asO]at hb;obtain⟨b1,b2,b3,b4⟩:=hb;obtain⟨⟨D,hD⟩,hx⟩:=am.hk.xm y tab j1;have hm:X.mg y=some (.ref D):=by
    split at j4
    .next hl=>
     obtain⟨C,g1,g2,_⟩:=am.gl y _ hl;rw[hD]at g2;cases g2;exact g1
    .next hl=>
     obtain⟨C,fI,fd,ps,g1,g2,_⟩:=am.gl y _ hl;rw[hD]at g2;cases g2;exact g1
    .cases j4
   have hnames:Names X y (.ref D):=⟨oX am b1,(jK b2).1,.inl hm⟩;have hst:∀p∈st,(∀f∈p.2.fs,f∈(c.hs.xf.lookup y).getD [])/\p.2.fs.length<=100:=λp hp=>by
    have:=asV.mp b4 p hp;rw[asw,atY]at this;exact⟨λf hf=>by simpa using asV.mp this.1 f hf,this.2⟩
   have hnj:∀p∈st,i≠some p.1:=λp hp z=>by
    subst z;have:=asV.mp b3 p hp;simp at this
   refine⟨aoo aj X.K ⟨y,λx=>tab.lookup x,i,st⟩ D::ls,?_,.cons ⟨⟨D,hD,rfl⟩,hx,rfl,rfl,hnj⟩ i2⟩;cases nm with
   |none=>
    cases j2;exact .one hnames rfl (λa oe cls d pn hz hf=>VR am rfl rfl hz hf j3 hst) i1
   |some n=>
    have j2':=j2;unfold Uu at j2;obtain⟨i',s1,j2⟩:=asu.mp j2;split at j2
    .next hloc=>
     cases j2;refine .as hnames rfl (Ak am s1).1 ?_ (λa oe cls d pn hz hf=>VR am j2' rfl hz hf j3 hst) i1;unfold PySem.Env.kindOf;rw[am.hs];exact hloc
    .cases j2
  .cases h1
theorem agV(a:Amb aj c X W k){h:ExceptHandler}{hds:List ExceptHandler}{hs:List Hd}(z:Tg c (h::hds)=some hs):Takes X W:=
 a.tk
theorem uO.tr(a:uO aj c X W k){W':WX}{pn:List (Addr×Obj)}{xe:Value->Shared->Prop}(t:Takes (X.tr pn xe) W')(p:PassesOwn (model X.prog X.w) X.A X.env xe):uO aj c (X.tr pn xe) W' k where
 hN:=a.hN
 hs:=a.hs
 calm:=a.calm
 nd:=a.nd
 tk:=t
 rm:=a.rm
 gl:=a.gl
 bl:=a.bl
 fn:=a.fn
 hk:=a.hk
 ps:=p
 st:=a.st
 fr:=a.fr
 kf:=a.kf
def xS(q:Bool)(t:Tr)(s:Ts)(c:Tc):Stmt->Option SF
 |.Raise (some (.Call (.Name x _) [] [] _)) none _=>(match c.G.lookup x with
  |some .exc=>gd (xX c.sc x&&!wF x) (some (fH x))
  |_=>none)
 |.Raise (some (.Call (.Name x _) (e::es) [] _)) none _=>(match c.G.lookup x with
  |some (.exi fs)=>(KN t c (e::es)).bind λas=>gd (xX c.sc x&&(!wF x&&(decide ((e::es).length=fs.length)&&decide (fs.length<=1000)))) (some (Dr x fs as))
  |_=>none)
 |.Try body (h::hds) [] [] _=>(s.B c body).bind λf=>(Tg c (h::hds)).bind λhs=>some (Qn f hs)
 |.Pass _=>some aH
 |.Expr (.Call (.Attribute (.Attribute o f p1) m apos) [e] [] pos) epos=>(match q with
  |true=>(s.G c (.Call (.Attribute (.Attribute o f p1) m apos) [e] [] pos)).bind λf=>some (cM f)
  |false=>match m=="append" with
   |true=>gd (baseOk o&&(nst e&&(apos.endLine==pos.line))) ((t.W c o).bind λfo=>(s.G c e).bind λfe=>some (FZ f fo fe))
   |false=>(s.G c (.Call (.Attribute (.Attribute o f p1) m apos) [e] [] pos)).bind λf=>some (cM f))
 |.Expr e _=>gd (!DW e) ((s.G c e).bind λf=>some (cM f))
 |.Assign [.Name x p] (.ListComp elt [⟨tg,iter,ifs,0⟩,⟨tg1,iter1,ifs1,0⟩] scope cpos) _=>(wW c x).bind λj=>
  gd (swB c.sc (.ListComp elt [⟨tg,iter,ifs,0⟩,⟨tg1,iter1,ifs1,0⟩] scope cpos) scope x p&&!c.ml.contains x) ((Tn t c elt tg iter ifs tg1 iter1 ifs1 scope).bind λf=>some (aR (aF j) (gOf f)))
 |.Assign [.Attribute o f _] e _=>(match q with
  |true=>none
  |false=>agN t s c o f e)
 |.Assign [.Subscript (.Attribute o f _) i _] e _=>(match q with
  |true=>none
  |false=>gd (baseOk o&&(!Ze i&&!DW e)) ((t.W c o).bind λfo=>(t.E c i).bind λfi=>(t.E c e).bind λfe=>match c.hs.df.lookup f with
   |some _=>some (Oj f fo fi fe)
   |none=>some (T9 f fo fi fe)))
 |.AugAssign (.Attribute o f _) .Add e _=>(match q with
  |true=>none
  |false=>(t.W c o).bind λfo=>(t.E c e).bind λfe=>some (SQ c.hs.ft f fo fe))
 |.Delete [.Subscript (.Attribute o f _) i _] _=>(match q with
  |true=>none
  |false=>gd (baseOk o) ((t.W c o).bind λfo=>(t.E c i).bind λfi=>some (Oq f fo fi)))
 |_=>none
theorem am4(o:t.Ok)(os:s.Ok q)(a:uO aj c X W k){st:Stmt}{f:SF}(h:xS q t s c st=some f):SE aj X W q st f:=by
 have hk:=a.hk;unfold xS at h;split at h
 .split at h
  .next hl=>
   obtain⟨hb,h⟩:=aP.mp h;cases h;simp only[asw,asO]at hb;exact af5 a.calm a.tk (oX a.toAmb hb.1) (jK hb.2).1 (a.gl _ _ hl)
  .cases h
 .split at h
  .next fs hl=>
   obtain⟨as,h1,h⟩:=asu.mp h;obtain⟨hb,h⟩:=aP.mp h;cases h;simp only[asw,asO,atY]at hb;obtain⟨b1,b2,b3,b4⟩:=hb;obtain⟨i1,i2,i3⟩:=wz o a.toAmb h1;exact adH a.calm (a.tw hl rfl) a.rm (oX a.toAmb b1) (jK b2).1 (a.gl _ _ hl) i1 i2 (λM Z ds z=>by rw[i3 M Z ds z];exact b3) b4
  .cases h
 .obtain⟨f1,h1,h⟩:=asu.mp h;obtain⟨hs,h2,h⟩:=asu.mp h;cases h;obtain⟨ls,i1,i2⟩:=aaI a.toAmb h2;exact ajM a.st a.fr a.nd (agV a.toAmb h2) (λW' pn xe t p=>os.ob (a.tr t p) h1) i1 i2
 .cases h;exact PS.weak ps_pass λD σ H ⟨g,Z,M,I,z⟩=>z σ H g .refl I
 .split at h
  .obtain⟨f1,h1,h⟩:=asu.mp h;cases h;exact VN (os.og a h1) (Ir rfl)
  .split at h
   .next hm=>
    obtain⟨hb,h⟩:=aP.mp h;obtain⟨fo,h1,h⟩:=asu.mp h;obtain⟨fe,h2,h⟩:=asu.mp h;cases h;simp only[asw]at hb;cases at8 hm;exact ai2 hk.co (o.ow a.toAmb h1) hb.1 (os.og a h2) hb.2.1 hb.2.2
   .obtain⟨f1,h1,h⟩:=asu.mp h;cases h;exact VN (os.og a h1) (Ir rfl)
 .obtain⟨hb,h⟩:=aP.mp h;obtain⟨f1,h1,h⟩:=asu.mp h;cases h;exact VN (os.og a h1) (Ir (by simpa using hb))
 .obtain⟨j,hj,h⟩:=asu.mp h;obtain⟨hsw,h⟩:=aP.mp h;rw[asw]at hsw;obtain⟨f1,h1,h⟩:=asu.mp h;cases h;obtain⟨s1,s2,s3⟩:=oR a.toAmb hj;have hsw:=hsw.1;rw[<-a.hs]at hsw;have l1:=(RW (l:=0) a.kf hsw).1;have l2:=λl=>(RW (l:=l) a.kf hsw).2;clear h;unfold Tn at h1;obtain⟨it,g1,h⟩:=asu.mp h1;obtain⟨⟨js,tf⟩,h2,h⟩:=asu.mp h;obtain⟨tt,h3,h⟩:=asu.mp h;obtain⟨it1,h4,h⟩:=asu.mp h;obtain⟨⟨js1,tf1⟩,h5,h⟩:=asu.mp h;obtain⟨tt1,h6,h⟩:=asu.mp h;obtain⟨te,h7,h⟩:=asu.mp h;obtain⟨hb,h⟩:=aP.mp h;cases h;simp only[asw,asO]at hb;obtain⟨b1,b2,b3,b4,b5,b6⟩:=hb;have am:=a.toAmb;exact ah1 a.calm a.nd s1 l1 (l2 _) (o.oi am g1) (by rw[a.hN,a.hs];exact b1) (qO b2) (qO b3) (qO b4) (λs H C cl fp=>wu (am.inn _ s H C cl fp) h2) (λs H C cl fp=>xY o (am.inn _ s H C cl fp) h3) (λs H C cl fp=>o.oi (am.inn _ s H C cl fp) h4) (λs H C cl fp=>wu (am.inn _ s H C cl fp) h5) (λs H C cl fp=>xY o (am.inn _ s H C cl fp) h6) (λs H C cl fp=>o.oe (am.inn _ s H C cl fp) h7) (tK b5) (λenv=>tK b6)
 .split at h
  .cases h
  .exact aik o os a h
 .split at h
  .cases h
  .obtain⟨hb,h⟩:=aP.mp h;obtain⟨fo,h1,h⟩:=asu.mp h;obtain⟨fi,h2,h⟩:=asu.mp h;obtain⟨fe,h3,h⟩:=asu.mp h;simp only[asw,asO]at hb;obtain⟨b1,b2,b3⟩:=hb;split at h
   .cases h;exact aiL hk.co hk.hw (af3 a.toAmb) (o.ow a.toAmb h1) b1 (o.oe a.toAmb h2) (o.oe a.toAmb h3) agc
   .cases h;exact aiT hk.co (o.ow a.toAmb h1) b1 (o.oe a.toAmb h3) (o.oe a.toAmb h2) (agC b2) (Di b3) (by with_unfolding_all rfl)
 .split at h
  .cases h
  .obtain⟨fo,h1,h⟩:=asu.mp h;obtain⟨fe,h2,h⟩:=asu.mp h;cases h;exact ah3 hk.co hk.fk (o.ow a.toAmb h1) (o.oe a.toAmb h2)
 .split at h
  .cases h
  .obtain⟨hb,h⟩:=aP.mp h;obtain⟨fo,h1,h⟩:=asu.mp h;obtain⟨fi,h2,h⟩:=asu.mp h;cases h;exact aiC hk.co hk.hw (af3 a.toAmb) (o.ow a.toAmb h1) hb (o.oe a.toAmb h2)
 .cases h
end
def tr0:Tr:=⟨λ_ _=>none,λ_ _=>none,λ_ _=>none,λ_ _ _ _=>none⟩
def akW(t:Tr):Tr:=⟨xtE t,xtW t,xtT t,xtI t⟩
def tr:Nat->Tr
 |0=>tr0
 |n+1=>akW (tr n)
theorem Ac:∀n,(tr n).Ok
 |0=>⟨λ_=>(by intro _ _ h;cases h),λ_=>(by intro _ _ h;cases h),λ_=>(by intro _ _ h;cases h),λ_=>(by intros;rename_i h;cases h)⟩
 |n+1=>⟨λa=>(by intro _ _ h;exact(uV h).elim (am6 (Ac n) a) (ak3 (Ac n) a)),λa=>(by intro _ _ h;exact(uV h).elim (anI (Ac n) a) (aj5 (Ac n) a)),λa=>(by intro _ _ h;exact(uV h).elim (amO (Ac n) a) (akn (Ac n) a)),λa=>(by intro _ _ _ _ h;exact(uV h).elim (am8 (Ac n) a) (ak9 (Ac n) a))⟩
def ts0:Ts:=⟨λ_ _=>none,λ_ _=>none,λ_ _=>none,λ_ _=>none⟩
def ldG(q:Bool)(t:Tr)(s:Ts)(c:Tc)(e:Expr):Option GF:=match q with
 |true=>none
 |false=>xG t s c e
def ldH(q:Bool)(t:Tr)(s:Ts)(c:Tc)(e:Expr):Option GT:=match q with
 |true=>none
 |false=>xH t s c e
def ak5(q:Bool)(t:Tr)(s:Ts):Ts:=⟨λc e=>els ((t.E c e).bind λf=>some (gOf f)) (ldG q t s c e),λc e=>els ((t.T c e).bind λf=>some (ac1 f)) (ldH q t s c e),λc e=>els (stS t s c e) (xS q t s c e),adf s⟩
def ts(q:Bool)(t:Tr):Nat->Ts
 |0=>ts0
 |n+1=>ak5 q t (ts q t n)
theorem Kc{t:Tr}(o:t.Ok)(q:Bool):∀n,(ts q t n).Ok q
 |0=>⟨λ_=>(by intro _ _ h;cases h),λ_=>(by intro _ _ h;cases h),λ_=>(by intro _ _ h;cases h),λ_=>(by intros;rename_i h;cases h)⟩
 |n+1=>⟨λa=>by
   intro _ _ h;rcases uV h with h|h
   .obtain⟨f,h1,h⟩:=asu.mp h;cases h;exact ahP (o.oe a.toAmb h1)
   .cases q with
    |true=>cases h
    |false=>exact amI o (Kc o false n) a h,λa=>by
   intro _ _ h;rcases uV h with h|h
   .obtain⟨f,h1,h⟩:=asu.mp h;cases h;exact ant (o.ot a.toAmb h1)
   .cases q with
    |true=>cases h
    |false=>exact anE o (Kc o false n) a h,λa=>by
   intro _ _ h;rcases uV h with h|h
   .exact amr o (Kc o q n) a h
   .exact am4 o (Kc o q n) a h,λa=>by
   intro _ _ h;exact agK (Kc o q n) a h⟩
def rd(c:Tc)(b:List Stmt):Option SF:=(ts true (tr 40) 60).B c b
def rdG(c:Tc)(b:List Stmt):Option SF:=(ts false (tr 40) 60).B c b
def Dz(P:Program)(w:World)(K:asv)(mg:Str->Option Value)(base:Heap)(aj:aQ)(k:Nat):List (Str×GV)->Prop
 |[]=>True
 |(x,v)::r=>bh P w K mg base aj k x v/\Dz P w K mg base aj k r
def Ds(mg:Str->Option Value):List Str->Prop
 |[]=>True
 |x::r=>mg x=none/\Ds mg r
section
variable{P:Program}{w:World}{K:asv}{mg:Str->Option Value}{base:Heap}{aj:aQ}{k:Nat}
theorem Dz.get:∀{G:List (Str×GV)},Dz P w K mg base aj k G->∀x v,G.lookup x=some v->bh P w K mg base aj k x v
 |[],_,x,v,h=>nomatch h
 |(y,u)::r,g,x,v,h=>by
  rw[asY]at h;split at h
  .next e=>
   cases h;rw[at8 e];exact g.1
  .exact g.2.get x v h
theorem Ds.get:∀{B:List Str},Ds mg B->∀x,x∈B->mg x=none
 |[],_,x,h=>nomatch h
 |y::r,g,x,h=>by
  rcases asN.mp h with rfl|h
  .exact g.1
  .exact g.2.get x h
theorem aew{qual:Str}{st:Stmt}{f:Addr}{N ps ml B:List Str}{G:List (Str×GV)}{Ms:Hs}(S:FnScope N ps (defScope st))(g:Dz P w K mg base aj k G)(b:Ds mg B)(hh:U6 P w K mg base aj k Ms)
  (cdv:Value) (A:Around) (outer:List PySem.Env) (s:Shared) (H:Hp) (E:XK) (hr:Room k (A.deeper (envOfC qual (defScope st) s.heap.objs.size f cdv))) :
  uO aj ⟨N,defScope st,G,B,Ms,ml,true⟩ (cxOf (L2.CX P w) P w K mg base N qual (defScope st) f cdv A outer s H E) (agw E) k where
 hN:=rfl
 hs:=rfl
 calm:=rfl
 nd:=S.nd
 tk:=takes_of rfl rfl rfl rfl
 rm:=hr
 gl:=g.get
 bl:=b.get
 fn:=λ_ _=>rfl
 hk:=hh
 ps:=passes_of rfl
 st:=rfl
 fr:=rfl
 kf:=S.kind
theorem Ym{x qual:Str}{st:Stmt}{f:Addr}{fd:FuncData}{N ps ml B:List Str}{G:List (Str×GV)}{Ms:Hs}{body:SF}(F:Fun K x qual st f fd)(S:FnScope N ps (defScope st))(g:Dz P w K mg base aj k G)(b:Ds mg B)(hh:U6 P w K mg base aj k Ms)
  (h:rd ⟨N,defScope st,G,B,Ms,ml,true⟩ (defBody st)=some body):FnOk P w K mg base (L2.CX P w) (k+1) f fd ps (TY K aj ps.length (mQ N.length body)):=
 an0 F S λcdv A outer s H E hr=>(Kc (Ac 40) true 60).ob (aew S g b hh cdv A outer s H E hr) h
theorem RJ{x qual:Str}{st:Stmt}{f:Addr}{fd:FuncData}{N ps ml B:List Str}{G:List (Str×GV)}{Ms:Hs}{body:SF}(F:Fun K x qual st f fd)(S:FnScope N ps (defScope st))(g:Dz P w K mg base aj k G)(b:Ds mg B)(hh:U6 P w K mg base aj k Ms)
  (h:rdG ⟨N,defScope st,G,B,Ms,ml,true⟩ (defBody st)=some body):FnOk P w K mg base (L2.CX P w) (k+1) f fd ps (Jm K aj ps.length (mG N.length body)):=
 aoy F S λcdv A outer s H E hr=>(Kc (Ac 40) false 60).ob (aew S g b hh cdv A outer s H E hr) h
theorem alz{f:Addr}{fd:FuncData}{ps:List Str}{j:Nat}:FnOk P w K mg base (L2.CX P w) j f fd ps (TY K aj ps.length λ_ _=>.bad):=
 ⟨λvs H Q E h=>h.1,λA outer s H args us vs Q E _ _ _ _ h=>by
  obtain⟨_,g,M,ds,_,_,_,z⟩:=h;exact atX z⟩
theorem afS{x:Str}{f:Addr}{fd:FuncData}{ps:List Str}{j:Nat}{m:Mo->List Dat->Out Dat}(hj:j<=k)(hg:mg x=some (.ref f))(hk:PySem.W.keepIn K (.ref f)=true)(hB:Binds K fd ps [])(F:FnOk P w K mg base (L2.CX P w) j f fd ps (TY K aj ps.length m)):bh P w K mg base aj k x (.fq ps.length m):=
 ⟨f,hg,hk,fd,ps,j,hj,rfl,hB,F⟩
theorem Lq{x:Str}{i:Int}{t:Tok}(h:mg x=some (.int i t)):bh P w K mg base aj k x (.con (.int i)):=⟨.int i,_,h,⟨t,rfl⟩,λ_ _=>.int i,λ_ _ z=>nomatch z⟩
theorem Xe{g:Gh}{H:Hp}:∀{vs:List V} {ds:List Dat},(vs.zip ds).all (λp=>match p with
  |(.int i,.int j)=>decide (i=j)
  |(.str x,.str y)=>decide (x=y)
  |_=>false)=true->vs.length=ds.length->aJ K g H vs ds
 |[],[],_,_=>.nil
 |[],_::_,_,h=>nomatch h
 |_::_,[],_,h=>nomatch h
 |v::vs,d::ds,h,hl=>by
  rw[atj,atc,asw]at h;refine .cons ?_ (Xe h.2 (atR hl));have h1:=h.1;split at h1
  .next e=>cases e;cases atZ h1;exact .int _
  .next e=>cases e;cases atZ h1;exact .str _
  .cases h1
theorem ajb{a:Addr}(h:Yl K a=true):∃o,K.lookup a=some o/\o.cls=.type "tuple"/\o.dict=none:=by
 unfold Yl at h;split at h
 .next o e=>
  rw[asw]at h;refine⟨o,e,?_,Option.isNone_iff_eq_none.mp h.2⟩;have h1:=h.1;split at h1
  .next c ec=>rw[ec,atZ h1]
  .cases h1
 .cases h
theorem adX{x:Str}{a:Addr}{vs:List V}{ds:List Dat}(h:mg x=some (.ref a))(q:∀H:Hp,SqT K H a vs)(hf:(vs.zip ds).all (λp=>match p with
  |(.int i,.int j)=>decide (i=j)
  |(.str x,.str y)=>decide (x=y)
  |_=>false)=true) (hl:vs.length=ds.length) (hn:Yl K a=true):bh P w K mg base aj k x (.con (.tuple ds)):=⟨.ref a,_,h,rfl,λ_ H=>.tup (q H) (Xe hf hl),λb _ e _=>by cases e;exact ajb hn⟩
end
open PySem PySem.Spec PyProof.Rows L2
section
variable{fa:List He.Fa}{fn:List He.DefD}{tb:List He.Tab}{ex:asv->Bool}{w:World}{K:asv}
theorem OD.qw(c:OD fa fn tb ex w K)(i:Nat){f:He.Fa}(h:fa[i]?=some f:=by rfl):f.ok K=true:=c.t.d.fact i h
theorem OD.S7(c:OD fa fn tb ex w K)(i:Nat){d:He.DefD}(h:fn[i]?=some d:=by rfl):∃fd,FunD K d.name d.qual d.params d.body d.scope (d.dvs K) (d.kws K) (He.fAd K d.at_) fd:=c.t.d.def_ i h
theorem CT{x qual:Str}{st:Stmt}{f:Addr}{fd:FuncData}(F:FunD K x qual (defArgs st) (defBody st) (defScope st) [] [] f fd):L2.Fun K x qual st f fd:=by
 obtain⟨oc,od,dV,kV,doc,pm,an,cdv,ct,osl,e,l,c,hd,_⟩:=F.ex;rcases hd with⟨_,z⟩|⟨z,_⟩
 .cases z;exact⟨⟨oc,od,kV,doc,pm,an,cdv,ct,osl,e,l,c⟩,F.kp⟩
 .exact absurd rfl z
end
def g0:Gh:=⟨[],λ_=>none,λ_=>False,λ_=>False,True⟩
theorem amv(a:Addr):¬g0.A a:=λz=>by
 rcases z with(z|z)|z|z
 .cases z
 .exact z rfl
 .exact z
 .exact z
theorem anB{H:Hp}:Kd g0 H:=⟨λa z=>absurd z (amv a),λa z=>atX z,λa z=>atX z⟩
theorem akm{K:asv}{aj:aQ}{H:Hp}(nc:aj ""=none):gU K aj g0 H []:=⟨rfl,λh k a e=>(by cases h<;>cases e),λh a i e=>(by cases h<;>cases e),λh i e=>(by cases h<;>cases e),λh i e=>(by cases h<;>cases e),λh a i e=>(by cases h<;>cases e),λh i e=>(by cases h<;>cases e),nc⟩
theorem W9{K:asv}{g:Gh}{H:Hp}:∀ns:List Int,aJ K g H (ns.map V.int) (ns.map PyData.int)
 |[]=>.nil
 |n::ns=>.cons (.int n) (W9 ns)
theorem alV{K:asv}{H:Hp}{a:Addr}{ns:List Int}(hS:SqL K H a (ns.map V.int)):aJ K g0 H [.ref a] [.list (ns.map PyData.int)]:=by
 refine .cons (.lst ?_ (W9 ns)) .nil;rcases hS with h|h
 .exact .inr ⟨atV,.inl ⟨h,amv a⟩⟩
 .exact .inr ⟨atV,.inr h⟩
theorem amN{K:asv}{aj:aQ}(nc:aj ""=none){m:Mo->List Dat->bx Dat}{H:Hp}{a:Addr}{ns:List Int}{M:Mo}(hS:SqL K H a (ns.map V.int))(h:m [] [.list (ns.map PyData.int)]=.ok (.bool true) M):Jm K aj 1 m [.ref a] H (λv _=>v=.bl true) λ_ _ _=>False:=
 ⟨rfl,g0,[],[.list (ns.map PyData.int)],anB,akm nc,alV hS,by
  rw[h];exact λv H' g' _ _ _ r=>by cases r;rfl⟩
section
variable{K:asv}{h:Heap}{mg:Str->Option Value}{w:World}
def o9(w:World)(K:asv)(xs:List Str)(ft:Ft):aQ:=⟨λx=>match xs.contains x with
 |true=>some (He.ga K x)
 |false=>none,λc=>(ft.lookup c).getD [],w⟩
theorem Qq{xs:List Str}{ft:Ft}{x:Str}{C:Addr}(e:o9 w K xs ft x=some C):C=He.ga K x:=by
 have e:(match xs.contains x with
  |true=>some (He.ga K x)
  |false=>none)=some C:=e
 split at e
 .exact(asZ e).symm
 .cases e
theorem Ai{xs:List Str}{ft:Ft}{x:Str}(e:xs.contains x=true):o9 w K xs ft x=some (He.ga K x):=by
 show(match xs.contains x with
  |true=>some (He.ga K x)
  |false=>none)=_
 rw[e]
theorem Zm{ft:Ft}(hb:Nu K ft=true){c:Str}{fs:List Str}(hl:ft.lookup c=some fs):Cls K (He.ga K c)/\∀f∈fs,NoAttr K (He.ga K c) f:=by obtain⟨h1,h2⟩:=He.ba (asV.mp hb _ (ql hl));exact⟨He.cls_ok h1,λf hf=>He.noat_ok (asV.mp h2 f hf)⟩
theorem aeZ{xs:List Str}{ft:Ft}(hb:Nu K ft=true):jN K (o9 w K xs ft):=λc C f e hf=>by
 have e:=Qq e;subst e;have hf:f∈(ft.lookup c).getD []:=hf;cases hl:ft.lookup c with
 |none=>rw[hl]at hf;cases hf
 |some fs=>
  rw[hl]at hf;obtain⟨h1,h2⟩:=Zm hb hl;exact⟨h1,h2 f hf⟩
theorem af2{xs:List Str}{ft:Ft}:NK ft (o9 w K xs ft):=λc f e=>by
 unfold Ft.has at e;show f∈(ft.lookup c).getD [];split at e
 .next fs hl=>
  rw[hl];simpa using e
 .cases e
def xmN(xs:List Str)(xm:List (Str×List (Str×Bool))):Bool:=xm.all λp=>xs.contains p.1
theorem ang{xs:List Str}{ft:Ft}{xm:List (Str×List (Str×Bool))}(hb:xmB K xm=true)(hn:xmN xs xm=true)(y:Str)(tab:List (Str×Bool))(hl:xm.lookup y=some tab):(∃D,o9 w K xs ft y=some D)/\adt K (o9 w K xs ft) y λx=>tab.lookup x:=by refine⟨⟨_,Ai (asV.mp hn _ (ql hl))⟩,λx b C e1 e2 D e3=>?_⟩;rw[Qq e2,Qq e3];exact He.exm_ok (asV.mp (asV.mp hb _ (ql hl)) _ (ql e1))
theorem aiz{C:Addr}(hb:alB K C=true):OexC K C:=by
 obtain⟨h1,h2⟩:=He.ba hb;obtain⟨h2,h3⟩:=He.ba h2;obtain⟨h3,h4⟩:=He.ba h3;obtain⟨h4,h5⟩:=He.ba h4;refine⟨?_,He.eqO_ok h2,atZ h3,atZ h4,h5⟩;split at h1
 .next t dd cd sl hl=>
  obtain⟨t1,h1⟩:=He.ba h1;split at h1
  .next C' bm k0 k1 k2 k3 n k5 e1 e2=>
   obtain⟨a1,h1⟩:=He.ba h1;obtain⟨a2,h1⟩:=He.ba h1;obtain⟨a3,h1⟩:=He.ba h1;obtain⟨a4,a5⟩:=He.ba h1;have q1:=atZ t1;have q2:=atZ a1;have q3:=atZ a2;have q4:cd.hasDel=false:=by simpa using a3
   have q5:sl=#[k0,k1,k2,k3,some (.builtin n),k5]:=by rw[<-Array.toList_inj];exact e2
   obtain⟨nm,bs,mro,ns,qn,hd,sn,sub,ab,col,hdel⟩:=cd;have e1:mro=.ref C'::bm:=e1;have q4:hdel=false:=q4;have a4:hd=true:=a4;subst q1 q2 q3 q4 q5 e1 a4;exact⟨nm,qn,ns,bs,bm,sn,sub,ab,col,dd,k0,k1,k2,k3,k5,hl,a5⟩
  .cases h1
 .cases h1
theorem Uq{x:Str}{fs:List Str}(hb:Uo K x fs=true):OexC K (He.ga K x)/\PySem.W.findIn K (.ref (He.ga K x)) "__init__"=some (some (.ref (He.ma K (He.ga K x) "__init__")))/\PySem.W.typeIn K (.ref (He.ma K (He.ga K x) "__init__"))=some (.type "function")/\XfC K (He.ga K x)/\∀f∈fs,PySem.W.findIn K (.ref (He.ga K x)) f=some none:=by obtain⟨h1,h2⟩:=He.ba hb;obtain⟨h2,h3⟩:=He.ba h2;obtain⟨h3,h4⟩:=He.ba h3;obtain⟨h4,h5⟩:=He.ba h4;exact⟨aiz h1,He.eqO_ok h2,atZ h3,xfB_ok h4,λf hf=>He.eqO_ok (asV.mp h5 f hf)⟩
theorem agg{a:Addr}{xs:List Str}(hb:Ye K a xs=true)(H:Hp):SqT K H a (xs.map V.str):=by
 unfold Ye at hb;split at hb
 .next c d its n sl hl=>
  obtain⟨h1,h2⟩:=He.ba hb;obtain⟨h3,h4⟩:=He.ba h2;have q1:=atZ h1;subst q1;exact .inr ⟨_,its,n,hl,rfl,rfl,atZ h3,He.relAll_ok h4⟩
 .cases hb
def wL(kvs:List (Str×List Str)):List (Str×Dat):=kvs.map λq=>(q.1,.tuple (q.2.map PyData.str))
theorem W7{g:Gh}{H:Hp}:∀xs:List Str,aJ K g H (xs.map V.str) (xs.map PyData.str)
 |[]=>.nil
 |x::xs=>.cons (.str x) (W7 xs)
theorem RX{y:Str}:∀{kvs:List (Str×List Str)},(wL kvs).lookup y=(kvs.lookup y).map λxs=>PyData.tuple (xs.map PyData.str)
 |[]=>rfl
 |(z,xs)::r=>by
  show List.lookup y ((z,PyData.tuple (xs.map PyData.str))::wL r)=_;rw[asY,asY];split
  .rfl
  .exact RX
theorem look_none{α:Type}{y:Str}:∀{kvs:List (Str×α)},kvs.lookup y=none->y∉kvs.map (·.1)
 |[],_=>by simp
 |(z,a)::r,h=>by
  rw[asY]at h;split at h
  .cases h
  .next hn=>
   rw[asy,asN]
   rintro(e|e)
   .subst e;simp at hn
   .exact look_none h e
theorem ah8{x:Str}{kvs:List (Str×List Str)}(hb:ahh K x kvs=true)(hk:∃es n,KDict K w (He.ga K x) es n):adn w K (He.ga K x) (wL kvs):=by
 obtain⟨h1,h2⟩:=He.ba hb;obtain⟨h2,h3⟩:=He.ba h2;obtain⟨es,n,D⟩:=hk;rw[D.at_]at h1;refine⟨es,n,D,?_,λy=>?_⟩
 .unfold wL;rw[atd];exact atZ h2
 .rw[RX];cases hl:kvs.lookup y with
  |some xs=>
   have h4:=asV.mp h3 _ (ql hl);show ∃v u,PySem.W.nsIn K (He.ga K x) y=some (some u)/\RelV v u/\∀g H,Rep K g H v (.tuple (xs.map PyData.str));have h4:(match PySem.W.nsIn K (He.ga K x) y with
    |some (some (.ref a))=>Ye K a xs
    |_=>false)=true:=h4
   split at h4
   .next a he=>exact⟨.ref a,.ref a,he,rfl,λg H=>.tup (agg h4 H) (W7 xs)⟩
   .cases h4
  |none=>
   show PySem.W.nsIn K (He.ga K x) y=some none;have ny:=look_none hl;unfold PySem.W.nsIn;rw[D.at_];have h1:es.toList.all (λe=>(match e.key with
    |.str y _=>(kvs.map (·.1)).contains y
    |_=>false)&&!e.refKey)=true:=h1
   have f1:es.toList.find? (·.key.isStr y)=none:=by
    rw[List.find?_eq_none];intro e he z;obtain⟨a1,a2⟩:=He.ba (asV.mp h1 e he);split at a1
    .next y' tk hy=>
     rw[hy]at z;have z:(y'==y)=true:=z;have e':=at8 z;subst e';exact ny (by simpa using a1)
    .cases a1
   have f2:es.toList.any (·.refKey)=false:=by rw[List.any_eq_false];intro e he z;obtain⟨a1,a2⟩:=He.ba (asV.mp h1 e he);rw[z]at a2;cases a2
   show(match es.toList.find? (·.key.isStr y) with
    |some e=>some (some e.val)
    |none=>if es.toList.any (·.refKey) then none else some none)=some none
   rw[f1,f2];rfl
end
section
variable{P:Program}{w:World}{K:asv}{mg:Str->Option Value}{base:Heap}{k:Nat}{xs:List Str}{ft:Ft}
def X8(P:Program)(w:World)(K:asv)(mg:Str->Option Value)(base:Heap)(aj:aQ)(k:Nat)(m:Str):List (Str×MV)->Prop
 |[]=>True
 |(c,v)::r=>cC P w K mg base aj k c m v/\X8 P w K mg base aj k m r
def G4(P:Program)(w:World)(K:asv)(mg:Str->Option Value)(base:Heap)(aj:aQ)(k:Nat):List (Str×List (Str×MV))->Prop
 |[]=>True
 |(m,tb)::r=>X8 P w K mg base aj k m tb/\G4 P w K mg base aj k r
theorem X8.get{aj:aQ}{m:Str}:∀{tb:List (Str×MV)},X8 P w K mg base aj k m tb->∀c v,tb.lookup c=some v->cC P w K mg base aj k c m v
 |[],_,c,v,h=>nomatch h
 |(y,u)::r,g,c,v,h=>by
  rw[asY]at h;split at h
  .next e=>
   cases h;rw[at8 e];exact g.1
  .exact g.2.get c v h
theorem G4.get{aj:aQ}:∀{Ms:List (Str×List (Str×MV))},G4 P w K mg base aj k Ms->∀m tb,Ms.lookup m=some tb->∀c v,tb.lookup c=some v->cC P w K mg base aj k c m v
 |[],_,m,tb,h=>nomatch h
 |(y,u)::r,g,m,tb,h=>by
  rw[asY]at h;split at h
  .next e=>
   cases h;rw[at8 e];exact g.1.get
  .exact g.2.get m tb h
theorem aoa{aj:aQ}{x:Str}{f:Addr}{fd:FuncData}{ps:List Str}{j:Nat}{m:Mo->List Dat->bx Dat}(hj:j<=k)(hg:mg x=some (.ref f))(hk:PySem.W.keepIn K (.ref f)=true)(hB:Binds K fd ps [])(F:FnOk P w K mg base (L2.CX P w) j f fd ps (Jm K aj ps.length m)):bh P w K mg base aj k x (.fg ps.length m):=
 ⟨f,hg,hk,fd,ps,j,hj,rfl,hB,F⟩
theorem jw{x:Str}(hn:xs.contains x=true)(hg:mg x=some (.ref (He.ga K x)))(he:(He.Fa.exc x).ok K=true):bh P w K mg base (o9 w K xs ft) k x .exc:=by obtain⟨h1,h2,h3,h4⟩:=He.exc_ok he;exact⟨_,hg,Ai hn,h1,h2,h3,h4⟩
theorem al9{x:Str}{fd:FuncData}{ps:List Str}{j n:Nat}{m:Mo->List Dat->bx Dat}(hj:j+1<=k)(hn:xs.contains x=true)(hg:mg x=some (.ref (He.ga K x)))(hc:Cls K (He.ga K x))(hm:(He.Fa.mkr x).ok K=true)(hp:ps.length=n+1)(hB:Binds K fd ps [])
  (F:FnOk P w K mg base (L2.CX P w) j (He.ma K (He.ga K x) "__init__") fd ps (Jm K (o9 w K xs ft) ps.length m)):bh P w K mg base (o9 w K xs ft) k x (.cls n m):=
 ⟨_,_,fd,ps,j,hg,Ai hn,hc,He.mkr_ok hm,hj,hp,hB,F⟩
theorem amj{aj:aQ}{x:Str}{kvs:List (Str×List Str)}(hg:mg x=some (.ref (He.ga K x)))(hb:ahh K x kvs=true)(hk:∃es n,KDict K w (He.ga K x) es n):bh P w K mg base aj k x (.dic (wL kvs)):=⟨_,hg,ah8 hb hk⟩
theorem akT{x:Str}{fs:List Str}{fd:FuncData}{ps:List Str}(h2:2<=k)(hn:xs.contains x=true)(hg:mg x=some (.ref (He.ga K x)))(ho:Uo K x fs=true)(hp:ps.length=fs.length+1)(hB:Binds K fd ps [])(F:FnOk P w K mg base CX0 1 (He.ma K (He.ga K x) "__init__") fd ps (agi (He.ga K x) fs)):bh P w K mg base (o9 w K xs ft) k x (.exi fs):=by obtain⟨h1,h3,h4,_,_⟩:=Uq ho;exact⟨_,_,fd,ps,hg,Ai hn,h1,h3,h4,h2,hp,hB,F⟩
theorem ahk{m:Str}{l:List Str}(hf:l.contains m=false)(z:m∈l):False:=by rw[List.contains_iff_mem.mpr z]at hf;cases hf
theorem an2{c m:Str}{fd:FuncData}{ps:List Str}{j:Nat}{mm:Mo->List Dat->Out Dat}(hj:j<=k)(hn:xs.contains c=true)(hc:Cls K (He.ga K c))(hm:(He.Fa.meth c m).ok K=true)(hf:((ft.lookup c).getD []).contains m=false)(hB:Binds K fd ps [])(F:FnOk P w K mg base (L2.CX P w) j (He.ma K (He.ga K c) m) fd ps (TY K (o9 w K xs ft) ps.length mm)):cC P w K mg base (o9 w K xs ft) k c m (.q ps.length mm):=
 ⟨_,_,Ai hn,hc,He.meth_ok hm,(λz=>ahk hf z),fd,ps,j,hj,rfl,hB,F⟩
theorem an7{c m:Str}{fd:FuncData}{ps:List Str}{j:Nat}{mm:Mo->List Dat->bx Dat}(hj:j<=k)(hn:xs.contains c=true)(hc:Cls K (He.ga K c))(hm:(He.Fa.meth c m).ok K=true)(hf:((ft.lookup c).getD []).contains m=false)(hB:Binds K fd ps [])(F:FnOk P w K mg base (L2.CX P w) j (He.ma K (He.ga K c) m) fd ps (Jm K (o9 w K xs ft) ps.length mm)):cC P w K mg base (o9 w K xs ft) k c m (.g ps.length mm):=
 ⟨_,_,Ai hn,hc,He.meth_ok hm,(λz=>ahk hf z),fd,ps,j,hj,rfl,hB,F⟩
def aaD(K:asv)(mg:Str->Option Value):List Str->Prop
 |[]=>True
 |x::r=>mg x=some (.ref (He.ga K x))/\aaD K mg r
theorem aaD.get:∀{kc:List Str},aaD K mg kc->∀c∈kc,mg c=some (.ref (He.ga K c))
 |x::r,h,c,hc=>(asN.mp hc).elim (λe=>by rw[e];exact h.1) (h.2.get c)
theorem ani{kc kt:List Str}(hm:aaD K mg kc)(hb:(kt.all λn=>xs.contains n&&(decide (PySem.W.findIn K (.ref (He.ga K n)) "__getattribute__"=some (some (.builtin "BaseException.__getattribute__")))&&(decide (PySem.W.findIn K (.ref (He.ga K n)) "__getattr__"=some none)&&(decide (PySem.W.subIn K (.ref (He.ga K n)) (.type "BaseException")=some true)&&(PySem.W.hasDictIn K (He.ga K n)&&(decide (PySem.W.findIn K (.ref (He.ga K n)) "__class__"=some (some (.builtin "object.__class__")))&&(decide (PySem.W.specialIn K (.builtin "object.__class__") "__get__"=some (some (.builtin "getset_descriptor.__get__")))&&(decide (PySem.W.takesIn K (.builtin "object.__class__")=some true)&&(decide (PySem.W.mroIn K (He.ga K n) (.type "object")=some true)&&kc.all λc=>decide (PySem.W.kitOne K (.ref (He.ga K n)) (.ref (He.ga K c))=some (n==c)))))))))))=true):ajJ K mg (o9 w K xs ft) kc kt:=λn hn=>by
 have h:=asV.mp hb n hn;simp only[asw,atY,asV]at h;obtain⟨h0,h1,h2,h3,h4,h5,h6,h7,h8,h9⟩:=h;exact⟨_,Ai h0,⟨h1,h2,h3,h4,h5,h6,h7,h8⟩,λc hc=>⟨_,hm.get c hc,h9 c hc⟩⟩
theorem al2{aj:aQ}{x:Str}{f:Addr}{fd:FuncData}{ps:List Str}{j:Nat}{κ:Str->Option (List Bool)}(hj:j<=k)(hg:mg x=some (.ref f))(hk:PySem.W.keepIn K (.ref f)=true)(hl:ps.length=1)(hB:Binds K fd ps [])(F:FnK P w K mg base aj j f fd ps κ):bh P w K mg base aj k x (.kin κ):=⟨f,hg,hk,fd,ps,j,hj,hl,hB,F⟩
theorem anv{Ms:List (Str×List (Str×MV))}{xm:List (Str×List (Str×Bool))}{df:List (Str×Bool)}{xf:List (Str×List Str)}(hm:G4 P w K mg base (o9 w K xs ft) k Ms)(hb:Nu K ft=true)(hx:xmB K xm=true)(hn:xmN xs xm=true)(hf:(xf.all λp=>xs.contains p.1&&Uo K p.1 p.2)=true):U6 P w K mg base (o9 w K xs ft) k ⟨Ms,ft,xm,df,xf⟩ where
 ms:=hm.get
 fk:=af2
 co:=aeZ hb
 hw:=rfl
 xm:=ang hx hn
 xf:=λy fs hl=>by
  obtain⟨h1,h2⟩:=He.ba (asV.mp hf _ (ql hl));obtain⟨_,_,_,h3,h4⟩:=Uq h2;exact⟨_,Ai h1,h3,h4⟩
end
abbrev lI(l:List Int):Dat:=.list (l.map PyData.int)
abbrev aK(l:List Int):Dat:=.tuple (l.map PyData.int)
theorem jh{tg:gH}{body:SF}{d:Dat}{ds:List Dat}{M M2:Mo}{Z Z1 Z2:Env}(h1:tg d Z=some Z1)(h2:body M Z1=.next Z2 M2):eO tg body (d::ds) M Z=eO tg body ds M2 Z2:=by
 rw[eO,h1]
 show(match body M Z1 with
   |.next Z2 M2=>eO tg body ds M2 Z2
   |.cont Z2 M2=>eO tg body ds M2 Z2
   |.brk Z2 M2=>.next Z2 M2
   |.ret d M2=>.ret d M2
   |.exc x Z2 M2=>.exc x Z2 M2
   |.bad=>.bad)=_
 rw[h2]
theorem jf{α:Type}{tg:gH}{tt:QT}{te:QF}{M:Mo}{Z:Env}(ds:α->Dat)(p:α->Bool)(f:α->Dat):∀(xs:List α),(∀x∈xs,∃Z1,tg (ds x) Z=some Z1/\tt M Z1=.ok (p x)/\(p x=true->te M Z1=.ok (f x)))->dY tg tt te M Z (xs.map ds)=.ok ((xs.filter p).map f)
 |[],_=>rfl
 |x::xs,h=>by
  obtain⟨Z1,h1,h2,h3⟩:=h x asC;have ih:=jf ds p f xs λy hy=>h y (asB _ hy);rw[asy,dY,h1]
  show((yX (tt M Z1)).bind λb=>if b=true then(yX (te M Z1)).bind λy=>(dY tg tt te M Z (xs.map ds)).bind λr=>.ok (y::r) else dY tg tt te M Z (xs.map ds))=_
  rw[h2,ih];cases hp:p x with
  |true=>
   show(if true=true then(yX (te M Z1)).bind λy=>(Out.ok ((xs.filter p).map f)).bind λr=>.ok (y::r) else Out.ok ((xs.filter p).map f))=_
   rw[h3 hp,at5 rfl,List.filter_cons_of_pos hp];rfl
  |false=>
   show(if false=true then(yX (te M Z1)).bind λy=>(Out.ok ((xs.filter p).map f)).bind λr=>.ok (y::r) else Out.ok ((xs.filter p).map f))=_
   rw[at6 (by decide),List.filter_cons_of_neg (by rw[hp];decide)]
theorem gJ{α:Type}{tg:gH}{te:QF}{M:Mo}{Z:Env}(ds:α->Dat)(f:α->Dat)(xs:List α)(h:∀x∈xs,∃Z1,tg (ds x) Z=some Z1/\te M Z1=.ok (f x)):dY tg jL te M Z (xs.map ds)=.ok (xs.map f):=by
 have:=jf (tt:=jL) ds (λ_=>true) f xs λx hx=>by
  obtain⟨Z1,h1,h2⟩:=h x hx;exact⟨Z1,h1,rfl,λ_=>h2⟩
 rw[this,List.filter_eq_self.mpr (λ_ _=>rfl)]
theorem ahN{i j:Int}(h : -(2^64)<i/\i<2^64):decide (CMul i j)=true:=decide_eq_true (.inl h)
theorem mul_r{i j:Int}(h : -(2^64)<j/\j<2^64):decide (CMul i j)=true:=decide_eq_true (.inr h)
section
variable(M:Mo)(Z:Env)
@[simp]theorem adz (f k:SF):aC f k M Z=match f M Z with
 |.next Z' M'=>k M' Z'
 |o=>o:=rfl
@[simp]theorem ao1:aH M Z=.next Z M:=rfl
@[simp]theorem ali (tg:gH) (f:GF):aR tg f M Z=(f M Z).then Z λd M'=>match tg d Z with
 |some Z'=>.next Z' M'
 |none=>.bad:=rfl
@[simp]theorem apz (i j:Nat) (f:GF):RN i j f M Z=(f M Z).then Z λd M'=>.next ((Z.set i (some (.dat d))).set j (some (.dat d))) M':=rfl
@[simp]theorem ev_if (t:QT) (f k:SF):bB t f k M Z=((t M (tY Z)).at M).then Z λc M'=>if c=true then f M' Z else k M' Z:=rfl
@[simp]theorem aqh (f:QF):aN f M Z=((f M (tY Z)).at M).then Z λd M'=>.ret d M':=rfl
@[simp]theorem aqK (it:IF) (tg:gH) (body:SF):rQ it tg body M Z=((it M Z).at M).then Z λds M'=>eO tg body ds M' Z:=rfl
@[simp]theorem aqx (j:Nat) (f:IF):Ew j f M Z=((f M Z).at M).then Z λxs M'=>.next (Z.set j (some (.mut xs))) M':=rfl
@[simp]theorem apA (f:GF):cM f M Z=(f M Z).then Z λ_ M'=>.next Z M':=rfl
@[simp]theorem aqm (j:Nat) (f:QF):zB j f M Z=match Z[j]? with
 |some (some (.mut xs))=>((f M Z).at M).then Z λd M'=>if xs.length<100000 then .next (Z.set j (some (.mut (xs++[d])))) M' else .bad
 |_=>.bad:=rfl
@[simp]theorem apn (j:Nat) (fi f:QF):amE j fi f M Z=match Z[j]? with
 |some (some (.mut xs))=>((f M Z).at M).then Z λd M'=>((fi M' Z).at M').then Z λi M2=>match i with
  |.int k=>match ixN xs.length k with
   |some n=>.next (Z.set j (some (.mut (xs.set n d)))) M2
   |none=>.bad
  |_=>.bad
 |_=>.bad:=rfl
@[simp]theorem aqu (j:Nat) (f:QF):GZ j f M Z=match Z[j]? with
 |some (some (.dat (.int i)))=>((f M Z).at M).then Z λd M'=>match d with
  |.int k=>.next (Z.set j (some (.dat (.int (i+k))))) M'
  |_=>.bad
 |_=>.bad:=rfl
@[simp]theorem apF (i j:Nat) (f:GF):X4 i j f M Z=(f M Z).then Z λd M'=>match d with
 |.list (d0::ds)=>if ds.length<=16000 then .next ((Z.set i (some (.dat d0))).set j (some (.dat (.list ds)))) M' else .bad
 |.tuple (d0::ds)=>if ds.length<=16000 then .next ((Z.set i (some (.dat d0))).set j (some (.dat (.list ds)))) M' else .bad
 |_=>.bad:=rfl
@[simp]theorem arW (js:List Nat) (as:QA):sPN js as M Z=((as M Z).at M).then Z λds M'=>match vN js ds Z with
 |some Z'=>.next Z' M'
 |none=>.bad:=rfl
@[simp]theorem alb (f:QF):gOf f M Z=(f M Z).at M:=rfl
@[simp]theorem ev_op (o:Dat->Dat->Out Dat) (a b:QF):aA o a b M Z=(a M Z).bind λx=>(b M Z).bind λy=>o x y:=rfl
@[simp]theorem ev_un (o:Dat->Out Dat) (a:QF):fj o a M Z=(a M Z).bind o:=rfl
@[simp]theorem ev_c (d:Dat):qC d M Z=.ok d:=rfl
@[simp]theorem ev_var (i:Nat):aq i M Z=match Z[i]? with
 |some (some (.dat d))=>.ok d
 |_=>.bad:=rfl
@[simp]theorem apq (i:Nat):ao i M Z=match Z[i]? with
 |some (some (.dat d))=>.ok d
 |some (some (.mut xs))=>.ok (.list xs)
 |_=>.bad:=rfl
@[simp]theorem aq1:au M Z=.ok []:=rfl
@[simp]theorem apP (a:QF) (r:QA):ak a r M Z=(a M Z).bind λx=>(r M Z).bind λxs=>.ok (x::xs):=rfl
@[simp]theorem aqP (r:QA):bA r M Z=(r M Z).bind λxs=>Out.when (decide (xs.length<=100000)) (.ok (.tuple xs)):=rfl
@[simp]theorem aln (r:QA):qY r M Z=(r M Z).bind λxs=>Out.when (decide (xs.length<=100000)) (.ok (.list xs)):=rfl
@[simp]theorem apV (a:QF):iJ a M Z=(a M Z).bind JK:=rfl
@[simp]theorem ar4 (a:QF):aW a M Z=(a M Z).bind Cr:=rfl
@[simp]theorem ao4 (a:QT):iz a M Z=(a M Z).bind λb=>.ok (!b):=rfl
@[simp]theorem apC (a b:QT):lJ a b M Z=(a M Z).bind λx=>if x=true then b M Z else .ok false:=rfl
@[simp]theorem aq7 (a b:QT):Eh a b M Z=(a M Z).bind λx=>if x=true then .ok true else b M Z:=rfl
@[simp]theorem arR (a:QT):Wg a M Z=(a M Z).bind λb=>.ok (.bool b):=rfl
@[simp]theorem arE (t:QT) (a b:QF):Ud t a b M Z=(t M Z).bind λx=>if x=true then a M Z else b M Z:=rfl
@[simp]theorem ev_is (neg:Bool) (c:Dat) (a:QF):Cv neg c a M Z=(a M Z).bind λd=>.ok (.bool (neg ^^ vY c d)):=rfl
@[simp]theorem ev_notV (a:QF):Rp a M Z=((a M Z).bind Cr).bind λb=>.ok (.bool (!b)):=by
 show(((a M Z).bind Cr).bind λb=>Out.ok (!b)).bind (λb=>Out.ok (PyData.bool b))=_
 cases a M Z with
 |ok d=>cases h:Cr d<;>simp[Out.bind,h]
 |exc x=>rfl
 |bad=>rfl
@[simp]theorem ev_andV (a b:QF):z9 a b M Z=(a M Z).bind λd=>(Cr d).bind λx=>if x=true then b M Z else .ok (.bool false):=rfl
@[simp]theorem ev_orV (a b:QF):agR a b M Z=(a M Z).bind λd=>(Cr d).bind λx=>if x=true then .ok (.bool true) else b M Z:=rfl
@[simp]theorem aoL (o o':Dat->Dat->Out Dat) (a b c:QF):mj o o' a b c M Z=(a M Z).bind λx=>(b M Z).bind λy=>(o x y).bind λz=>(Cr z).bind λk=>if k=true then(c M Z).bind λw=>(o' y w).bind Cr else .ok false:=rfl
@[simp]theorem arn (t:Ly) (a:QF):uK t a M Z=(a M Z).bind (iK t):=rfl
@[simp]theorem ar3 (a:QF) (lo hi:QO):pZ a lo hi M Z=(a M Z).bind λd=>(lo M Z).bind λl=>(hi M Z).bind λh=>slD d l h:=rfl
@[simp]theorem arU:fD M Z=.ok none:=rfl
@[simp]theorem arY (a:QF):dW a M Z=(a M Z).bind λd=>(Bx d).bind λi=>.ok (some i):=rfl
@[simp]theorem ev_call (m:Mo->List Dat->Out Dat) (as:QA):aU m as M Z=(as M Z).bind λds=>m M ds:=rfl
@[simp]theorem aoJ (a:QF):dG a M Z=(a M Z).bind kW:=rfl
@[simp]theorem anZ (a:QF):Ji a M Z=(a M Z).bind λd=>(Bx d).bind λn=>Out.when (decide (n<=100000/\-100000<=n)) (.ok (qP 0 n.toNat)):=rfl
@[simp]theorem apG (k₀:Int) (a:QF):yC k₀ a M Z=(a M Z).bind λd=>(kW d).bind λds=>.ok (mU k₀ ds):=rfl
@[simp]theorem aqs (a b:QF):Kh a b M Z=(a M Z).bind λd=>(b M Z).bind λe=>(kW d).bind λds=>(kW e).bind λes=>.ok (pB ds es):=rfl
@[simp]theorem apJ (it:IF) (tg:gH) (vs:List Nat) (tt:QT) (te:QF):fX it tg vs tt te M Z=(it M Z).bind λds=>Out.when (decide (ds.length<=50000)) ((dY tg tt te M (cH Z vs) ds).bind λr=>.ok (.list r)):=rfl
@[simp]theorem aox (it:IF) (tg:gH) (vs:List Nat) (tt:QT) (te:QF):DQ it tg vs tt te M Z=(it M Z).bind λds=>Out.when (decide (ds.length<=50000)) (dY tg tt te M (cH Z vs) ds):=rfl
@[simp]theorem aqZ (f:QA):M7 f M Z=(f M Z).bind λxs=>Out.when (decide (xs.length<=100000)) (.ok xs):=rfl
@[simp]theorem amA (f:QF):agk f M Z=(f M Z).bind X5:=rfl
@[simp]theorem anS (j:Nat) (d:Dat):aF j d Z=some (Z.set j (some (.dat d))):=rfl
@[simp]theorem aoW (js:List Nat) (ds:List Dat):bF js (.tuple ds) Z=vN js ds Z:=rfl
@[simp]theorem am5 (n:Nat) (b:SF) (ds:List Dat):mQ n b M ds=match b M (ini n ds) with
 |.ret d _=>.ok d
 |.next _ _=>.ok .none
 |.exc x _ _=>.exc x
 |_=>.bad:=rfl
@[simp]theorem arZ (n:Nat) (b:SF) (ds:List Dat):mG n b M ds=match b M (ini n ds) with
 |.ret d M'=>.ok d M'
 |.next _ M'=>.ok .none M'
 |.exc x _ M'=>.exc x M'
 |_=>.bad:=rfl
end
section
variable(i j:Int)(ds es:List Dat)(b c:Bool)(x y:Str)
@[simp]theorem apT:bZ (.int i) (.int j)=.ok (.int (i+j)):=rfl
@[simp]theorem apI:bZ (.list ds) (.list es)=Out.when (decide (ds.length+es.length<=100000)) (.ok (.list (ds++es))):=rfl
@[simp]theorem apb:bZ (.tuple ds) (.tuple es)=Out.when (decide (ds.length+es.length<=100000)) (.ok (.tuple (ds++es))):=rfl
@[simp]theorem arz:pC (.int i) (.int j)=.ok (.int (i-j)):=rfl
@[simp]theorem aqy:yw (.int i) (.int j)=Out.when (decide (CMul i j)) (.ok (.int (i*j))):=rfl
@[simp]theorem arj:Ez (.int i) (.int j)=Out.when (decide (CDiv i j)) (.ok (.int (i/j))):=rfl
@[simp]theorem apU:jc (.int i) (.int j)=Out.when (decide (0<j)) (.ok (.int (i%j))):=rfl
@[simp]theorem aqk:Qt (.int i) (.int j)=Out.when (decide (CPow i j)) (.ok (.int (i^j.toNat))):=rfl
@[simp]theorem asl:Nr (.int i) (.int j)=.ok (.bool (decide (i<j))):=rfl
@[simp]theorem ar5:rE (.int i) (.int j)=.ok (.bool (decide (i<=j))):=rfl
@[simp]theorem arV:gtD (.int i) (.int j)=.ok (.bool (decide (j<i))):=rfl
@[simp]theorem ar9:geD (.int i) (.int j)=.ok (.bool (decide (j<=i))):=rfl
@[simp]theorem aq0:bH (.int i) (.int j)=.ok (.bool (i==j)):=rfl
@[simp]theorem aru:bH (.str x) (.str y)=.ok (.bool (x==y)):=rfl
@[simp]theorem aq5:bH (.bool b) (.bool c)=.ok (.bool (b==c)):=rfl
@[simp]theorem apZ:Aq (.int i) (.int j)=.ok (.bool (!(i==j))):=rfl
@[simp]theorem apW:Aq (.str x) (.str y)=.ok (.bool (!(x==y))):=rfl
@[simp]theorem aq3:U4 (.int i)=.ok (.int (-i)):=rfl
@[simp]theorem apL:JK (.bool b)=.ok b:=rfl
@[simp]theorem ao3:JK (.list ds)=.ok (!ds.isEmpty):=rfl
@[simp]theorem apw:JK (.tuple ds)=.ok (!ds.isEmpty):=rfl
@[simp]theorem aqI:Cr (.bool b)=.ok b:=rfl
@[simp]theorem apE:j8 (.list ds)=.ok (.int ds.length):=rfl
@[simp]theorem apD:j8 (.tuple ds)=.ok (.int ds.length):=rfl
@[simp]theorem arv:N7 (.int i)=.ok (.int (if i<0 then -i else i)):=rfl
@[simp]theorem ev_max2:wO (.int i) (.int j)=.ok (.int (if j>i then j else i)):=rfl
@[simp]theorem apB:JM (.int i) (.int j)=.ok (.int (if j<i then j else i)):=rfl
@[simp]theorem arB:aY (.list ds) (.int i)=match atI ds i with
  |some d=>.ok d
  |none=>.bad:=rfl
@[simp]theorem aqt:aY (.tuple ds) (.int i)=match atI ds i with
  |some d=>.ok d
  |none=>.bad:=rfl
@[simp]theorem apg:Bx (.int i)=.ok i:=rfl
@[simp]theorem aqL (lo hi:Option Int):slD (.list ds) lo hi=.ok (.list (cutD ds lo hi)):=rfl
@[simp]theorem aqc (lo hi:Option Int):slD (.tuple ds) lo hi=.ok (.tuple (cutD ds lo hi)):=rfl
@[simp]theorem apv:nu (.list ds)=.ok (.tuple ds):=rfl
@[simp]theorem ao6:nu (.tuple ds)=.ok (.tuple ds):=rfl
@[simp]theorem aom:Og (.list ds)=.ok (.list ds):=rfl
@[simp]theorem aow:Og (.tuple ds)=.ok (.list ds):=rfl
@[simp]theorem aqH:X5 (.list ds)=.ok ds:=rfl
@[simp]theorem aro:X5 (.tuple ds)=.ok ds:=rfl
@[simp]theorem aqG:kW (.list ds)=.ok ds:=rfl
@[simp]theorem aqM:kW (.tuple ds)=.ok ds:=rfl
@[simp]theorem aps (o:Option Cell) (Z:Env):tY (o::Z)=o.map Rm::tY Z:=rfl
@[simp]theorem aoz:tY []=[]:=rfl
@[simp]theorem aoS (d:Dat):Rm (.dat d)=.dat d:=rfl
@[simp]theorem aoM (ds:List Dat):Rm (.mut ds)=.dat (.list ds):=rfl
@[simp]theorem aoZ (Z:Env):vN [] [] Z=some Z:=rfl
@[simp]theorem apr (j:Nat) (js:List Nat) (d:Dat) (Z:Env):vN (j::js) (d::ds) Z=vN js ds (Z.set j (some (.dat d))):=rfl
@[simp]theorem aoX (Z:Env):cH Z []=Z:=rfl
@[simp]theorem aoj (Z:Env) (j:Nat) (js:List Nat):cH Z (j::js)=(cH Z js).set j none:=rfl
@[simp]theorem anN {α:Type} (a:α) (l:List α):atI (a::l) 0=some a:=atI_nat (j:=0) rfl
@[simp]theorem apu (n:Nat):ini n ds=ds.map (λd=>some (.dat d))++List.replicate (n-ds.length) none:=rfl
end
theorem abV{a b:String}:Str.ofString a=Str.ofString b↔a=b:=by
 constructor
 .intro h;rw[Str.ofString_eq_toList,Str.ofString_eq_toList]at h;have h1:a.toList.map Char.toNat=b.toList.map Char.toNat:=by simpa using h
  have h2:a.toList=b.toList:=by
   refine List.map_inj_right (f:=Char.toNat) (λx y e=>?_) |>.mp h1
   exact Char.ext (UInt32.toNat_inj.mp e)
  exact String.toList_inj.mp h2
 .rintro rfl;rfl
@[simp]theorem aqr (a b:String):(Str.ofString a=Str.ofString b)=(a=b):=propext abV
@[simp]theorem ao8 (a b:String):(Str.ofString a==Str.ofString b)=decide (a=b):=by rw[atF];simp[abV]
@[simp]theorem arS {α:Type} (a b:α) (l:List α):atI (a::b::l) 1=some b:=atI_nat (j:=1) rfl
@[simp]theorem ar6 {α:Type} (a b c:α) (l:List α):atI (a::b::c::l) 2=some c:=atI_nat (j:=2) rfl
@[simp]theorem arX {α:Type} (a b c d:α) (l:List α):atI (a::b::c::d::l) 3=some d:=atI_nat (j:=3) rfl
@[simp]theorem asf {α:Type} (a b c d e:α) (l:List α):atI (a::b::c::d::e::l) 4=some e:=atI_nat (j:=4) rfl
@[simp]theorem ar0 {α:Type} (a b c d e f:α) (l:List α):atI (a::b::c::d::e::f::l) 5=some f:=atI_nat (j:=5) rfl
@[simp]theorem asj {α:Type} (a b c d e f g:α) (l:List α):atI (a::b::c::d::e::f::g::l) 6=some g:=atI_nat (j:=6) rfl
@[simp]theorem u5 (s:String):PyData.strOk (Str.ofString s)=true:=by
 rw[Str.ofString_eq_toList];unfold PyData.strOk;simp only[Array.all_eq_true,atY];intro i h;simp only[List.getElem_toArray,List.getElem_map];have:=s.toList[i]'(by simpa using h) |>.valid
 rcases this with z|⟨_,z⟩
 .show(s.toList[i]'(by simpa using h)).val.toNat<_
  omega
 .show(s.toList[i]'(by simpa using h)).val.toNat<_
  omega
section
variable(i j:Int)(x y:Str)(d e:Dat)(ds es:List Dat)(b c:Bool)
@[simp]theorem aaH:PyData.eqv (.int i) (.int j)=(i==j):=by simp[PyData.eqv]
@[simp]theorem aen:PyData.eqv (.str x) (.str y)=(x==y):=by simp[PyData.eqv]
@[simp]theorem aqX:PyData.eqv (.bool b) (.bool c)=(b==c):=by simp[PyData.eqv]
@[simp]theorem ap3:PyData.eqv .none .none=true:=by simp[PyData.eqv]
@[simp]theorem ZR:PyData.eqv (.tuple ds) (.tuple es)=PyData.eqvAll ds es:=by simp[PyData.eqv]
@[simp]theorem aqi:PyData.eqv (.list ds) (.list es)=PyData.eqvAll ds es:=by simp[PyData.eqv]
@[simp]theorem arK:PyData.eqv (.tuple ds) .none=false:=by simp[PyData.eqv]
@[simp]theorem ap1:PyData.eqv .none (.tuple ds)=false:=by simp[PyData.eqv]
@[simp]theorem aqF:PyData.eqv (.str x) (.int i)=false:=by simp[PyData.eqv]
@[simp]theorem arI:PyData.eqv (.int i) (.str x)=false:=by simp[PyData.eqv]
@[simp]theorem ah5:PyData.eqvAll [] []=true:=by simp[PyData.eqvAll]
@[simp]theorem apt:PyData.eqvAll [] (d::ds)=false:=by simp[PyData.eqvAll]
@[simp]theorem apd:PyData.eqvAll (d::ds) []=false:=by simp[PyData.eqvAll]
@[simp]theorem abB:PyData.eqvAll (d::ds) (e::es)=(PyData.eqv d e&&PyData.eqvAll ds es):=by simp[PyData.eqvAll]
end
@[simp]theorem Ag:∀l m:List Int,PyData.eqvAll (l.map PyData.int) (m.map PyData.int)=decide (l=m)
 |[],[]=>by simp
 |[],_::_=>by simp
 |_::_,[]=>by simp
 |a::l,b::m=>by
  rw[asy,asy,abB,Ag l m,aaH];by_cases h:a=b<;>by_cases h2:l=m<;>simp[h,h2]
theorem Ec{n:Nat}:∀{ds:List Dat},nH n ds=true↔∀d∈ds,okd n d=true
 |[]=>by simp[nH]
 |d::ds=>by simp[nH,Ec (ds:=ds)]
@[simp]theorem aji (n:Nat) (i:Int):okd n (.int i)=true:=by simp[okd]
@[simp]theorem Xb (n:Nat) (l:List Int):nH n (l.map PyData.int)=true:=Ec.mpr λd h=>by
 obtain⟨i,_,rfl⟩:=asJ.mp h;simp
def ob(h:Nat):Dat:=obj h
section
variable(M:Mo)(Z:Env)(h:Nat)(f:Str)
@[simp]theorem aph:M6 M f (ob h)=(M[h]?).bind λi=>i.fs.lookup f:=rfl
@[simp]theorem an6 (tb:List (Str×MV)):Gq tb M (ob h)=(M[h]?).bind λi=>tb.lookup i.cls:=rfl
@[simp]theorem ZQ:lH M (ob h)=(M[h]?).bind λi=>match i.cls=="" with
 |true=>none
 |false=>some (h,i):=rfl
@[simp]theorem apY (o:QF):iQ f o M Z=(o M Z).bind λd=>match M6 M f d with
 |some (.dat x)=>.ok x
 |_=>.bad:=rfl
@[simp]theorem apc (o:QF):bM f o M Z=(o M Z).bind λd=>match M6 M f d with
 |some (.dat x)=>.ok x
 |some (.lst _ xs)=>.ok (.list xs)
 |_=>.bad:=rfl
@[simp]theorem apQ (tb:List (Str×MV)) (o:QF) (as:QA):aX tb o as M Z=(o M Z).bind λd=>match Gq tb M d with
 |some (.q _ m)=>(as M Z).bind λds=>m M (d::ds)
 |_=>.bad:=rfl
@[simp]theorem aoI (tb:List (Str×MV)) (o:QF) (as:QA):bR tb o as M Z=((o M Z).at M).bind λd _=>match Gq tb M d with
 |some (.q _ m)=>((as M Z).at M).bind λds _=>(m M (d::ds)).at M
 |some (.g _ m)=>((as M Z).at M).bind λds _=>m M (d::ds)
 |none=>.bad:=rfl
@[simp]theorem apj (x:Str) (m:Mo->List Dat->bx Dat) (as:QA):yI x m as M Z=((as M Z).at M).bind λds _=>match m (M++[⟨x,[]⟩]) (ob M.length::ds) with
 |.ok .none M'=>.ok (ob M.length) M'
 |_=>.bad:=rfl
@[simp]theorem aos (m:Mo->List Dat->bx Dat) (as:QA):wX m as M Z=((as M Z).at M).bind λds _=>m M ds:=rfl
@[simp]theorem anW (m:Mo->List Dat->bx Dat) (as:GA):Tq m as M Z=(as M Z).bind λds M1=>m M1 ds:=rfl
@[simp]theorem anV (m:Mo->List Dat->Out Dat) (as:GA):TF m as M Z=(as M Z).bind λds M1=>(m M1 ds).at M1:=rfl
@[simp]theorem aoT:Ug M Z=.ok [] M:=rfl
@[simp]theorem anM (a:GF) (r:GA):Az a r M Z=(a M Z).bind λd M1=>(r M1 Z).bind λds M2=>.ok (d::ds) M2:=rfl
@[simp]theorem apx (t:QT):ac1 t M Z=(t M Z).at M:=rfl
@[simp]theorem aoV (a:GT):yN a M Z=(a M Z).bind λb M1=>.ok (!b) M1:=rfl
@[simp]theorem an8 (a b:GT):Yk a b M Z=(a M Z).bind λx M1=>if x=true then b M1 Z else .ok false M1:=rfl
@[simp]theorem apm (a b:GT):QM a b M Z=(a M Z).bind λx M1=>if x=true then .ok true M1 else b M1 Z:=rfl
@[simp]theorem aof (a:GF):yR a M Z=(a M Z).bind λd M1=>(JK d).at M1:=rfl
@[simp]theorem aov (x:Str):fH x M Z=.exc ⟨x,[]⟩ Z M:=rfl
@[simp]theorem anT (x:Str) (fs:List Str) (as:QA):Dr x fs as M Z=((as M Z).at M).then Z λds M'=>.exc ⟨x,(fs.zip ds).reverse⟩ Z M':=rfl
@[simp]theorem ark (b:SF) (hs:List Hd):Qn b hs M Z=match b M Z with
 |.exc x Z' M'=>hdl hs x Z' M'
 |o=>o:=rfl
@[simp]theorem apH (x:dX):hdl [] x Z M=.exc x Z M:=rfl
@[simp]theorem apa (h:Hd) (r:List Hd) (x:dX):hdl (h::r) x Z M=match h.tk x.cls with
  |some true=>match adl Z h.nm with
   |true=>match yu h.y x h.st (Vb Z h.nm) with
    |some Z2=>.next (Vb Z2 h.nm) M
    |none=>.bad
   |false=>.bad
  |some false=>hdl r x Z M
  |none=>.bad:=rfl
@[simp]theorem apk:Vb Z none=Z:=rfl
@[simp]theorem ao0 (i:Nat):Vb Z (some i)=Z.set i none:=rfl
@[simp]theorem an9:adl Z none=true:=rfl
@[simp]theorem aoQ (i:Nat):adl Z (some i)=decide (i<Z.length):=rfl
@[simp]theorem arC (y:Str) (x:dX):yu y x [] Z=some Z:=rfl
@[simp]theorem arb (y:Str) (x:dX) (j:Nat) (e:Gj) (r:List (Nat×Gj)):yu y x ((j,e)::r) Z=(JB y x e).bind λd=>yu y x r (Z.set j (some (.dat d))):=rfl
@[simp]theorem aqJ (y:Str) (x:dX) (d:Dat):JB y x (.con d)=some d:=rfl
@[simp]theorem ape (g:GF):dh g M Z=(g M Z).then Z λd M'=>.ret d M':=rfl
@[simp]theorem aqQ (t:GT) (f k:SF):QS t f k M Z=(t M Z).then Z λc M'=>if c=true then f M' Z else k M' Z:=rfl
@[simp]theorem anO (a b:QF):Dg a b M Z=(a M Z).bind λd=>(b M Z).bind λe=>(Bx d).bind λlo=>(Bx e).bind λn=>Out.when (decide (n<=100000/\-100000<=n/\lo<=100000/\-100000<=lo)) (.ok (qP lo (n-lo).toNat)):=rfl
@[simp]theorem ao9 (ft:Ft) (o:QF) (e:GF):vL ft o f e M Z=(e M Z).then Z λd M1=>((o M1 Z).at M1).then Z λod M2=>match lH M2 od with
 |some (h,i)=>match ft.has i.cls f&&decide (i.fs.length<100) with
  |true=>.next Z (M2.set h (i.put f (.dat d)))
  |false=>.bad
 |none=>.bad:=rfl
@[simp]theorem apS (ft:Ft) (o:QF) (e:IF):Gm ft o f e M Z=((e M Z).at M).then Z λxs M0=>((o (M0++[⟨"",[]⟩]) Z).at (M0++[⟨"",[]⟩])).then Z λod M2=>match lH M2 od with
 |some (h,i)=>match ft.has i.cls f&&decide (i.fs.length<100) with
  |true=>.next Z (M2.set h (i.put f (.lst M0.length xs)))
  |false=>.bad
 |none=>.bad:=rfl
@[simp]theorem ao5 (ft:Ft) (o:QF) (b:Bool):Oh ft o f b M Z=((o (M++[⟨"",[]⟩]) Z).at (M++[⟨"",[]⟩])).then Z λod M2=>match lH M2 od with
 |some (h,i)=>match ft.has i.cls f&&decide (i.fs.length<100) with
  |true=>.next Z (M2.set h (i.put f (.dic b [])))
  |false=>.bad
 |none=>.bad:=rfl
@[simp]theorem ao2 (ft:Ft) (o:QF) (e:Mo->Env->Out (List (Dat×Dat))):RL ft o f e M Z=((e M Z).at M).then Z λkvs _=>((o (M++[⟨"",[]⟩]) Z).at (M++[⟨"",[]⟩])).then Z λod M2=>match lH M2 od with
 |some (h,i)=>match ft.has i.cls f&&decide (i.fs.length<100) with
  |true=>.next Z (M2.set h (i.put f (.dic true kvs)))
  |false=>.bad
 |none=>.bad:=rfl
@[simp]theorem apo (o:QF) (e:GF):FZ f o e M Z=((o M Z).at M).then Z λod M0=>match Ho M0 f od with
 |some (_,_,n,_)=>(e M0 Z).then Z λd M1=>match Ho M1 f od with
  |some (h,i,n',xs)=>match n==n'&&decide (xs.length<100000) with
   |true=>.next Z (M1.set h (i.put f (.lst n (xs++[d]))))
   |false=>.bad
  |none=>.bad
 |none=>.bad:=rfl
@[simp]theorem ao7 (o fi e:QF):T9 f o fi e M Z=((e M Z).at M).then Z λd _=>((o M Z).at M).then Z λod _=>match Ho M f od with
 |some (h,i,n,xs)=>((fi M Z).at M).then Z λk _=>match k with
  |.int k=>match ixN xs.length k with
   |some j=>.next Z (M.set h (i.put f (.lst n (xs.set j d))))
   |none=>.bad
  |_=>.bad
 |none=>.bad:=rfl
@[simp]theorem apR (ft:Ft) (o e:QF):SQ ft f o e M Z=((o M Z).at M).then Z λod _=>match lH M od with
 |some (h,i)=>match i.fs.lookup f,ft.has i.cls f&&decide (i.fs.length<100) with
  |some (.dat (.int a)),true=>((e M Z).at M).then Z λd _=>match d with
   |.int b=>.next Z (M.set h (i.put f (.dat (.int (a+b)))))
   |_=>.bad
  |_,_=>.bad
 |none=>.bad:=rfl
theorem aja(d:Dat):Ho M f d=(lH M d).bind λp=>match p.2.fs.lookup f with
 |some (.lst n xs)=>some (p.1,p.2,n,xs)
 |_=>none:=rfl
@[simp]theorem apy:Ho M f (ob h)=(M[h]?).bind λi=>match i.cls=="" with
 |true=>none
 |false=>match i.fs.lookup f with
  |some (.lst n xs)=>some (h,i,n,xs)
  |_=>none:=by
 rw[aja,ZQ];cases M[h]? with
 |none=>rfl
 |some i=>
  show(match i.cls=="" with
   |true=>none
   |false=>some (h,i)).bind _=(match i.cls=="" with
   |true=>none
   |false=>_)
  cases i.cls==""<;>rfl
@[simp]theorem apl (i:Inst) (x:jB):i.put f x=⟨i.cls,putL f x i.fs⟩:=rfl
@[simp]theorem asn (x:jB):putL f x []=[(f,x)]:=rfl
@[simp]theorem arT (x y:jB) (g:Str) (r:List (Str×jB)):putL f x ((g,y)::r)=if g=f then(g,x)::r else(g,y)::putL f x r:=rfl
@[simp]theorem aoY (ft:Ft) (c:Str):Ft.has ft c f=match ft.lookup c with
 |some fs=>fs.contains f
 |none=>false:=rfl
@[simp]theorem apM:zR M f (ob h)=(M[h]?).bind λi=>match i.cls=="" with
 |true=>none
 |false=>match i.fs.lookup f with
  |some (.dic b kvs)=>some (h,i,b,kvs)
  |_=>none:=by
 show(lH M (ob h)).bind _=_
 rw[ZQ];cases M[h]? with
 |none=>rfl
 |some i=>
  show(match i.cls=="" with
   |true=>none
   |false=>some (h,i)).bind _=(match i.cls=="" with
   |true=>none
   |false=>_)
  cases i.cls==""<;>rfl
@[simp]theorem aq6 (neg:Bool) (k o:QF):QC neg f k o M Z=(k M Z).bind λd=>(o M Z).bind λod=>match zR M f od with
 |some (_,_,b,kvs)=>(dhas b kvs d).bind λr=>.ok (.bool (neg ^^ r))
 |none=>.bad:=rfl
@[simp]theorem apK (o k e:QF):Oj f o k e M Z=((e M Z).at M).then Z λv _=>((o M Z).at M).then Z λod _=>match zR M f od with
 |some (h,i,b,kvs)=>((k M Z).at M).then Z λd _=>match dhas b kvs d,decide (kvs.length<100000) with
  |.ok false,true=>.next Z (M.set h (i.put f (.dic b (kvs++[(d,v)]))))
  |_,_=>.bad
 |none=>.bad:=rfl
@[simp]theorem apf (o k:QF):Oq f o k M Z=((o M Z).at M).then Z λod _=>match zR M f od with
 |some (h,i,b,kvs)=>((k M Z).at M).then Z λd _=>match dhas b kvs d,decide (kvs.length<=100000) with
  |.ok true,true=>.next Z (M.set h (i.put f (.dic b (kvs.filter λp=>!PyData.eqv p.1 d))))
  |_,_=>.bad
 |none=>.bad:=rfl
@[simp]theorem aoF (o:QF):Fe f o M Z=(o M Z).bind λod=>match zR M f od with
 |some (_,_,true,kvs)=>.ok (kvs.map (·.1))
 |_=>.bad:=rfl
@[simp]theorem aob (o:QF):Es f o M Z=(o M Z).bind λod=>match zR M f od with
 |some (_,_,_,kvs)=>.ok (.list (kvs.map (·.1)))
 |none=>.bad:=rfl
@[simp]theorem ash (it:IF) (tg:gH) (vs:List Nat) (tk:QF):qDc it tg vs tk M Z=(it M Z).bind λds=>Out.when (decide (ds.length<=50000)) (Gg tg tk M (cH Z vs) ds []):=rfl
@[simp]theorem aop (kvs:List (Dat×Dat)) (i:Int):dhas false kvs (.int i)=.ok (kvs.any λp=>PyData.eqv p.1 (.int i)):=rfl
@[simp]theorem ase (o:Str->Dat->Out Dat) (a b:QF):R9 o a b M Z=(a M Z).bind λx=>match x with
 |.str z=>(b M Z).bind (o z)
 |_=>.bad:=rfl
@[simp]theorem arf (o:Str->Dat->Dat->Out Dat) (a b c:QF):afW o a b c M Z=(a M Z).bind λx=>match x with
 |.str z=>(b M Z).bind λy=>(c M Z).bind (o z y)
 |_=>.bad:=rfl
@[simp]theorem asi (o:List Dat->Dat->Out Dat) (a b:QF):qLM o a b M Z=(a M Z).bind λx=>match x with
 |.list ds=>(b M Z).bind (o ds)
 |_=>.bad:=rfl
@[simp]theorem aqR (ds:List Dat) (b:QF):agr ds b M Z=(b M Z).bind (Vj ds):=rfl
@[simp]theorem aqb (a b:QF):ag3 a b M Z=(a M Z).bind λd=>(Uy d).bind λx=>Out.when (decide (x.length<=100000)) ((b M Z).bind λe=>(Uy e).bind λy=>Out.when (decide (x.length+y.length<=100000)) (.ok (.str (x++y)))):=rfl
@[simp]theorem arw (neg:Bool) (kvs:List (Str×Dat)) (k:QF):VG neg kvs k M Z=(k M Z).bind λd=>match d with
 |.str x=>.ok (.bool (neg ^^ (kvs.lookup x).isSome))
 |.int _=>.ok (.bool neg)
 |.tuple ds=>(match rW ds with
  |some ks=>Out.when (decide ((NestedKey.tup ks).depth<=8)) (.ok (.bool neg))
  |none=>.bad)
 |_=>.bad:=rfl
@[simp]theorem arG (kvs:List (Str×Dat)) (k:QF):acU kvs k M Z=(k M Z).bind λd=>match d with
 |.str x=>match kvs.lookup x with
  |some y=>.ok y
  |none=>.bad
 |_=>.bad:=rfl
@[simp]theorem an1 (it:IF) (tg:gH) (vs:List Nat) (tt:QT) (it1:IF) (tg1:gH) (vs1:List Nat) (tt1:QT) (te:QF):Fg it tg vs tt it1 tg1 vs1 tt1 te M Z=((it M Z).bind λds=>(iW tg tt it1 tg1 vs1 tt1 te M (cH Z vs) ds).bind λr=>Out.when (decide (r.length<=50000)) (.ok r)).bind λr=>.ok (.list r):=rfl
@[simp]theorem anR (it:IF) (tg:gH) (vs:List Nat) (tt:QT) (te:QF):aiN it tg vs tt te M Z=((it M Z).bind λds=>Out.when (decide (ds.length<=50000)) (dY tg tt te M (cH Z vs) ds)).bind λds=>match intsOf ds with
 |some l=>Out.when (decide (l.length<=4000)) (.ok (.list ((ahp l).map PyData.int)))
 |none=>.bad:=rfl
@[simp]theorem anU {α:Type} (k g:Str) (y:α) (r:List (Str×α)):List.lookup k ((g,y)::r)=if k=g then some y else List.lookup k r:=by
 rw[asY];by_cases e:k=g
 .subst e;simp
 .have:(k==g)=false:=by simpa using e
  rw[this,at6 e]
end
end Rf
namespace Pr
open PySem PySem.Spec PyProof.Rows L2 Evl Rf
def zQ:SF:=
 (aC (Gm lF (ao 0) "allowances" (M7 au))
 (Gm lF (ao 0) "circles" (M7 au)))
def vM:=mG 1 zQ
def BP:SF:=
 (Oh lF (ao 0) "held" true)
def wY:=mG 1 BP
def Hg:SF:=
 (Gm lF (ao 0) "beasts" (M7 au))
def Af:=mG 1 Hg
def zA:SF:=
 (aC (vL lF (ao 0) "owner_count" (gOf (qC (.int 0))))
 (aC (Oh lF (ao 0) "holders" false)
 (aC (vL lF (ao 0) "grounds" (yI "Grounds" vM au))
 (aC (vL lF (ao 0) "rights" (yI "Rights" wY au))
 (vL lF (ao 0) "herd" (yI "Herd" Af au))))))
def iD:=mG 1 zA
def BW:SF:=
 (aN (bA (ak (iQ "owner" (ao 0)) (ak (iQ "ground" (ao 0)) (ak (iQ "due" (ao 0)) (ak (iQ "ear" (ao 0)) (ak (iQ "alive" (ao 0)) au)))))))
def wM:=mQ 1 BW
def oG:List (Str×MV):=[("Beast",.q 1 wM)]
def Fb:SF:=
 (aN (aA bZ (aX oG (ao 0) au) (bA (ak (iQ "mother" (ao 0)) (ak (fj nu (bM "story" (ao 0))) au)))))
def yU:=mQ 1 Fb
def xg:SF:=
 (aN (Es "holders" (ao 0)))
def sO:=mQ 1 xg
def v9:SF:=
 (aN (Es "held" (ao 0)))
def qD:=mQ 1 v9
def vh:SF:=
 (aN (fj j8 (bM "allowances" (ao 0))))
def qK:=mQ 1 vh
def fU:List (Str×MV):=[("Grounds",.q 1 qK)]
def Cg:SF:=
 (aN (Wg (mj rE rE (qC (.int 1)) (ao 1) (aX fU (ao 0) au))))
def wV:=mQ 2 Cg
def zP:List (Str×MV):=[("Grounds",.q 2 wV)]
def zV:SF:=
 (bB (iz (iJ (aX zP (ao 0) (ak (aq 1) au)))) (fH "NoGround") aH)
def vD:=mQ 2 zV
def aG:List (Str×MV):=[("Grounds",.q 2 vD)]
def oZ:SF:=
 (aC (cM (gOf (aX aG (ao 0) (ak (aq 1) au))))
 (aN (aA aY (bM "allowances" (ao 0)) (aA pC (ao 1) (qC (.int 1))))))
def kJ:=mQ 2 oZ
def pQ:SF:=
 (aC (cM (gOf (aX aG (ao 0) (ak (aq 1) au))))
 (aN (fj Og (aA aY (bM "circles" (ao 0)) (aA pC (ao 1) (qC (.int 1)))))))
def lN:=mQ 2 pQ
def bG:List (Str×MV):=[("Grounds",.q 2 lN)]
def qj:SF:=
 (aN (aX bG (bM "grounds" (ao 0)) (ak (aq 1) au)))
def lO:=mQ 2 qj
def uY:List (Str×MV):=[("Rights",.q 1 qD)]
def vW:List (Str×MV):=[("Commons",.q 1 sO)]
def wJ:List (Str×MV):=[("Beast",.q 1 yU)]
def bV:List (Str×MV):=[("Commons",.q 2 lO)]
def eV:List (Str×MV):=[("Grounds",.q 2 kJ)]
def zL:SF:=
 (aC (aR (aF 1) (gOf (fX (Dg (qC (.int 1)) (aA bZ (aX fU (bM "grounds" (ao 0)) au) (qC (.int 1)))) (aF 3) [3] jL (bA (ak (aX eV (bM "grounds" (ao 0)) (ak (aq 3) au)) (ak (fj nu (aX bV (ao 0) (ak (aq 3) au))) au))))))
 (aC (aR (aF 2) (gOf (fX (dG (bM "beasts" (bM "herd" (ao 0)))) (aF 4) [4] jL (aX wJ (ao 4) au))))
 (aN (bA (ak (aX vW (ao 0) au) (ak (aq 1) (ak (aX uY (bM "rights" (ao 0)) au) (ak (aq 2) au))))))))
def oJ:=mQ 5 zL
def Vf:SF:=
 (aC (aR (aF 5) (gOf (aA jc (aA bZ (aA bZ (aA yw (ao 5) (qC (.int 48271))) (aA yw (qC (.int 9973)) (ao 4))) (qC (.int 11))) (qC (.int 2147483647)))))
 (zB 3 (aA jc (aA Ez (ao 5) (qC (.int 1021))) (ao 2))))
def V1:SF:=
 (aC (zB 3 (aA jc (ao 0) (ao 2)))
 (aR (aF 0) (gOf (aA Ez (ao 0) (ao 2)))))
def ac0:SF:=
 (aC (Ew 3 (M7 au))
 (aC (aR (aF 0) (gOf (fj N7 (ao 0))))
 (aC (bB (aW (aA geD (ao 0) (aA Qt (qC (.int 10)) (qC (.int 18))))) (aC (rQ (Ji (ao 1)) (aF 4) V1)
 (aN (aq 3))) aH)
 (aC (aR (aF 5) (gOf (aA jc (aA yw (aA bZ (aA jc (ao 0) (qC (.int 1000003))) (qC (.int 17))) (qC (.int 69621))) (qC (.int 2147483647)))))
 (aC (rQ (Ji (ao 1)) (aF 4) Vf)
 (aN (aq 3)))))))
def vq:=mQ 6 ac0
def Qw:SF:=
 (aC (bB (aW (aA bH (aA jc (ao 1) (qC (.int 4))) (qC (.int 1)))) (aN (fj nu (fX (dG (ao 0)) (aF 2) [2] jL (aA wO (qC (.int 0)) (aA pC (ao 2) (qC (.int 7))))))) aH)
 (aC (bB (aW (aA bH (aA jc (ao 1) (qC (.int 4))) (qC (.int 2)))) (aN (fj nu (fX (dG (ao 0)) (aF 2) [2] jL (aA jc (ao 2) (qC (.int 3)))))) aH)
 (aN (fj nu (ao 0)))))
def uL:=mQ 3 Qw
def acz:SF:=
 (aC (aR (aF 1) (gOf (aU vq (ak (aq 0) (ak (qC (.int 7)) (ak (qC (.int 10)) au))))))
 (aN (aU uL (ak (pZ (ao 1) fD (dW (qC (.int 6)))) (ak (aA aY (ao 1) (qC (.int 6))) au)))))
def CQ:=mQ 2 acz
def Hl:SF:=
 (aC (bB (aW (aA bH (aA jc (ao 0) (qC (.int 8))) (qC (.int 7)))) (aN (qY au)) aH)
 (aC (aR (aF 1) (gOf (qY (ak (bA (ak (qC (.str "ground")) (ak (qC (.int 0)) (ak (qC (.int 0)) au)))) (ak (bA (ak (qC (.str "owner")) (ak (qC (.int 0)) (ak (qC (.int 0)) au)))) (ak (bA (ak (qC (.str "owner")) (ak (qC (.int 0)) (ak (qC (.int 0)) au)))) (ak (bA (ak (qC (.str "enrol")) (ak (qC (.int 0)) (ak (qC (.int 0)) au)))) (ak (bA (ak (qC (.str "enrol")) (ak (qC (.int 1)) (ak (qC (.int 0)) au)))) au))))))))
 (aC (aR (aF 1) (gOf (aA bZ (ao 1) (qY (ak (bA (ak (qC (.str "bring")) (ak (qC (.int 0)) (ak (qC (.int 0)) au)))) (ak (bA (ak (qC (.str "cut")) (ak (qC (.int 0)) (ak (qC (.int 0)) au)))) (ak (bA (ak (qC (.str "bring")) (ak (qC (.int 1)) (ak (qC (.int 0)) au)))) (ak (bA (ak (qC (.str "cut")) (ak (qC (.int 1)) (ak (qC (.int 0)) au)))) (ak (bA (ak (qC (.str "ground")) (ak (qC (.int 0)) (ak (qC (.int 0)) au)))) (ak (bA (ak (qC (.str "enrol")) (ak (qC (.int 0)) (ak (qC (.int 1)) au)))) au))))))))))
 (aN (aq 1)))))
def wA:=mQ 2 Hl
def M8:SF:=
 (aC (aR (aF 1) (gOf (qY (ak (qC (.str "tear")) (ak (qC (.str "cut")) (ak (qC (.str "bring")) (ak (qC (.str "sell")) (ak (qC (.str "move")) (ak (qC (.str "enrol")) (ak (qC (.str "bear")) (ak (qC (.str "tear")) (ak (qC (.str "cut")) (ak (qC (.str "sell")) (ak (qC (.str "move")) (ak (qC (.str "unite")) (ak (qC (.str "part")) au))))))))))))))))
 (aC (aR (aF 1) (gOf (aA bZ (ao 1) (qY (ak (qC (.str "heir")) (ak (qC (.str "pass")) (ak (qC (.str "die")) (ak (qC (.str "leave")) (ak (qC (.str "ground")) (ak (qC (.str "owner")) (ak (qC (.str "enrol")) (ak (qC (.str "tear")) (ak (qC (.str "sell")) (ak (qC (.str "bring")) (ak (qC (.str "bear")) (ak (qC (.str "cut")) au))))))))))))))))
 (aN (aA aY (ao 1) (aA jc (ao 0) (qC (.int 25)))))))
def xO:=mQ 2 M8
def Q7:SF:=
 (aC (aR (aF 5) (gOf (aA aY (bA (ak (qC (.int 0)) (ak (qC (.int 0)) (ak (qC (.int 0)) (ak (qC (.int 0)) (ak (qC (.int 0)) (ak (qC (.int 1)) (ak (qC (.int 1)) (ak (qC (.int 2)) (ak (qC (.int 3)) (ak (fj U4 (qC (.int 1))) au))))))))))) (ao 4))))
 (zB 2 (aA wO (qC (.int 0)) (aA JM (qC (.int 9)) (aA bZ (ao 3) (ao 5))))))
def aae:SF:=
 (aC (Ew 2 (M7 au))
 (aC (rQ (Kh (aq 0) (aq 1)) (bF [3,4]) Q7)
 (aN (fj nu (ao 2)))))
def MF:=mQ 6 aae
def N6:SF:=
 (aC (bB (aW (aA Nr (ao 1) (qC (.int 4)))) (aN (aU MF (ak (aq 2) (ak (aq 0) au)))) aH)
 (aN (aU uL (ak (aq 0) (ak (aq 1) au)))))
def xP:=mQ 3 N6
def Yj:SF:=
 (aC (bB (iJ (ao 2)) (aN (aA bZ (qC (.int 1)) (aA jc (ao 0) (aA wO (qC (.int 1)) (ao 1))))) aH)
 (aN (aA jc (ao 0) (aA bZ (ao 1) (qC (.int 2))))))
def kh:=mQ 3 Yj
def kZ:SF:=
 (aC (aR (aF 6) (gOf (aA Aq (aA aY (ao 3) (qC (.int 6))) (qC (.int 9)))))
 (aC (aR (aF 7) (gOf (aU xP (ak (pZ (ao 3) (dW (qC (.int 8))) (dW (qC (.int 14)))) (ak (aA aY (ao 3) (qC (.int 7))) (ak (aq 5) au))))))
 (aC (bB (aW (aA bH (ao 0) (qC (.str "owner")))) (aN (bA (ak (qC (.str "owner")) au))) aH)
 (aC (bB (aW (aA bH (ao 0) (qC (.str "ground")))) (aN (bA (ak (qC (.str "ground")) (ak (aA bZ (aA aY (bA (ak (qC (.int 0)) (ak (qC (.int 1)) (ak (qC (.int 2)) (ak (qC (.int 3)) (ak (qC (.int 0)) (ak (qC (.int 1)) (ak (qC (.int 5)) (ak (qC (.int 6)) (ak (qC (.int 7)) (ak (qC (.int 8)) au))))))))))) (aA aY (ao 3) (qC (.int 7)))) (aA yw (qC (.int 4)) (fj intD (Rp (ao 6))))) au)))) aH)
 (aC (bB (lJ (aW (aA bH (ao 0) (qC (.str "bring")))) (aW (aA Nr (aA aY (ao 3) (qC (.int 7))) (qC (.int 6))))) (aR (aF 7) (gOf (bA (ak (qC (.int 0)) (ak (qC (.int 0)) (ak (qC (.int 0)) (ak (qC (.int 0)) (ak (qC (.int 0)) (ak (qC (.int 0)) au))))))))) aH)
 (aC (bB (Eh (aW (aA bH (ao 0) (qC (.str "enrol")))) (aW (aA bH (ao 0) (qC (.str "bring"))))) (aN (bA (ak (aq 0) (ak (aU kh (ak (aq 1) (ak (aA aY (ao 4) (qC (.int 0))) (ak (aq 6) au)))) (ak (aU kh (ak (aq 2) (ak (aA aY (ao 4) (qC (.int 1))) (ak (aq 6) au)))) (ak (aq 7) au)))))) aH)
 (aC (bB (aW (aA bH (ao 0) (qC (.str "leave")))) (aN (bA (ak (aq 0) (ak (aU kh (ak (aq 1) (ak (aA aY (ao 4) (qC (.int 0))) (ak (aq 6) au)))) (ak (aU kh (ak (aq 2) (ak (aA aY (ao 4) (qC (.int 1))) (ak (aq 6) au)))) au))))) aH)
 (aC (bB (aW (aA bH (ao 0) (qC (.str "heir")))) (aN (bA (ak (aq 0) (ak (aU kh (ak (aq 1) (ak (aA aY (ao 4) (qC (.int 0))) (ak (aq 6) au)))) (ak (aU kh (ak (aq 2) (ak (aA aY (ao 4) (qC (.int 1))) (ak (aq 6) au)))) (ak (aA jc (aA aY (ao 3) (qC (.int 7))) (qC (.int 4))) au)))))) aH)
 (aC (bB (aW (aA bH (ao 0) (qC (.str "pass")))) (aN (bA (ak (aq 0) (ak (aU kh (ak (aq 1) (ak (aA aY (ao 4) (qC (.int 0))) (ak (aq 6) au)))) (ak (aU kh (ak (aq 2) (ak (aA aY (ao 4) (qC (.int 0))) (ak (aq 6) au)))) au))))) aH)
 (aC (bB (aW (aA bH (ao 0) (qC (.str "unite")))) (aN (bA (ak (aq 0) (ak (aU kh (ak (aq 1) (ak (aA aY (ao 4) (qC (.int 1))) (ak (aq 6) au)))) (ak (aU kh (ak (aq 2) (ak (aA aY (ao 4) (qC (.int 1))) (ak (aq 6) au)))) au))))) aH)
 (aC (bB (aW (aA bH (ao 0) (qC (.str "part")))) (aN (bA (ak (aq 0) (ak (aU kh (ak (aq 1) (ak (aA aY (ao 4) (qC (.int 1))) (ak (aq 6) au)))) au)))) aH)
 (aC (bB (aW (aA bH (ao 0) (qC (.str "tear")))) (aN (bA (ak (aq 0) (ak (aU kh (ak (aq 1) (ak (aA aY (ao 4) (qC (.int 2))) (ak (aq 6) au)))) (ak (aA jc (aA aY (ao 3) (qC (.int 7))) (qC (.int 6))) au))))) aH)
 (aC (bB (aW (aA bH (ao 0) (qC (.str "sell")))) (aN (bA (ak (aq 0) (ak (aU kh (ak (aq 1) (ak (aA aY (ao 4) (qC (.int 2))) (ak (aq 6) au)))) (ak (aU kh (ak (aq 2) (ak (aA aY (ao 4) (qC (.int 0))) (ak (aq 6) au)))) au))))) aH)
 (aC (bB (aW (aA bH (ao 0) (qC (.str "move")))) (aN (bA (ak (aq 0) (ak (aU kh (ak (aq 1) (ak (aA aY (ao 4) (qC (.int 2))) (ak (aq 6) au)))) (ak (aU kh (ak (aq 2) (ak (aA aY (ao 4) (qC (.int 1))) (ak (aq 6) au)))) au))))) aH)
 (aN (bA (ak (aq 0) (ak (aU kh (ak (aq 1) (ak (aA aY (ao 4) (qC (.int 2))) (ak (aq 6) au)))) au))))))))))))))))))
def gW:=mQ 8 kZ
def Ey:SF:=
 (aC (aR (aF 8) (gOf (aU vq (ak (aq 7) (ak (qC (.int 14)) (ak (qC (.int 10)) au))))))
 (aC (aR (aF 9) (gOf (aU xO (ak (aA bZ (aA yw (aA aY (ao 8) (qC (.int 0))) (qC (.int 10))) (aA aY (ao 8) (qC (.int 1)))) au))))
 (aC (aR (aF 10) (gOf (aA bZ (aA yw (aA aY (ao 8) (qC (.int 2))) (qC (.int 10))) (aA aY (ao 8) (qC (.int 3))))))
 (aC (aR (aF 11) (gOf (aA bZ (aA yw (aA aY (ao 8) (qC (.int 4))) (qC (.int 10))) (aA aY (ao 8) (qC (.int 5))))))
 (aC (bB (aW (aA Nr (ao 6) (fj j8 (ao 4)))) (aR (bF [9,10,11]) (gOf (aA aY (ao 4) (ao 6)))) aH)
 (aC (aR (bF [12,13,14]) (gOf (aq 2)))
 (aC (zB 5 (aU gW (ak (aq 9) (ak (aq 10) (ak (aq 11) (ak (aq 8) (ak (aq 2) (ak (aq 3) au))))))))
 (aC (bB (aW (aA bH (ao 9) (qC (.str "owner")))) (GZ 12 (qC (.int 1))) aH)
 (aC (bB (aW (aA bH (ao 9) (qC (.str "ground")))) (GZ 13 (qC (.int 1))) aH)
 (aC (bB (Eh (aW (aA bH (ao 9) (qC (.str "bring")))) (aW (aA bH (ao 9) (qC (.str "bear"))))) (GZ 14 (qC (.int 1))) aH)
 (aR (aF 2) (gOf (bA (ak (aq 12) (ak (aq 13) (ak (aq 14) au))))))))))))))))
def YS:SF:=
 (aC (aR (aF 2) (gOf (bA (ak (qC (.int 0)) (ak (qC (.int 0)) (ak (qC (.int 0)) au))))))
 (aC (aR (aF 3) (gOf (aU CQ (ak (aA Ez (ao 1) (qC (.int 512))) au))))
 (aC (aR (aF 4) (gOf (aU wA (ak (aq 1) au))))
 (aC (Ew 5 (M7 au))
 (aC (rQ (yC 0 (aq 0)) (bF [6,7]) Ey)
 (aN (aq 5)))))))
def Mz:=mQ 15 YS
def ZX:SF:=
 (aC (bB (aW (aA Nr (ao 1) (fj j8 (ao 0)))) (aN (aA aY (ao 0) (ao 1))) aH)
 (aN (qC (.int 0))))
def jQ:=mQ 2 ZX
def xV:SF:=
 (aC (aR (aF 7) (gOf (aU jQ (ak (aq 0) (ak (aA bZ (qC (.int 1)) (ao 5)) au)))))
 (bB (aW (aA bH (ao 6) (qC (.str "e")))) (zB 4 (aU CQ (ak (aq 7) au))) (bB (aW (aA bH (ao 6) (qC (.str "p")))) (zB 4 (aA jc (ao 7) (qC (.int 6)))) (bB (aW (aA bH (aA jc (ao 7) (qC (.int 5))) (qC (.int 4)))) (zB 4 (aA jc (aA Ez (ao 7) (qC (.int 5))) (qC (.int 1000000000)))) (zB 4 (aA jc (aA Ez (ao 7) (qC (.int 5))) (qC (.int 12))))))))
def Vi:SF:=
 (aC (aR (aF 1) (gOf (qY (ak (qC (.str "owner")) (ak (qC (.str "ground")) (ak (qC (.str "enrol")) (ak (qC (.str "leave")) (ak (qC (.str "bring")) (ak (qC (.str "bear")) (ak (qC (.str "cut")) (ak (qC (.str "tear")) (ak (qC (.str "sell")) (ak (qC (.str "move")) (ak (qC (.str "die")) (ak (qC (.str "unite")) au)))))))))))))))
 (aC (aR (aF 1) (gOf (aA bZ (ao 1) (qY (ak (qC (.str "part")) (ak (qC (.str "pass")) (ak (qC (.str "heir")) au)))))))
 (aC (aR (aF 2) (gOf (qY (ak (qC (.str "")) (ak (qC (.str "n")) (ak (qC (.str "nne")) (ak (qC (.str "nn")) (ak (qC (.str "nne")) (ak (qC (.str "n")) (ak (qC (.str "n")) (ak (qC (.str "np")) (ak (qC (.str "nn")) (ak (qC (.str "nn")) (ak (qC (.str "n")) (ak (qC (.str "nn")) (ak (qC (.str "n")) (ak (qC (.str "nn")) (ak (qC (.str "nnn")) au))))))))))))))))))
 (aC (aR (aF 3) (gOf (aA jc (aU jQ (ak (aq 0) (ak (qC (.int 0)) au))) (qC (.int 15)))))
 (aC (Ew 4 (M7 (ak (aA aY (ao 1) (ao 3)) au)))
 (aC (rQ (yC 0 (aA aY (ao 2) (ao 3))) (bF [5,6]) xV)
 (aN (fj nu (ao 4)))))))))
def zY:=mQ 8 Vi
def aal:SF:=
 (aC (aR (aF 1) (gOf (qC (.str "abcdefghijklmnopqrstuvwxyz"))))
 (aN (R9 Ol (qC (.str "")) (fX (dG (aU vq (ak (aq 0) (ak (aA bZ (qC (.int 3)) (aA jc (fj N7 (ao 0)) (qC (.int 4)))) (ak (qC (.int 26)) au))))) (aF 2) [2] jL (aA aY (ao 1) (ao 2))))))
def Ny:=mQ 3 aal
def Yb:SF:=
 (aC (bB (aW (aA Nr (ao 0) (qC (.int 0)))) (aN (aA pC (qC (.int 0)) (aA jc (aA pC (qC (.int 0)) (ao 0)) (aA Qt (qC (.int 10)) (qC (.int 30)))))) aH)
 (aN (aA jc (ao 0) (aA Qt (qC (.int 10)) (qC (.int 30))))))
def wN:=mQ 1 Yb
def qu:SF:=
 (aC (aR (aF 2) (gOf (aA jc (ao 1) (qC (.int 17)))))
 (aC (bB (aW (aA bH (ao 2) (qC (.int 0)))) (aN (pZ (ao 0) fD (dW (qC (.int 5))))) aH)
 (aC (bB (aW (aA bH (ao 2) (qC (.int 1)))) (aN (aA bZ (ao 0) (bA (ak (qC (.int 0)) au)))) aH)
 (aC (bB (aW (aA bH (ao 2) (qC (.int 2)))) (aN (aA bZ (aA bZ (pZ (ao 0) fD (dW (qC (.int 3)))) (bA (ak (qC (.int 10)) au))) (pZ (ao 0) (dW (qC (.int 4))) fD))) aH)
 (aC (bB (aW (aA bH (ao 2) (qC (.int 3)))) (aN (aA bZ (bA (ak (aA pC (qC (.int 0)) (qC (.int 1))) au)) (pZ (ao 0) (dW (qC (.int 1))) fD))) aH)
 (aC (bB (aW (aA bH (ao 2) (qC (.int 4)))) (aN (bA (ak (qC (.int 0)) (ak (qC (.int 0)) (ak (qC (.int 0)) (ak (qC (.int 0)) (ak (qC (.int 0)) (ak (qC (.int 0)) au)))))))) aH)
 (aC (bB (aW (aA bH (ao 2) (qC (.int 5)))) (aN (bA au)) aH)
 (aC (bB (aW (aA bH (ao 2) (qC (.int 6)))) (aN (aA bZ (pZ (ao 0) fD (dW (qC (.int 5)))) (bA (ak (aU wN (ak (aq 1) au)) au)))) aH)
 (aN (aq 0))))))))))
def mX:=mQ 3 qu
def dB:SF:=
 (aC (aR (aF 1) (gOf (aU zY (ak (aq 0) au))))
 (aC (aR (aF 2) (gOf (aA jc (aU jQ (ak (aq 0) (ak (qC (.int 4)) au))) (qC (.int 9)))))
 (aC (aR (aF 3) (gOf (aA jc (aA Ez (aU jQ (ak (aq 0) (ak (qC (.int 4)) au))) (qC (.int 9))) (fj j8 (ao 1)))))
 (aC (aR (aF 4) (gOf (aU jQ (ak (aq 0) (ak (qC (.int 5)) au)))))
 (aC (bB (aW (aA bH (ao 2) (qC (.int 1)))) (aR (aF 1) (gOf (aA bZ (pZ (ao 1) fD (dW (ao 3))) (pZ (ao 1) (dW (aA bZ (ao 3) (qC (.int 1)))) fD)))) aH)
 (aC (bB (aW (aA bH (ao 2) (qC (.int 2)))) (aR (aF 1) (gOf (aA bZ (aA bZ (pZ (ao 1) fD (dW (aA bZ (ao 3) (qC (.int 1))))) (bA (ak (aA jc (ao 4) (qC (.int 12))) au))) (pZ (ao 1) (dW (aA bZ (ao 3) (qC (.int 1)))) fD)))) aH)
 (aC (bB (aW (aA bH (ao 2) (qC (.int 3)))) (aR (aF 1) (gOf (aA bZ (bA (ak (aA aY (qY (ak (qC (.str "")) (ak (qC (.str "Cut")) (ak (qC (.str "cut ")) (ak (qC (.str "sale")) (ak (qC (.str "owners")) au)))))) (aA jc (ao 4) (qC (.int 5)))) au)) (pZ (ao 1) (dW (qC (.int 1))) fD)))) aH)
 (aC (bB (aW (aA bH (ao 2) (qC (.int 4)))) (aR (aF 1) (gOf (aA bZ (aA bZ (pZ (ao 1) fD (dW (ao 3))) (bA (ak (aU wN (ak (aq 4) au)) au))) (pZ (ao 1) (dW (aA bZ (ao 3) (qC (.int 1)))) fD)))) aH)
 (aC (bB (aW (aA bH (ao 2) (qC (.int 5)))) (aR (aF 1) (gOf (aA bZ (aA bZ (pZ (ao 1) fD (dW (ao 3))) (bA (ak (aU mX (ak (aU CQ (ak (aA Ez (ao 4) (qC (.int 17))) au)) (ak (aq 4) au))) au))) (pZ (ao 1) (dW (aA bZ (ao 3) (qC (.int 1)))) fD)))) aH)
 (aC (bB (aW (aA bH (ao 2) (qC (.int 6)))) (aR (aF 1) (gOf (aA bZ (aA bZ (pZ (ao 1) fD (dW (ao 3))) (bA (ak (aA pC (qC (.int 1000000000)) (aA jc (ao 4) (qC (.int 2)))) au))) (pZ (ao 1) (dW (aA bZ (ao 3) (qC (.int 1)))) fD)))) aH)
 (aC (bB (aW (aA bH (ao 2) (qC (.int 7)))) (aR (aF 1) (gOf (aA bZ (aA bZ (pZ (ao 1) fD (dW (ao 3))) (bA (ak (qC (.str "cut")) au))) (pZ (ao 1) (dW (aA bZ (ao 3) (qC (.int 1)))) fD)))) aH)
 (aC (bB (aW (aA bH (ao 2) (qC (.int 8)))) (aR (aF 1) (gOf (aA bZ (bA (ak (aU Ny (ak (aq 4) au)) au)) (pZ (ao 1) (dW (qC (.int 1))) fD)))) aH)
 (aN (aq 1))))))))))))))
def cV:=mQ 5 dB
def Us:SF:=
 (aN (z9 (uK .int (ao 0)) (Rp (uK .bool (ao 0)))))
def zq:=mQ 1 Us
def Qc(r:Mo->List Dat->Out Dat):SF:=
 (bB (iz (iJ (aU r (ak (aq 2) (ak (aq 3) au))))) (aN (qC (.bool false))) aH)
def IV(r:Mo->List Dat->Out Dat):SF:=
 (aC (bB (aW (Cv false .none (ao 1))) (aN (Cv false .none (ao 0))) aH)
 (aC (bB (aW (Cv false (.bool true) (ao 1))) (aN (Cv false (.bool true) (ao 0))) aH)
 (aC (bB (aW (Cv false (.bool false) (ao 1))) (aN (Cv false (.bool false) (ao 0))) aH)
 (aC (bB (iJ (uK .int (ao 1))) (aN (z9 (aU zq (ak (aq 0) au)) (aA bH (ao 0) (ao 1)))) aH)
 (aC (bB (iJ (uK .str (ao 1))) (aN (z9 (uK .str (ao 0)) (aA bH (ao 0) (ao 1)))) aH)
 (aC (bB (lJ (iJ (uK .tuple (ao 1))) (iz (iJ (uK .tuple (ao 0))))) (aN (qC (.bool false))) aH)
 (aC (bB (lJ (iJ (uK .list (ao 1))) (iz (iJ (uK .list (ao 0))))) (aN (qC (.bool false))) aH)
 (aC (bB (aW (aA Aq (fj j8 (ao 0)) (fj j8 (ao 1)))) (aN (qC (.bool false))) aH)
 (aC (rQ (Kh (aq 0) (aq 1)) (bF [2,3]) (Qc r))
 (aN (qC (.bool true))))))))))))
def oU:Nat->Mo->List Dat->Out Dat
 |0=>λ_ _=>.bad
 |n+1=>mQ 4 (IV (oU n))
def oM:SF:=
 (bB (Eh (iz (iJ (aU zq (ak (aq 1) au)))) (iz (mj rE rE (qC (.int 0)) (ao 1) (qC (.int 9))))) (aN (qC (.bool false))) aH)
def rM:SF:=
 (aC (bB (Eh (iz (iJ (uK .tuple (ao 0)))) (aW (aA Aq (fj j8 (ao 0)) (qC (.int 6))))) (aN (qC (.bool false))) aH)
 (aC (rQ (dG (aq 0)) (aF 1) oM)
 (aN (qC (.bool true)))))
def lG:=mQ 2 rM
def mF:SF:=
 (aC (bB (lJ (aW (aA bH (ao 5) (qC (.str "e")))) (iz (iJ (aU lG (ak (aq 4) au))))) (aN (qC (.bool true))) aH)
 (aC (bB (lJ (aW (aA Aq (ao 5) (qC (.str "e")))) (iz (iJ (uK .int (ao 4))))) (aN (qC (.bool true))) aH)
 (aC (bB (lJ (aW (aA bH (ao 5) (qC (.str "n")))) (iz (mj rE rE (qC (.int 0)) (ao 4) (qC (.int 999999999))))) (aN (qC (.bool true))) aH)
 (bB (lJ (aW (aA bH (ao 5) (qC (.str "p")))) (iz (mj rE rE (qC (.int 0)) (ao 4) (qC (.int 5))))) (aN (qC (.bool true))) aH))))
def vO:SF:=
 (aC (bB (Eh (aW (aA bH (fj j8 (ao 0)) (qC (.int 0)))) (iz (iJ (uK .str (aA aY (ao 0) (qC (.int 0))))))) (aN (qC (.bool true))) aH)
 (aC (aR (aF 1) (gOf (qY (ak (qC (.str "owner")) (ak (qC (.str "ground")) (ak (qC (.str "enrol")) (ak (qC (.str "leave")) (ak (qC (.str "bring")) (ak (qC (.str "bear")) (ak (qC (.str "cut")) (ak (qC (.str "tear")) (ak (qC (.str "sell")) (ak (qC (.str "move")) (ak (qC (.str "die")) (ak (qC (.str "unite")) au)))))))))))))))
 (aC (aR (aF 1) (gOf (aA bZ (ao 1) (qY (ak (qC (.str "part")) (ak (qC (.str "pass")) (ak (qC (.str "heir")) au)))))))
 (aC (aR (aF 2) (gOf (qY (ak (qC (.str "")) (ak (qC (.str "n")) (ak (qC (.str "nne")) (ak (qC (.str "nn")) (ak (qC (.str "nne")) (ak (qC (.str "n")) (ak (qC (.str "n")) (ak (qC (.str "np")) (ak (qC (.str "nn")) (ak (qC (.str "nn")) (ak (qC (.str "n")) (ak (qC (.str "nn")) (ak (qC (.str "n")) (ak (qC (.str "nn")) (ak (qC (.str "nnn")) au))))))))))))))))))
 (aC (bB (aW (aA (inD true) (aA aY (ao 0) (qC (.int 0))) (ao 1))) (aN (qC (.bool true))) aH)
 (aC (aR (aF 3) (gOf (aA aY (ao 2) (qLM Ay (ao 1) (aA aY (ao 0) (qC (.int 0)))))))
 (aC (bB (aW (aA Aq (fj j8 (ao 3)) (aA pC (fj j8 (ao 0)) (qC (.int 1))))) (aN (qC (.bool true))) aH)
 (aC (rQ (Kh (pZ (ao 0) (dW (qC (.int 1))) fD) (aq 3)) (bF [4,5]) mF)
 (aN (qC (.bool false)))))))))))
def qJ:=mQ 6 vO
def nJ:SF:=
 (bB (aW (QC true "holders" (aq 1) (ao 0))) (fH "NoOwner") aH)
def jT:=mQ 2 nJ
def zW:SF:=
 (aN (fX (Fe "held" (ao 0)) (bF [3,4,5]) [3,4,5] (lJ (aW (aA bH (ao 3) (ao 1))) (aW (aA bH (ao 4) (ao 2)))) (aq 5)))
def vo:=mQ 6 zW
def cQ:List (Str×MV):=[("Rights",.q 3 vo)]
def vf:SF:=
 (aN (aA gtD (fj j8 (aX cQ (ao 0) (ak (aq 1) (ak (aq 2) au)))) (qC (.int 0))))
def pY:=mQ 3 vf
def tX:List (Str×MV):=[("Rights",.q 3 pY)]
def sH:SF:=
 (bB (iz (iJ (aX tX (bM "rights" (ao 0)) (ak (aq 1) (ak (aq 2) au))))) (fH "NoRight") aH)
def nR:=mQ 3 sH
def uh:SF:=
 (aC (SQ lF "owner_count" (ao 0) (qC (.int 1)))
 (aC (Oj "holders" (ao 0) (iQ "owner_count" (ao 0)) (qC (.bool true)))
 (aN (iQ "owner_count" (ao 0)))))
def gK:=mG 1 uh
def qm:SF:=
 (aC (aR (aF 4) (gOf (bA (ak (aq 1) (ak (aq 2) (ak (aq 3) au))))))
 (aC (bB (aW (QC false "held" (aq 4) (ao 0))) (fH "HasRight") aH)
 (Oj "held" (ao 0) (aq 4) (qC (.bool true)))))
def jF:=mG 5 qm
def DR:SF:=
 (aR (aF 2) (gOf (Fg (dG (ao 2)) (bF [4,5]) [4,5,6] jL (Dg (ao 3) (aA bZ (aA JM (aA bZ (ao 3) (ao 5)) (qC cX)) (qC (.int 1)))) (aF 6) [6] jL (bA (ak (aA bZ (ao 4) (bA (ak (aq 6) au))) (ak (aA pC (ao 5) (aA pC (ao 6) (ao 3))) au))))))
def aad:SF:=
 (aC (aR (aF 2) (gOf (qY (ak (bA (ak (bA au) (ak (aq 1) au))) au))))
 (aC (rQ (dG (aq 0)) (aF 3) DR)
 (aN (fX (dG (ao 2)) (bF [4,5]) [4,5] jL (aq 4)))))
def Ls:=mQ 7 aad
def Vs:SF:=
 (aN (fj Yx (fX (Kh (ao 0) (ao 1)) (bF [2,3]) [2,3] (aW (aA gtD (ao 3) (ao 2))) (aA pC (ao 3) (ao 2)))))
def vC:=mQ 4 Vs
def Hf:SF:=
 (aN (fX (dG (aU Ls (ak (aq 0) (ak (aq 1) au)))) (aF 2) [2] (aW (aA bH (aU vC (ak (aq 0) (ak (aq 2) au))) (ao 1))) (aq 2)))
def wB:=mQ 3 Hf
def Vd:SF:=
 (aN (aA wO (aU vC (ak (aq 0) (ak (aq 1) au))) (aU vC (ak (aq 1) (ak (aq 0) au)))))
def Jd:=mQ 2 Vd
def ZG:SF:=
 (aN (aA rE (aU Jd (ak (aq 0) (ak (aq 1) au))) (ao 2)))
def sY:=mQ 3 ZG
def lu:SF:=
 (bB (iz (iJ (fj QD (fX (dG (ao 2)) (bF [5,6]) [5,6] jL (aU sY (ak (aq 4) (ak (aq 6) (ak (aq 3) au)))))))) (aN (aq 4)) aH)
def yF:SF:=
 (aC (rQ (dG (aU wB (ak (aq 0) (ak (aq 1) au)))) (aF 4) lu)
 (fH "NoneFree"))
def qH:=mQ 7 yF
def rJ:SF:=
 (aN (aA aY (aX cQ (bM "rights" (ao 0)) (ak (aq 1) (ak (aq 2) au))) (qC (.int 0))))
def nQ:=mQ 3 rJ
def Qi:SF:=
 (aN (fj Rk (ao 0)))
def rG:=mQ 1 Qi
def v7:SF:=
 (aN (fX (yC 1 (bM "beasts" (ao 0))) (bF [1,2]) [1,2] (iJ (bM "alive" (ao 2))) (bA (ak (aq 1) (ak (aq 2) au)))))
def qF:=mQ 3 v7
def eY:List (Str×MV):=[("Herd",.q 1 qF)]
def zG:SF:=
 (aN (fX (dG (aX eY (ao 0) au)) (bF [2,3]) [2,3] (aW (aA (inD false) (bM "ground" (ao 3)) (ao 1))) (bA (ak (aq 2) (ak (aq 3) au)))))
def qW:=mQ 4 zG
def tR:SF:=
 (aN (fX (Fe "held" (ao 0)) (bF [2,3,4]) [2,3,4] (aW (aA (inD false) (ao 3) (ao 1))) (bA (ak (aq 2) (ak (aq 4) au)))))
def pq:=mQ 5 tR
def rO:List (Str×MV):=[("Rights",.q 2 pq)]
def jO:List (Str×MV):=[("Herd",.q 2 qW)]
def lK:SF:=
 (aC (aR (aF 3) (gOf (aX bV (ao 0) (ak (aq 2) au))))
 (aC (aR (aF 4) (gOf (fX (dG (aX jO (bM "herd" (ao 0)) (ak (aq 3) au))) (bF [5,6]) [5,6] (lJ (aW (Cv true .none (bM "due" (ao 6)))) (aW (aA Aq (ao 5) (ao 1)))) (bA (ak (iQ "owner" (ao 6)) (ak (iQ "due" (ao 6)) au))))))
 (aN (aU rG (ak (aA bZ (aX rO (bM "rights" (ao 0)) (ak (aq 3) au)) (ao 4)) au)))))
def ju:=mQ 7 lK
def dD:List (Str×MV):=[("Commons",.q 3 ju)]
def qd:SF:=
 (aN (aX dD (ao 0) (ak (qC (.int 0)) (ak (aq 1) au))))
def lX:=mQ 2 qd
def vJ:SF:=
 (aN (fj maxD (fX (dG (aX bG (ao 0) (ak (aq 1) au))) (aF 2) [2] jL (aX eV (ao 0) (ak (aq 2) au)))))
def qR:=mQ 3 vJ
def ux:List (Str×MV):=[("Grounds",.q 2 qR)]
def vP:SF:=
 (aN (aX ux (bM "grounds" (ao 0)) (ak (aq 1) au)))
def qL:=mQ 2 vP
def jm:List (Str×MV):=[("Rights",.g 4 jF)]
def dI:List (Str×MV):=[("Commons",.g 1 gK)]
def cI:List (Str×MV):=[("Commons",.q 2 qL)]
def cO:List (Str×MV):=[("Commons",.q 2 lX)]
def bY:List (Str×MV):=[("Commons",.q 3 nQ)]
def aO:List (Str×MV):=[("Commons",.q 3 nR)]
def aD:List (Str×MV):=[("Commons",.q 2 jT)]
def eU:SF:=
 (aC (cM (gOf (aX aD (ao 0) (ak (aq 1) au))))
 (aC (cM (gOf (aX aG (bM "grounds" (ao 0)) (ak (aq 2) au))))
 (aC (bB (iz (mj rE rE (qC jE) (ao 3) (qC mD))) (fH "BadExtra") aH)
 (aC (cM (gOf (aX aO (ao 0) (ak (aq 1) (ak (aq 2) au)))))
 (aC (aR (aF 4) (gOf (aU qH (ak (aX bY (ao 0) (ak (aq 1) (ak (aq 2) au))) (ak (aq 3) (ak (aX cO (ao 0) (ak (aq 2) au)) (ak (aX cI (ao 0) (ak (aq 2) au)) au)))))))
 (aC (aR (aF 5) (bR dI (ao 0) au))
 (aC (cM (bR jm (bM "rights" (ao 0)) (ak (aq 5) (ak (aq 2) (ak (aq 4) au)))))
 (aN (bA (ak (aq 5) (ak (aq 4) au)))))))))))
def cU:=mG 6 eU
def jW:SF:=
 (aC (bB (iz (mj rE rE (qC (.int 0)) (ao 1) (qC iI))) (fH "BadAllowance") aH)
 (aC (FZ "allowances" (ao 0) (gOf (aq 1)))
 (aC (FZ "circles" (ao 0) (gOf (bA (ak (aX fU (ao 0) au) au))))
 (aN (aX fU (ao 0) au)))))
def fW:=mG 2 jW
def mJ:List (Str×MV):=[("Grounds",.g 2 fW)]
def nO:SF:=
 (dh (bR mJ (bM "grounds" (ao 0)) (ak (aq 1) au)))
def fZ:=mG 2 nO
def Nh:SF:=
 (aN (fX (dG (aU rG (ak (aq 2) au))) (bF [4,5]) [4,5] (lJ (aW (aA Aq (ao 4) (ao 0))) (iJ (aU sY (ak (aq 1) (ak (aq 5) (ak (aq 3) au)))))) (bA (ak (aq 4) (ak (aq 5) au)))))
def Ao:=mQ 6 Nh
def Ve:SF:=
 (aN (fj nu (fX (Kh (ao 0) (ao 1)) (bF [2,3]) [2,3] jL (aA wO (ao 2) (ao 3)))))
def qI:=mQ 4 Ve
def CW:SF:=
 (aC (aR (aF 4) (gOf (aU Ao (ak (aq 0) (ak (aq 1) (ak (aq 2) (ak (aq 3) au)))))))
 (bB (iJ (ao 4)) (aC (aR (bF [5,6]) (gOf (aA aY (ao 4) (qC (.int 0)))))
 (Dr "Clash" ["ones","others","ear"] (ak (bA (ak (aq 0) (ak (aq 1) au))) (ak (bA (ak (aq 5) (ak (aq 6) au))) (ak (aU qI (ak (aq 1) (ak (aq 6) au))) au))))) aH))
def pO:=mQ 7 CW
def nY:SF:=
 (cM (gOf (aU pO (ak (aq 1) (ak (aq 2) (ak (aX cO (ao 0) (ak (aq 3) au)) (ak (aX cI (ao 0) (ak (aq 3) au)) au)))))))
def iV:=mQ 4 nY
def Jq:SF:=
 (aN (z9 (aA bH (fj j8 (ao 0)) (fj j8 (qC eE))) (fj M4 (fX (dG (ao 0)) (aF 1) [1] jL (Wg (mj rE rE (qC (.int 0)) (ao 1) (qC cX)))))))
def uM:=mQ 2 Jq
def Jw:SF:=
 (bB (iz (iJ (aU uM (ak (aq 0) au)))) (fH "BadEar") aH)
def sG:=mQ 1 Jw
def bW:List (Str×MV):=[("Commons",.q 4 iV)]
def gQ:SF:=
 (aC (cM (gOf (aX aD (ao 0) (ak (aq 1) au))))
 (aC (cM (gOf (aX aG (bM "grounds" (ao 0)) (ak (aq 2) au))))
 (aC (cM (gOf (aU sG (ak (aq 3) au))))
 (aC (bB (aW (aA bH (ao 3) (qC jX))) (fH "Bare") aH)
 (aC (bB (aW (aA (inD false) (ao 3) (aX cQ (bM "rights" (ao 0)) (ak (aq 1) (ak (aq 2) au))))) (fH "HasRight") aH)
 (aC (cM (gOf (aX bW (ao 0) (ak (aq 1) (ak (aq 3) (ak (aq 2) au))))))
 (cM (bR jm (bM "rights" (ao 0)) (ak (aq 1) (ak (aq 2) (ak (aq 3) au)))))))))))
def dU:=mG 4 gQ
def yd:SF:=
 (Oq "held" (ao 0) (bA (ak (aq 1) (ak (aq 2) (ak (aq 4) au)))))
def wI:SF:=
 (aC (aR (aF 3) (gOf (aX cQ (ao 0) (ak (aq 1) (ak (aq 2) au)))))
 (aC (bB (iz (iJ (ao 3))) (fH "NoRight") aH)
 (aC (rQ (dG (aq 3)) (aF 4) yd)
 (aN (aq 3)))))
def pG:=mG 5 wI
def zE:List (Str×MV):=[("Rights",.g 3 pG)]
def jR:SF:=
 (aC (cM (gOf (aX aD (ao 0) (ak (aq 1) au))))
 (aC (cM (gOf (aX aG (bM "grounds" (ao 0)) (ak (aq 2) au))))
 (aC (cM (gOf (aX aO (ao 0) (ak (aq 1) (ak (aq 2) au)))))
 (aC (bB (iJ (fj QD (fX (dG (aX jO (bM "herd" (ao 0)) (ak (qY (ak (aq 2) au)) au))) (bF [3,4]) [3,4] jL (aA bH (bM "owner" (ao 4)) (ao 1))))) (fH "StillThere") aH)
 (dh (bR zE (bM "rights" (ao 0)) (ak (aq 1) (ak (aq 2) au))))))))
def fQ:=mG 5 jR
def rZ:SF:=
 (aC (aR (bF [2,3,4,5,6]) (gOf (aq 1)))
 (aC (vL lF (ao 0) "owner" (gOf (aq 2)))
 (aC (vL lF (ao 0) "ground" (gOf (aq 3)))
 (aC (vL lF (ao 0) "due" (gOf (aq 4)))
 (aC (vL lF (ao 0) "ear" (gOf (aq 5)))
 (vL lF (ao 0) "alive" (gOf (aq 6))))))))
def oV:=mG 7 rZ
def Ou:SF:=
 (aC (bB (aW (aA bH (aA aY (ao 0) (qC (.int 0))) (qC (.str "born")))) (aC (aR (bF [1,2,3,4]) (gOf (aq 0)))
 (aN (bA (ak (aq 3) (ak (aq 4) (ak (qC .none) (ak (qC jX) (ak (qC (.bool true)) au)))))))) aH)
 (aC (aR (bF [1,3,4,5]) (gOf (aq 0)))
 (aN (bA (ak (aq 3) (ak (aq 4) (ak (qC .none) (ak (aq 5) (ak (qC (.bool true)) au)))))))))
def Dm:=mQ 6 Ou
def j6:List (Str×MV):=[("Beast",.g 2 oV)]
def Em:SF:=
 (aC (Gm lF (ao 0) "story" (M7 (ak (aq 1) au)))
 (aC (vL lF (ao 0) "mother" (gOf (Ud (aW (aA bH (aA aY (ao 1) (qC (.int 0))) (qC (.str "born")))) (aA aY (ao 1) (qC (.int 1))) (qC (.int 0)))))
 (cM (bR j6 (ao 0) (ak (aU Dm (ak (aq 1) au)) au)))))
def uP:=mG 2 Em
def xM:SF:=
 (aC (FZ "beasts" (ao 0) (yI "Beast" uP (ak (aq 1) au)))
 (aN (fj j8 (bM "beasts" (ao 0)))))
def rP:=mG 2 xM
def jZ:List (Str×MV):=[("Herd",.g 2 rP)]
def jV:SF:=
 (aC (cM (gOf (aX aD (ao 0) (ak (aq 1) au))))
 (aC (cM (gOf (aX aG (bM "grounds" (ao 0)) (ak (aq 2) au))))
 (aC (cM (gOf (aU sG (ak (aq 3) au))))
 (aC (cM (gOf (aX aO (ao 0) (ak (aq 1) (ak (aq 2) au)))))
 (dh (bR jZ (bM "herd" (ao 0)) (ak (bA (ak (qC (.str "brought")) (ak (aq 1) (ak (aq 2) (ak (aq 3) au))))) au)))))))
def fP:=mG 4 jV
def uN:SF:=
 (aC (bB (iz (mj rE rE (qC (.int 1)) (ao 1) (fj j8 (bM "beasts" (ao 0))))) (fH "NoBeast") aH)
 (aN (aA aY (bM "beasts" (ao 0)) (aA pC (ao 1) (qC (.int 1))))))
def lM:=mQ 2 uN
def gj:List (Str×MV):=[("Herd",.q 2 lM)]
def wU:SF:=
 (aC (aR (aF 2) (gOf (aX gj (ao 0) (ak (aq 1) au))))
 (aC (bB (iz (iJ (bM "alive" (ao 2)))) (fH "Dead") aH)
 (aN (aq 2))))
def tG:=mQ 3 wU
def bL:List (Str×MV):=[("Herd",.q 2 tG)]
def sS:SF:=
 (aC (aR (aF 2) (gOf (aX bL (ao 0) (ak (aq 1) au))))
 (aC (bB (aW (Cv false .none (bM "due" (ao 2)))) (fH "Unmarked") aH)
 (aN (aq 2))))
def pK:=mQ 3 sS
def bD:List (Str×MV):=[("Herd",.q 2 pK)]
def oH:SF:=
 (aC (aR (aF 2) (gOf (aX bD (bM "herd" (ao 0)) (ak (aq 1) au))))
 (dh (bR jZ (bM "herd" (ao 0)) (ak (bA (ak (qC (.str "born")) (ak (aq 1) (ak (iQ "owner" (ao 2)) (ak (iQ "ground" (ao 2)) au))))) au))))
def iT:=mG 3 oH
def J9:SF:=
 (aN (fj nu (fX (yC 0 (ao 0)) (bF [2,3]) [2,3] jL (Ud (aW (aA bH (ao 2) (ao 1))) (aA bZ (ao 3) (qC (.int 1))) (aq 3)))))
def yh:=mQ 4 J9
def Mg:SF:=
 (aC (aR (bF [2,3,4,5,6]) (gOf (aq 0)))
 (aC (aR (aF 7) (gOf (aA aY (ao 1) (qC (.int 0)))))
 (aC (bB (aW (aA bH (ao 7) (qC (.str "cut")))) (RN 4 5 (gOf (aA aY (ao 1) (qC (.int 1))))) (bB (aW (aA bH (ao 7) (qC (.str "torn")))) (aR (aF 5) (gOf (aU yh (ak (aq 5) (ak (aA aY (ao 1) (qC (.int 1))) au))))) (bB (aW (aA bH (ao 7) (qC (.str "sold")))) (aC (aR (aF 2) (gOf (aA aY (ao 1) (qC (.int 1)))))
 (RN 4 5 (gOf (aA aY (ao 1) (qC (.int 2)))))) (bB (aW (aA bH (ao 7) (qC (.str "moved")))) (aR (aF 3) (gOf (aA aY (ao 1) (qC (.int 1))))) (bB (aW (aA bH (ao 7) (qC (.str "followed")))) (aC (aR (aF 2) (gOf (aA aY (ao 1) (qC (.int 1)))))
 (aR (aF 3) (gOf (aA aY (ao 1) (qC (.int 2)))))) (bB (aW (aA bH (ao 7) (qC (.str "passed")))) (aR (aF 2) (gOf (aA aY (ao 1) (qC (.int 1))))) (bB (aW (aA bH (ao 7) (qC (.str "died")))) (aR (aF 6) (gOf (qC (.bool false)))) aH)))))))
 (aN (bA (ak (aq 2) (ak (aq 3) (ak (aq 4) (ak (aq 5) (ak (aq 6) au))))))))))
def Br:=mQ 8 Mg
def zU:SF:=
 (aC (FZ "story" (ao 0) (gOf (aq 1)))
 (cM (bR j6 (ao 0) (ak (aU Br (ak (aX oG (ao 0) au) (ak (aq 1) au))) au))))
def oA:=mG 2 zU
def bO:List (Str×MV):=[("Beast",.g 2 oA)]
def pH:SF:=
 (aC (aR (aF 2) (gOf (aX bL (bM "herd" (ao 0)) (ak (aq 1) au))))
 (aC (aR (aF 3) (gOf (aU qI (ak (iQ "ear" (ao 2)) (ak (aX bY (ao 0) (ak (iQ "owner" (ao 2)) (ak (iQ "ground" (ao 2)) au))) au)))))
 (aC (cM (gOf (aX bW (ao 0) (ak (iQ "owner" (ao 2)) (ak (aq 3) (ak (iQ "ground" (ao 2)) au))))))
 (aC (cM (bR bO (ao 2) (ak (bA (ak (qC (.str "cut")) (ak (aq 3) au))) au)))
 (aN (aq 3))))))
def jx:=mG 4 pH
def jD:SF:=
 (aC (aR (aF 3) (gOf (aX bL (bM "herd" (ao 0)) (ak (aq 1) au))))
 (aC (bB (iz (mj rE Nr (qC (.int 0)) (ao 2) (fj j8 (qC eE)))) (fH "NoPlace") aH)
 (aC (bB (aW (aA geD (aA aY (bM "ear" (ao 3)) (ao 2)) (qC cX))) (fH "Deepest") aH)
 (aC (cM (bR bO (ao 3) (ak (bA (ak (qC (.str "torn")) (ak (aq 2) au))) au)))
 (aN (iQ "ear" (ao 3)))))))
def fM:=mG 4 jD
def wH:SF:=
 (aC (cM (gOf (aX gj (ao 0) (ak (aq 1) au))))
 (aN (fX (dG (aX eY (ao 0) au)) (bF [2,3]) [2,3] (lJ (aW (aA bH (bM "mother" (ao 3)) (ao 1))) (aW (Cv false .none (bM "due" (ao 3))))) (bA (ak (aq 2) (ak (aq 3) au))))))
def tH:=mQ 4 wH
def zK:List (Str×MV):=[("Herd",.q 2 tH)]
def rR:SF:=
 (cM (bR bO (ao 4) (ak (bA (ak (qC (.str "followed")) (ak (iQ "owner" (ao 2)) (ak (iQ "ground" (ao 2)) au)))) au)))
def uW:SF:=
 (aC (aR (aF 2) (gOf (aX gj (ao 0) (ak (aq 1) au))))
 (rQ (dG (aX zK (ao 0) (ak (aq 1) au))) (bF [3,4]) rR))
def pU:=mG 5 uW
def jk:List (Str×MV):=[("Herd",.g 2 pU)]
def gG:SF:=
 (aC (aR (aF 3) (gOf (aX bD (bM "herd" (ao 0)) (ak (aq 1) au))))
 (aC (cM (gOf (aX aD (ao 0) (ak (aq 2) au))))
 (aC (bB (aW (aA bH (bM "owner" (ao 3)) (ao 2))) (fH "SameOwner") aH)
 (aC (cM (gOf (aX aO (ao 0) (ak (aq 2) (ak (iQ "ground" (ao 3)) au)))))
 (aC (aR (aF 4) (gOf (aU qI (ak (iQ "ear" (ao 3)) (ak (aX bY (ao 0) (ak (aq 2) (ak (iQ "ground" (ao 3)) au))) au)))))
 (aC (cM (gOf (aU pO (ak (aq 2) (ak (aq 4) (ak (aX dD (ao 0) (ak (aq 1) (ak (iQ "ground" (ao 3)) au))) (ak (aX cI (ao 0) (ak (iQ "ground" (ao 3)) au)) au)))))))
 (aC (cM (bR bO (ao 3) (ak (bA (ak (qC (.str "sold")) (ak (aq 2) (ak (aq 4) au)))) au)))
 (aC (cM (bR jk (bM "herd" (ao 0)) (ak (aq 1) au)))
 (aN (aq 4))))))))))
def dO:=mG 5 gG
def gD:SF:=
 (aC (aR (aF 3) (gOf (aX bD (bM "herd" (ao 0)) (ak (aq 1) au))))
 (aC (cM (gOf (aX aG (bM "grounds" (ao 0)) (ak (aq 2) au))))
 (aC (aR (aF 4) (gOf (iQ "ground" (ao 3))))
 (aC (bB (aW (aA bH (ao 4) (ao 2))) (fH "SameGround") aH)
 (aC (cM (gOf (aX aO (ao 0) (ak (iQ "owner" (ao 3)) (ak (aq 2) au)))))
 (aC (cM (gOf (aX bW (ao 0) (ak (iQ "owner" (ao 3)) (ak (iQ "due" (ao 3)) (ak (aq 2) au))))))
 (aC (cM (bR bO (ao 3) (ak (bA (ak (qC (.str "moved")) (ak (aq 2) au))) au)))
 (aC (cM (bR jk (bM "herd" (ao 0)) (ak (aq 1) au)))
 (aN (aq 4))))))))))
def dN:=mG 5 gD
def sW:SF:=
 (cM (bR bO (aX bL (bM "herd" (ao 0)) (ak (aq 1) au)) (ak (bA (ak (qC (.str "died")) au)) au)))
def j7:=mG 2 sW
def Kl:SF:=
 (aC (aR (aF 2) (gOf (aU rG (ak (aq 0) au))))
 (aN (Fg (yC 0 (ao 2)) (bF [3,4]) [3,4,5] jL (dG (pZ (ao 2) (dW (aA bZ (ao 3) (qC (.int 1)))) fD)) (aF 5) [5] (lJ (aW (aA Aq (aA aY (ao 4) (qC (.int 0))) (aA aY (ao 5) (qC (.int 0))))) (iJ (aU sY (ak (aA aY (ao 4) (qC (.int 1))) (ak (aA aY (ao 5) (qC (.int 1))) (ak (aq 1) au)))))) (bA (ak (aq 4) (ak (aq 5) au))))))
def vm:=mQ 6 Kl
def uZ:SF:=
 (aC (aR (aF 3) (gOf (aA wO (aX cI (ao 0) (ak (aq 1) au)) (aX cI (ao 0) (ak (aq 2) au)))))
 (aN (aU vm (ak (aA bZ (aX cO (ao 0) (ak (aq 1) au)) (aX cO (ao 0) (ak (aq 2) au))) (ak (aq 3) au)))))
def lY:=mQ 4 uZ
def uo:SF:=
 (T9 "circles" (ao 0) (aA pC (ao 3) (qC (.int 1))) (aq 2))
def vZ:SF:=
 (aC (aR (aF 2) (gOf (fj nu (ao 1))))
 (aC (rQ (dG (aq 1)) (aF 3) uo)
 (aN (aq 1))))
def ni:=mG 4 vZ
def iw:List (Str×MV):=[("Grounds",.g 2 ni)]
def uw:SF:=
 (aC (aR (aF 3) (gOf (aX bG (ao 0) (ak (aq 1) au))))
 (aC (aR (aF 4) (gOf (aX bG (ao 0) (ak (aq 2) au))))
 (aC (bB (aW (aA (inD false) (ao 2) (ao 3))) (fH "Together") aH)
 (dh (bR iw (ao 0) (ak (fj JN (aA bZ (ao 3) (ao 4))) au))))))
def jY:=mG 5 uw
def xq:List (Str×MV):=[("Grounds",.g 3 jY)]
def o7:List (Str×MV):=[("Commons",.q 3 lY)]
def jU:SF:=
 (aC (cM (gOf (aX aG (bM "grounds" (ao 0)) (ak (aq 2) au))))
 (aC (bB (aW (aA (inD false) (ao 2) (aX bV (ao 0) (ak (aq 1) au)))) (fH "Together") aH)
 (aC (aR (aF 3) (gOf (aX o7 (ao 0) (ak (aq 1) (ak (aq 2) au)))))
 (aC (bB (iJ (ao 3)) (aC (aR (bF [4,5]) (gOf (aA aY (ao 3) (qC (.int 0)))))
 (Dr "Clash" ["ones","others","ear"] (ak (aq 4) (ak (aq 5) (ak (aU qI (ak (aA aY (ao 4) (qC (.int 1))) (ak (aA aY (ao 5) (qC (.int 1))) au))) au))))) aH)
 (dh (bR xq (bM "grounds" (ao 0)) (ak (aq 1) (ak (aq 2) au))))))))
def eX:=mG 6 jU
def qN:SF:=
 (aC (aR (aF 2) (gOf (fX (dG (aX bG (ao 0) (ak (aq 1) au))) (aF 3) [3] (aW (aA Aq (ao 3) (ao 1))) (aq 3))))
 (aC (bB (iz (iJ (ao 2))) (fH "Alone") aH)
 (aC (cM (bR iw (ao 0) (ak (qY (ak (aq 1) au)) au)))
 (dh (bR iw (ao 0) (ak (aq 2) au))))))
def iH:=mG 4 qN
def qb:List (Str×MV):=[("Grounds",.g 2 iH)]
def qT:SF:=
 (dh (bR qb (bM "grounds" (ao 0)) (ak (aq 1) au)))
def iy:=mG 2 qT
def u9:SF:=
 (RL lF (ao 0) "held" (qDc (Fe "held" (ao 0)) (bF [3,4,5]) [3,4,5] (bA (ak (Ud (aW (aA bH (ao 3) (ao 1))) (aq 2) (aq 3)) (ak (aq 4) (ak (aq 5) au))))))
def pW:=mG 6 u9
def Eo:SF:=
 (aN (fX (dG (aX eY (ao 0) au)) (bF [2,3]) [2,3] (aW (aA bH (bM "owner" (ao 3)) (ao 1))) (bA (ak (aq 2) (ak (aq 3) au)))))
def yc:=mQ 4 Eo
def Cd:List (Str×MV):=[("Herd",.q 2 yc)]
def tV:List (Str×MV):=[("Rights",.g 3 pW)]
def tZ:SF:=
 (cM (bR bO (ao 5) (ak (bA (ak (qC (.str "passed")) (ak (aq 2) au))) au)))
def j5:SF:=
 (aC (cM (gOf (aX aD (ao 0) (ak (aq 1) au))))
 (aC (cM (gOf (aX aD (ao 0) (ak (aq 2) au))))
 (aC (bB (aW (aA bH (ao 1) (ao 2))) (fH "SameOwner") aH)
 (aC (cM (bR tV (bM "rights" (ao 0)) (ak (aq 1) (ak (aq 2) au))))
 (aC (aR (aF 3) (gOf (aX Cd (bM "herd" (ao 0)) (ak (aq 1) au))))
 (aC (rQ (dG (aq 3)) (bF [4,5]) tZ)
 (aC (Oq "holders" (ao 0) (aq 1))
 (aN (fX (dG (ao 3)) (bF [4,5]) [4,5] jL (aq 4))))))))))
def fB:=mG 6 j5
def fO:SF:=
 (aC (bB (aW (aA bH (ao 0) (qC (.str "ear")))) (aN (z9 (uK .tuple (ao 1)) (aU uM (ak (aq 1) au)))) aH)
 (aC (aR (aF 2) (gOf (Ud (aW (aA bH (ao 0) (qC (.str "place")))) (aA pC (fj j8 (qC eE)) (qC (.int 1))) (qC dR))))
 (aN (z9 (uK .int (ao 1)) (Wg (mj rE rE (qC (.int 0)) (ao 1) (ao 2)))))))
def cJ:=mQ 3 fO
def yL:SF:=
 (aC (bB (Eh (aW (aA bH (fj j8 (ao 0)) (qC (.int 0)))) (aW (VG true (wL uQ) (aA aY (ao 0) (qC (.int 0)))))) (aN (qC (.bool false))) aH)
 (aC (aR (aF 1) (gOf (acU (wL uQ) (aA aY (ao 0) (qC (.int 0))))))
 (aC (aR (aF 2) (gOf (pZ (ao 0) (dW (qC (.int 1))) fD)))
 (aN (z9 (aA bH (fj j8 (ao 2)) (fj j8 (ao 1))) (fj M4 (fX (Kh (ao 1) (ao 2)) (bF [3,4]) [3,4] jL (aU cJ (ak (aq 3) (ak (aq 4) au))))))))))
def qZ:=mQ 5 yL
def ji:List (Str×MV):=[("Commons",.g 4 cU)]
def jC:List (Str×MV):=[("Commons",.g 3 fB)]
def yQ:List (Str×MV):=[("Commons",.g 2 iy)]
def xJ:List (Str×MV):=[("Commons",.g 3 eX)]
def oE:List (Str×MV):=[("Commons",.g 2 j7)]
def mV:List (Str×MV):=[("Commons",.g 3 dN)]
def mW:List (Str×MV):=[("Commons",.g 3 dO)]
def mO:List (Str×MV):=[("Commons",.g 3 fM)]
def oK:List (Str×MV):=[("Commons",.g 2 jx)]
def mH:List (Str×MV):=[("Commons",.g 2 iT)]
def lB:List (Str×MV):=[("Commons",.g 4 fP)]
def lg:List (Str×MV):=[("Commons",.g 3 fQ)]
def lA:List (Str×MV):=[("Commons",.g 4 dU)]
def gY:List (Str×MV):=[("Commons",.g 2 fZ)]
def cW:SF:=
 (aC (bB (iz (iJ (aU qZ (ak (aq 1) au)))) (fH "BadDeed") aH)
 (aC (X4 2 3 (gOf (aq 1)))
 (aC (bB (aW (aA bH (ao 2) (qC (.str "owner")))) (dh (bR dI (ao 0) au)) aH)
 (aC (bB (aW (aA bH (ao 2) (qC (.str "ground")))) (dh (bR gY (ao 0) (ak (aA aY (ao 3) (qC (.int 0))) au))) aH)
 (aC (bB (aW (aA bH (ao 2) (qC (.str "enrol")))) (dh (bR lA (ao 0) (ak (aA aY (ao 3) (qC (.int 0))) (ak (aA aY (ao 3) (qC (.int 1))) (ak (aA aY (ao 3) (qC (.int 2))) au))))) aH)
 (aC (bB (aW (aA bH (ao 2) (qC (.str "leave")))) (dh (bR lg (ao 0) (ak (aA aY (ao 3) (qC (.int 0))) (ak (aA aY (ao 3) (qC (.int 1))) au)))) aH)
 (aC (bB (aW (aA bH (ao 2) (qC (.str "bring")))) (dh (bR lB (ao 0) (ak (aA aY (ao 3) (qC (.int 0))) (ak (aA aY (ao 3) (qC (.int 1))) (ak (aA aY (ao 3) (qC (.int 2))) au))))) aH)
 (aC (bB (aW (aA bH (ao 2) (qC (.str "bear")))) (dh (bR mH (ao 0) (ak (aA aY (ao 3) (qC (.int 0))) au))) aH)
 (aC (bB (aW (aA bH (ao 2) (qC (.str "cut")))) (dh (bR oK (ao 0) (ak (aA aY (ao 3) (qC (.int 0))) au))) aH)
 (aC (bB (aW (aA bH (ao 2) (qC (.str "tear")))) (dh (bR mO (ao 0) (ak (aA aY (ao 3) (qC (.int 0))) (ak (aA aY (ao 3) (qC (.int 1))) au)))) aH)
 (aC (bB (aW (aA bH (ao 2) (qC (.str "sell")))) (dh (bR mW (ao 0) (ak (aA aY (ao 3) (qC (.int 0))) (ak (aA aY (ao 3) (qC (.int 1))) au)))) aH)
 (aC (bB (aW (aA bH (ao 2) (qC (.str "move")))) (dh (bR mV (ao 0) (ak (aA aY (ao 3) (qC (.int 0))) (ak (aA aY (ao 3) (qC (.int 1))) au)))) aH)
 (aC (bB (aW (aA bH (ao 2) (qC (.str "die")))) (dh (bR oE (ao 0) (ak (aA aY (ao 3) (qC (.int 0))) au))) aH)
 (aC (bB (aW (aA bH (ao 2) (qC (.str "unite")))) (dh (bR xJ (ao 0) (ak (aA aY (ao 3) (qC (.int 0))) (ak (aA aY (ao 3) (qC (.int 1))) au)))) aH)
 (aC (bB (aW (aA bH (ao 2) (qC (.str "part")))) (dh (bR yQ (ao 0) (ak (aA aY (ao 3) (qC (.int 0))) au))) aH)
 (aC (bB (aW (aA bH (ao 2) (qC (.str "pass")))) (dh (bR jC (ao 0) (ak (aA aY (ao 3) (qC (.int 0))) (ak (aA aY (ao 3) (qC (.int 1))) au)))) aH)
 (dh (bR ji (ao 0) (ak (aA aY (ao 3) (qC (.int 0))) (ak (aA aY (ao 3) (qC (.int 1))) (ak (aA aY (ao 3) (qC (.int 2))) au)))))))))))))))))))))
def bU:=mG 4 cW
def mY:List (Str×MV):=[("Commons",.g 2 bU)]
def acX:SF:=
 (aC (aR (aF 2) (gOf (qC (.str ""))))
 (aC (Qn (cM (bR mY (ao 0) (ak (aq 1) au))) [⟨"BadDeed",λx=>Ku.lookup x,none,[(2,(.con (.str "BadDeed")))]⟩])
 (aN (aA bH (ao 2) (qC (.str "BadDeed"))))))
def yG:=mG 3 acX
def W0:KF:=
 (Tz (P0 ["BadEar","Bare","BadAllowance"]) (Tz (T6 Sh (P0 ["BadExtra","NoPlace","Deepest"])) (Tz (T6 Sh (P0 ["NoOwner","NoGround","NoBeast"])) (Tz (T6 Sh (P0 ["NoRight","HasRight","StillThere"])) (Tz (T6 Sh (P0 ["Dead","Unmarked","SameOwner"])) (Tz (T6 Sh (P0 ["SameGround","Together","Alone"])) (Tz (T6 Sh (P0 ["NoneFree","BadDeed","BadLine"])) (Tz (T6 Sh (P0 ["NoStand"])) (T6 Sh (P0 ["Clash"]))))))))))
def lU:Str->Option (List Bool):=akJ ktH W0
def CV:SF:=
 (aC (aR (aF 2) (gOf (qC .none)))
 (aC (aR (aF 3) (gOf (qY au)))
 (aC (Qn (aR (aF 2) (bR mY (ao 0) (ak (aq 1) au))) [⟨"CommonError",λx=>jJ.lookup x,some 4,[(3,(.kin lU))]⟩])
 (aN (bA (ak (aq 3) (ak (aq 2) au)))))))
def pP:=mG 5 CV
def pF:List (Str×MV):=[("Grounds",.g 2 iH),("Commons",.g 2 iy)]
def oO:List (Str×MV):=[("Grounds",.g 3 jY),("Commons",.g 3 eX)]
def jG:SF:=
 (aC (aR (aF 2) (gOf (aA aY (ao 1) (qC (.int 0)))))
 (aC (bB (aW (aA bH (ao 2) (qC (.str "owner")))) (dh (bR dI (ao 0) au)) aH)
 (aC (bB (aW (aA bH (ao 2) (qC (.str "ground")))) (dh (bR gY (ao 0) (ak (aA aY (ao 1) (qC (.int 1))) au))) aH)
 (aC (bB (aW (aA bH (ao 2) (qC (.str "enrol")))) (dh (bR lA (ao 0) (ak (aA aY (ao 1) (qC (.int 1))) (ak (aA aY (ao 1) (qC (.int 2))) (ak (aA aY (ao 1) (qC (.int 3))) au))))) aH)
 (aC (bB (aW (aA bH (ao 2) (qC (.str "leave")))) (dh (bR lg (ao 0) (ak (aA aY (ao 1) (qC (.int 1))) (ak (aA aY (ao 1) (qC (.int 2))) au)))) aH)
 (aC (bB (aW (aA bH (ao 2) (qC (.str "bring")))) (dh (bR lB (ao 0) (ak (aA aY (ao 1) (qC (.int 1))) (ak (aA aY (ao 1) (qC (.int 2))) (ak (aA aY (ao 1) (qC (.int 3))) au))))) aH)
 (aC (bB (aW (aA bH (ao 2) (qC (.str "bear")))) (dh (bR mH (ao 0) (ak (aA aY (ao 1) (qC (.int 1))) au))) aH)
 (aC (bB (aW (aA bH (ao 2) (qC (.str "cut")))) (dh (bR oK (ao 0) (ak (aA aY (ao 1) (qC (.int 1))) au))) aH)
 (aC (bB (aW (aA bH (ao 2) (qC (.str "tear")))) (dh (bR mO (ao 0) (ak (aA aY (ao 1) (qC (.int 1))) (ak (aA aY (ao 1) (qC (.int 2))) au)))) aH)
 (aC (bB (aW (aA bH (ao 2) (qC (.str "sell")))) (dh (bR mW (ao 0) (ak (aA aY (ao 1) (qC (.int 1))) (ak (aA aY (ao 1) (qC (.int 2))) au)))) aH)
 (aC (bB (aW (aA bH (ao 2) (qC (.str "move")))) (dh (bR mV (ao 0) (ak (aA aY (ao 1) (qC (.int 1))) (ak (aA aY (ao 1) (qC (.int 2))) au)))) aH)
 (aC (bB (aW (aA bH (ao 2) (qC (.str "die")))) (dh (bR oE (ao 0) (ak (aA aY (ao 1) (qC (.int 1))) au))) aH)
 (aC (bB (aW (aA bH (ao 2) (qC (.str "unite")))) (dh (bR oO (ao 0) (ak (aA aY (ao 1) (qC (.int 1))) (ak (aA aY (ao 1) (qC (.int 2))) au)))) aH)
 (aC (bB (aW (aA bH (ao 2) (qC (.str "part")))) (dh (bR pF (ao 0) (ak (aA aY (ao 1) (qC (.int 1))) au))) aH)
 (aC (bB (aW (aA bH (ao 2) (qC (.str "pass")))) (dh (bR jC (ao 0) (ak (aA aY (ao 1) (qC (.int 1))) (ak (aA aY (ao 1) (qC (.int 2))) au)))) aH)
 (dh (bR ji (ao 0) (ak (aA aY (ao 1) (qC (.int 1))) (ak (aA aY (ao 1) (qC (.int 2))) (ak (aA aY (ao 1) (qC (.int 3))) au))))))))))))))))))))
def fG:=mG 3 jG
def Gp:SF:=
 (aC (aR (aF 2) (gOf (qC .none)))
 (aC (aR (aF 3) (gOf (qY au)))
 (aC (Qn (aR (aF 2) (wX fG (ak (aq 0) (ak (aq 1) au)))) [⟨"CommonError",λx=>jJ.lookup x,some 4,[(3,(.kin lU))]⟩])
 (aN (bA (ak (aq 3) (ak (aq 2) au)))))))
def rC:=mG 5 Gp
def pX:List (Str×MV):=[("Commons",.q 1 oJ)]
def O4:SF:=
 (QS (yN (yR (TF (oU 10) (Az (wX pP (ak (aq 2) (ak (aq 4) au))) (Az (wX rC (ak (aq 3) (ak (aq 4) au))) Ug))))) (aN (qC (.bool false))) aH)
def X6:SF:=
 (aC (aR (aF 1) (gOf (fj N7 (aU jQ (ak (aq 0) (ak (qC (.int 0)) au))))))
 (aC (aR (aF 2) (yI "Commons" iD au))
 (aC (aR (aF 3) (yI "Commons" iD au))
 (aC (rQ (dG (aU Mz (ak (pZ (ao 0) (dW (qC (.int 2))) (dW (qC (.int 42)))) (ak (aq 1) au)))) (aF 4) O4)
 (aC (aR (aF 5) (gOf (aU jQ (ak (aq 0) (ak (qC (.int 1)) au)))))
 (aC (aR (aF 6) (gOf (aX pX (ao 3) au)))
 (aC (aR (aF 4) (gOf (aU zY (ak (aq 0) au))))
 (aC (QS (QM (yN (yR (wX yG (ak (aq 2) (ak (aA bZ (ao 4) (bA (ak (aU wN (ak (aq 5) au)) au))) au))))) (QM (yN (yR (wX yG (ak (aq 2) (ak (bA au) au))))) (yN (yR (wX yG (ak (aq 2) (ak (bA (ak (qC (.str "owners")) au)) au))))))) (aN (qC (.bool false))) aH)
 (aC (QS (QM (yN (yR (wX yG (ak (aq 2) (ak (bA (ak (qC (.str "die")) (ak (aA bZ (qC (.int 1000000000)) (fj N7 (aU wN (ak (aq 5) au)))) au))) au))))) (yN (yR (wX yG (ak (aq 2) (ak (bA (ak (aU wN (ak (aq 5) au)) au)) au)))))) (aN (qC (.bool false))) aH)
 (aC (aR (aF 3) (gOf (aU cV (ak (aq 0) au))))
 (aC (QS (Yk (ac1 (iJ (aU qJ (ak (aq 3) au)))) (QM (yN (yR (wX yG (ak (aq 2) (ak (aq 3) au))))) (yN (yR (Tq yG (Az (yI "Commons" iD au) (Az (gOf (aq 3)) Ug))))))) (aN (qC (.bool false))) aH)
 (aN (aU (oU 10) (ak (aX pX (ao 2) au) (ak (aq 6) au)))))))))))))))
def Sv:=mG 7 X6
theorem XF:FnScope ["self","ones","others","ear"] ["self","ones","others","ear"] (defScope MN):=⟨rfl,rfl,rfl,by decide +kernel,rfl,by decide +kernel,by decide +kernel⟩
abbrev rX(N:List Str)(s:Stmt)(G:List (Str×GV))(B:List Str)(Ms:List (Str×List (Str×MV)))(ml:List Str):Option SF:=rd ⟨N,defScope s,G,B,⟨Ms,lF,xmH,dfH,Xh⟩,ml,true⟩ (defBody s)
abbrev rY(N:List Str)(s:Stmt)(G:List (Str×GV))(B:List Str)(Ms:List (Str×List (Str×MV)))(ml:List Str):Option SF:=rdG ⟨N,defScope s,G,B,⟨Ms,lF,xmH,dfH,Xh⟩,ml,true⟩ (defBody s)
theorem ajl:FnScope ["_law_found","_law_due","_law_one","_law_other"] ["_law_found","_law_due"] (defScope Uc):=⟨rfl,rfl,rfl,by decide +kernel,rfl,by decide +kernel,by decide +kernel⟩
theorem aj7:FnScope ["_law_script","_law_head","_law_one","_law_other","_law_deed_here","_law_cell_here","_law_due"] ["_law_script"] (defScope Om):=⟨rfl,rfl,rfl,by decide +kernel,rfl,by decide +kernel,by decide +kernel⟩
theorem U9:rY ["self"] Io [] [] [] []=some zQ:=by kernel_rfl
theorem Xy:rY ["self"] KC [] [] [] []=some BP:=by kernel_rfl
theorem aaV:rY ["self"] PL [] [] [] []=some Hg:=by kernel_rfl
theorem U5:rY ["self"] Ij [("Herd",.cls 0 Af),("Rights",.cls 0 wY),("Grounds",.cls 0 vM)] [] [] []=some zA:=by kernel_rfl
theorem XC:rX ["self"] KZ [] [] [] []=some BW:=by kernel_rfl
theorem ZP:rX ["self"] Mq [] ["tuple"] [("stand",oG)] []=some Fb:=by kernel_rfl
theorem Qz:rX ["self"] Du [] ["list"] [] []=some xg:=by kernel_rfl
theorem Pb:rX ["self"] Cj [] ["list"] [] []=some v9:=by kernel_rfl
theorem Uk:rX ["self"] Hv [] ["len"] [] []=some vh:=by kernel_rfl
theorem XQ:rX ["self","ground"] KD [] [] [("many",fU)] []=some Cg:=by kernel_rfl
theorem UG:rX ["self","ground"] Iv [("NoGround",.exc)] [] [("has",zP)] []=some zV:=by kernel_rfl
theorem Le:rX ["self","ground"] yW [] [] [("need",aG)] []=some oZ:=by kernel_rfl
theorem M9:rX ["self","ground"] Am [] ["list"] [("need",aG)] []=some pQ:=by kernel_rfl
theorem Lh:rX ["self","ground"] Bm [] [] [("together",bG)] []=some qj:=by kernel_rfl
theorem V4:rX ["self","grounds","beasts","ground","beast"] Ie [] ["range","tuple"] [("all_rows",uY),("owners",vW),("told",wJ),("many",fU),("together",bV),("allowance",eV)] []=some zL:=by kernel_rfl
theorem anD:rX ["_law_cell_here","_law_many","_law_base","_law_found","_law_k","_law_turn"] s_row [] ["range","abs"] [] ["_law_found"]=some ac0:=by kernel_rfl
theorem agl:rX ["_law_figures","_law_mode","_law_figure"] Zx [] ["tuple","max"] [] []=some Qw:=by kernel_rfl
theorem amC:rX ["_law_cell_here","_law_figures"] ahG [("_law_ear_by",.fq 2 uL),("_law_row",.fq 3 vq)] [] [] []=some acz:=by kernel_rfl
theorem abb:rX ["_law_head","_law_rows"] PB [] [] [] []=some Hl:=by kernel_rfl
theorem afj:rX ["_law_figure","_law_some"] Wk [] [] [] []=some M8:=by kernel_rfl
theorem amg:rX ["_law_ear_here","_law_figures","_law_found","_law_depth","_law_figure","_law_more"] aeK [] ["tuple","zip","max","min"] [] ["_law_found"]=some aae:=by kernel_rfl
theorem afL:rX ["_law_figures","_law_mode","_law_base"] Wt [("_law_ear_by",.fq 2 uL),("_law_near",.fq 2 MF)] [] [] []=some N6:=by kernel_rfl
theorem am2:rX ["_law_figure","_law_many","_law_sure"] ahv [] ["max"] [] []=some Yj:=by kernel_rfl
theorem akG:rX ["_law_word_here","_law_one","_law_two","_law_parts","_law_counts","_law_base","_law_sure","_law_mark"] aeG [("_law_ref",.fq 3 kh),("_law_mark_by",.fq 3 xP)] ["int"] [] []=some kZ:=by kernel_rfl
theorem ak8:rX ["_law_cells","_law_head","_law_counts","_law_base","_law_begun_here","_law_plan_here","_law_at","_law_cell_here","_law_parts","_law_word_here","_law_one","_law_two","_law_owners","_law_grounds","_law_beasts"] afn [("_law_deed",.fq 6 gW),("_law_word_by",.fq 1 xO),("_law_row",.fq 3 vq),("_law_begun",.fq 1 wA),("_law_ear",.fq 1 CQ)] ["enumerate","len"] [] ["_law_plan_here"]=some YS:=by kernel_rfl
theorem akj:rX ["_law_script","_law_k"] adZ [] ["len"] [] []=some ZX:=by kernel_rfl
theorem ai6:rX ["_law_script","_law_words","_law_shapes","_law_at","_law_parts","_law_k","_law_shape","_law_cell_here"] abe [("_law_ear",.fq 1 CQ),("_law_cell",.fq 2 jQ)] ["tuple","enumerate"] [] ["_law_parts"]=some Vi:=by kernel_rfl
theorem aj9:rX ["_law_cell_here","_law_signs","_law_figure"] adA [("_law_row",.fq 3 vq)] ["abs"] [] []=some aal:=by kernel_rfl
theorem amJ:rX ["_law_cell_here"] ahm [] [] [] []=some Yb:=by kernel_rfl
theorem agq:rX ["_law_mark","_law_cell_here","_law_way"] YQ [("_law_cut",.fq 1 wN)] [] [] []=some qu:=by kernel_rfl
theorem XS:rX ["_law_script","_law_deed_here","_law_way","_law_at","_law_cell_here"] Kz [("_law_word",.fq 1 Ny),("_law_spoilt",.fq 2 mX),("_law_ear",.fq 1 CQ),("_law_cut",.fq 1 wN),("_law_cell",.fq 2 jQ),("_law_tuple",.fq 1 zY)] ["len"] [] []=some dB:=by kernel_rfl
theorem ajf:rX ["_law_found"] abu [] ["isinstance","bool","int"] [] []=some Us:=by kernel_rfl
theorem ajX(r:Mo->List Dat->Out Dat):rd ⟨["_law_found","_law_due","_law_one","_law_other"],defScope Uc,[("_law_like",.fq 2 r),("_law_whole",.fq 1 zq)],["zip","len","isinstance","list","tuple","str","int"],⟨[],lF,xmH,dfH,Xh⟩,[],true⟩ (defBody Uc)=some (IV r):=by kernel_rfl
theorem acN:rX ["_law_found","_law_depth"] S9 [("_law_whole",.fq 1 zq)] ["len","isinstance","tuple"] [] []=some rM:=by kernel_rfl
theorem ahS:rX ["_law_deed_here","_law_words","_law_shapes","_law_shape","_law_part","_law_kind"] abJ [("_law_ear_kind",.fq 1 lG)] ["zip","isinstance","int","len","str"] [] []=some vO:=by kernel_rfl
theorem JG:rX ["self","owner"] yD [("NoOwner",.exc)] [] [] []=some nJ:=by kernel_rfl
theorem Uw:rX ["self","owner","ground","holder","where","mark"] HD [] [] [] []=some zW:=by kernel_rfl
theorem LQ:rX ["self","owner","ground"] Av [] ["len"] [("marks",cQ)] []=some vf:=by kernel_rfl
theorem Jx:rX ["self","owner","ground"] yt [("NoRight",.exc)] [] [("has_right",tX)] []=some sH:=by kernel_rfl
theorem K9:rY ["self"] za [] [] [] []=some uh:=by kernel_rfl
theorem Nv:rY ["self","owner","ground","mark","row"] Ba [("HasRight",.exc)] [] [] []=some qm:=by kernel_rfl
theorem akN:rX ["ear","many","heads","depth","head","left","cut"] adW [("GREATEST_DEPTH",.con cX)] ["range","min"] [] []=some aad:=by kernel_rfl
theorem aje:rX ["one","other","here","there"] abw [] ["sum","zip"] [] []=some Vs:=by kernel_rfl
theorem aaS:rX ["mark","extra","ear"] Pu [("lacks",.fq 2 vC),("torn",.fq 2 Ls)] [] [] []=some Hf:=by kernel_rfl
theorem ain:rX ["one","other"] ab1 [("lacks",.fq 2 vC)] ["max"] [] []=some Vd:=by kernel_rfl
theorem ajP:rX ["one","other","room"] afs [("apart",.fq 2 Jd)] [] [] []=some ZG:=by kernel_rfl
theorem aat:rX ["mark","extra","rows","room","ear","owner","taken"] Nk [("NoneFree",.exc),("offspring",.fq 2 wB),("meet",.fq 3 sY)] ["any"] [] []=some yF:=by kernel_rfl
theorem Jy:rX ["self","owner","ground"] yS [] [] [("marks",cQ)] []=some rJ:=by kernel_rfl
theorem agQ:rX ["rows"] YJ [] ["sorted","set"] [] []=some Qi:=by kernel_rfl
theorem O9:rX ["self","number","beast"] Cu [] ["enumerate"] [] []=some v7:=by kernel_rfl
theorem Ur:rX ["self","grounds","number","beast"] Hr [] [] [("all_living",eY)] []=some zG:=by kernel_rfl
theorem La:rX ["self","grounds","owner","ground","mark"] yV [] [] [] []=some tR:=by kernel_rfl
theorem Hq:rX ["self","left_out","ground","near","due","number","beast"] wj [("tidied",.fq 1 rG)] [] [("in_grounds",rO),("grazing",jO),("together",bV)] []=some lK:=by kernel_rfl
theorem NP:rX ["self","ground"] Bf [] [] [("standing_but",dD)] []=some qd:=by kernel_rfl
theorem VF:rX ["self","ground","near"] Hu [] ["max"] [("together",bG),("allowance",eV)] []=some vJ:=by kernel_rfl
theorem Vm:rX ["self","ground"] HJ [] [] [("room",ux)] []=some vP:=by kernel_rfl
theorem Mh:rY ["self","elder","ground","extra","mark","heir"] Bu [("first_free",.fq 4 qH),("BadExtra",.exc),("FEWEST_EXTRA",.con jE),("MOST_EXTRA",.con mD)] [] [("add_right",jm),("new_owner",dI),("room",cI),("standing",cO),("first_mark",bY),("need_right",aO),("need",aG),("need_owner",aD)] []=some eU:=by kernel_rfl
theorem JR:rY ["self","allowance"] yO [("BadAllowance",.exc),("GREATEST_ALLOWANCE",.con iI)] [] [("many",fU)] []=some jW:=by kernel_rfl
theorem Jt:rY ["self","allowance"] yj [] [] [("add_ground",mJ)] []=some nO:=by kernel_rfl
theorem aeJ:rX ["owner","ear","rows","room","holder","mark"] Wv [("meet",.fq 3 sY),("tidied",.fq 1 rG)] [] [] []=some Nh:=by kernel_rfl
theorem aio:rX ["one","other","here","there"] abg [] ["tuple","zip","max"] [] []=some Ve:=by kernel_rfl
theorem acZ:rX ["owner","ear","rows","room","bars","holder","mark"] R5 [("Clash",.exi ["ones","others","ear"]),("joint",.fq 2 qI),("barring",.fq 4 Ao)] [] [] []=some CW:=by kernel_rfl
theorem JZ:rX ["self","owner","ear","ground"] yx [("ask_room",.fq 4 pO)] [] [("room",cI),("standing",cO)] []=some nY:=by kernel_rfl
theorem agA:rX ["parts","depth"] Yu [("GREATEST_DEPTH",.con cX),("PLACES",.con eE)] ["all","len"] [] []=some Jq:=by kernel_rfl
theorem acG:rX ["parts"] Ro [("BadEar",.exc),("is_ear",.fq 1 uM)] [] [] []=some Jw:=by kernel_rfl
theorem RK:rY ["self","owner","ground","mark"] Fj [("HasRight",.exc),("Bare",.exc),("BARE_EAR",.con jX),("need_ear",.fq 1 sG)] [] [("add_right",jm),("ask_ground",bW),("marks",cQ),("need",aG),("need_owner",aD)] []=some gQ:=by kernel_rfl
theorem Xv:rY ["self","owner","ground","gone","mark"] K7 [("NoRight",.exc)] [] [("marks",cQ)] []=some wI:=by kernel_rfl
theorem Ru:rY ["self","owner","ground","number","beast"] FT [("StillThere",.exc)] ["any"] [("drop",zE),("grazing",jO),("need_right",aO),("need",aG),("need_owner",aD)] []=some jR:=by kernel_rfl
theorem Qy:rY ["self","stand","owner","ground","due","ear","alive"] Dy [] [] [] []=some rZ:=by kernel_rfl
theorem aiu:rX ["first","word","mother","owner","ground","ear"] abz [("BARE_EAR",.con jX)] [] [] []=some Ou:=by kernel_rfl
theorem aan:rY ["self","first"] Lj [("begun",.fq 1 Dm)] [] [("stand_so",j6)] []=some Em:=by kernel_rfl
theorem Qo:rY ["self","first"] Eu [("Beast",.cls 1 uP)] ["len"] [] []=some xM:=by kernel_rfl
theorem Uh:rY ["self","owner","ground","ear"] Gx [("need_ear",.fq 1 sG)] [] [("add_beast",jZ),("need_right",aO),("need",aG),("need_owner",aD)] []=some jV:=by kernel_rfl
theorem Z5:rX ["self","number"] N8 [("NoBeast",.exc)] ["len"] [] []=some uN:=by kernel_rfl
theorem Xq:rX ["self","number","beast"] KJ [("Dead",.exc)] [] [("known",gj)] []=some wU:=by kernel_rfl
theorem Xz:rX ["self","number","beast"] KR [("Unmarked",.exc)] [] [("living",bL)] []=some sS:=by kernel_rfl
theorem Vt:rY ["self","mother","cow"] HX [] [] [("add_beast",jZ),("marked",bD)] []=some oH:=by kernel_rfl
theorem ac4:rX ["ear","place","at","depth"] Tw [] ["tuple","enumerate"] [] []=some J9:=by kernel_rfl
theorem afm:rX ["stand","event","owner","ground","due","ear","alive","word"] Xg [("deepened",.fq 2 yh)] [] [] []=some Mg:=by kernel_rfl
theorem Um:rY ["self","event"] HS [("gone_on",.fq 2 Br)] [] [("stand_so",j6),("stand",oG)] []=some zU:=by kernel_rfl
theorem Xx:rY ["self","beast","found","due"] Kv [("joint",.fq 2 qI)] [] [("befall",bO),("ask_ground",bW),("first_mark",bY),("living",bL)] []=some pH:=by kernel_rfl
theorem V5:rY ["self","beast","place","found"] Iz [("Deepest",.exc),("GREATEST_DEPTH",.con cX),("NoPlace",.exc),("PLACES",.con eE)] ["len"] [("befall",bO),("living",bL)] []=some jD:=by kernel_rfl
theorem XM:rX ["self","mother","number","beast"] Kw [] [] [("all_living",eY),("known",gj)] []=some wH:=by kernel_rfl
theorem NZ:rY ["self","mother","beast","number","calf"] Bl [] [] [("calves",zK),("befall",bO),("known",gj)] []=some uW:=by kernel_rfl
theorem UL:rY ["self","beast","buyer","found","due"] Jc [("ask_room",.fq 4 pO),("joint",.fq 2 qI),("SameOwner",.exc)] [] [("lead_calves",jk),("befall",bO),("room",cI),("standing_but",dD),("first_mark",bY),("need_right",aO),("need_owner",aD),("marked",bD)] []=some gG:=by kernel_rfl
theorem Vr:rY ["self","beast","ground","found","left"] Iw [("SameGround",.exc)] [] [("lead_calves",jk),("befall",bO),("ask_ground",bW),("need_right",aO),("need",aG),("marked",bD)] []=some gD:=by kernel_rfl
theorem XD:rY ["self","beast"] KY [] [] [("befall",bO),("living",bL)] []=some sW:=by kernel_rfl
theorem acF:rX ["rows","room","tidy","at","row","greater"] RP [("meet",.fq 3 sY),("tidied",.fq 1 rG)] ["enumerate"] [] []=some Kl:=by kernel_rfl
theorem M5:rX ["self","ground","other","room"] Bq [("clashing",.fq 2 vm)] ["max"] [("standing",cO),("room",cI)] []=some uZ:=by kernel_rfl
theorem Pa:rY ["self","grounds","circle","ground"] Cp [] ["tuple"] [] []=some vZ:=by kernel_rfl
theorem SN:rY ["self","ground","other","ones","others"] Gz [("Together",.exc)] ["sorted"] [("enclose",iw),("together",bG)] []=some uw:=by kernel_rfl
theorem T5:rY ["self","ground","other","pairs","row","greater"] Fl [("Clash",.exi ["ones","others","ear"]),("joint",.fq 2 qI),("Together",.exc)] [] [("unite",xq),("quarrels",o7),("together",bV),("need",aG)] []=some jU:=by kernel_rfl
theorem Ut:rY ["self","ground","left","near"] IK [("Alone",.exc)] [] [("enclose",iw),("together",bG)] []=some qN:=by kernel_rfl
theorem Uz:rY ["self","ground"] Jg [] [] [("part",qb)] []=some qT:=by kernel_rfl
theorem Nb:rY ["self","elder","heir","owner","ground","mark"] Ax [] [] [] []=some u9:=by kernel_rfl
theorem aaK:rX ["self","owner","number","beast"] MP [] [] [("all_living",eY)] []=some Eo:=by kernel_rfl
theorem Ph:rY ["self","elder","heir","passed","number","beast"] Ck [("SameOwner",.exc)] [] [("befall",bO),("owned",Cd),("hand_over",tV),("need_owner",aD)] []=some j5:=by kernel_rfl
theorem aa4:rX ["kind","part","greatest"] Pn [("PLACES",.con eE),("GREATEST_PART",.con dR),("is_ear",.fq 1 uM)] ["isinstance","int","len","tuple"] [] []=some fO:=by kernel_rfl
theorem alW:rX ["deed","shape","parts","kind","part"] adP [("part_fits",.fq 2 cJ),("SHAPES",.dic (wL uQ))] ["all","zip","len"] [] []=some yL:=by kernel_rfl
theorem Y9:rY ["self","deed","word","parts"] LC [("BadDeed",.exc),("fits",.fq 1 qZ)] [] [("new_heir",ji),("pass_on",jC),("part",yQ),("unite",xJ),("die",oE),("move",mV),("sell",mW),("tear",mO),("cut",oK),("bear",mH),("bring",lB),("leave",lg),("enrol",lA),("new_ground",gY),("new_owner",dI)] []=some cW:=by kernel_rfl
theorem anH:rY ["_law_house","_law_deed_here","_law_word_here"] ahy [("BadDeed",.exc)] [] [("do",mY)] []=some acX:=by kernel_rfl
theorem afD:kB (defScope Lk) "_law_e" "_law_some" kcH (defBody Lk)=some W0:=by kernel_rfl
theorem acY:rY ["_law_house","_law_deed_here","_law_told","_law_kinds","_law_e"] Sy [("CommonError",.exc),("_law_kind_of",.kin lU)] [] [("do",mY)] []=some CV:=by kernel_rfl
theorem aiY:rY ["_law_house","_law_deed_here","_law_word_here"] abC [] [] [("new_heir",ji),("pass_on",jC),("part",pF),("unite",oO),("die",oE),("move",mV),("sell",mW),("tear",mO),("cut",oK),("bear",mH),("bring",lB),("leave",lg),("enrol",lA),("new_ground",gY),("new_owner",dI)] []=some jG:=by kernel_rfl
theorem afp:rY ["_law_house","_law_deed_here","_law_told","_law_kinds","_law_e"] Xi [("_law_named",.fg 2 fG),("CommonError",.exc),("_law_kind_of",.kin lU)] [] [] []=some Gp:=by kernel_rfl
theorem amL:rY ["_law_script","_law_head","_law_one","_law_other","_law_deed_here","_law_cell_here","_law_due"] Om [("_law_like",.fq 2 (oU 10)),("_law_bad",.fg 2 yG),("Commons",.cls 0 iD),("_law_fault",.fq 1 qJ),("_law_spoilt_deed",.fq 1 cV),("_law_cut",.fq 1 wN),("_law_tuple",.fq 1 zY),("_law_cell",.fq 2 jQ),("_law_plan",.fq 2 Mz),("_law_by_name",.fg 2 rC),("_law_by_tuple",.fg 2 pP)] ["abs"] [("look",pX)] []=some X6:=by kernel_rfl
structure Top(w:World)(K:asv)(mg:Str->Option Value):Prop where
 ex:∃h:Heap,K.In h/\h.Ns mainGlobals mg
 c:OD fa fn tbs exB w K
abbrev aj(w:World)(K:asv):aQ:=o9 w K Yy lF
section
variable{P:Program}{w:World}{K:asv}{mg:Str->Option Value}{base:Heap}{k:Nat}(T:Top w K mg)
include T
theorem Top.glo(i:Nat){x:Str}(h:fa[i]?=some (.glo x):=by rfl):mg x=some (.ref (He.ga K x)):=by obtain⟨_,X,G⟩:=T.ex;exact He.glo_ok X G (T.c.qw i h)
theorem Top.free(i:Nat){x:Str}(h:fa[i]?=some (.free x):=by rfl):mg x=none:=by obtain⟨_,X,G⟩:=T.ex;exact He.free_ok X G (T.c.qw i h)
theorem Top.int(i:Nat){x:Str}{j:Int}(h:fa[i]?=some (.int x j):=by rfl):∃t,mg x=some (.int j t):=by obtain⟨_,X,G⟩:=T.ex;exact He.int_ok X G (T.c.qw i h)
theorem Top.str(i:Nat){x j:Str}(h:fa[i]?=some (.str x j):=by rfl):∃t,mg x=some (.str j t):=by obtain⟨_,X,G⟩:=T.ex;exact He.str_ok X G (T.c.qw i h)
theorem w6:bh P w K mg base (aj w K) k "GREATEST_DEPTH" (.con cX):=by obtain⟨t,h⟩:=T.int 159;exact Lq h
theorem Vp:bh P w K mg base (aj w K) k "FEWEST_EXTRA" (.con jE):=by obtain⟨t,h⟩:=T.int 160;exact Lq h
theorem ZV:bh P w K mg base (aj w K) k "MOST_EXTRA" (.con mD):=by obtain⟨t,h⟩:=T.int 161;exact Lq h
theorem Kr:bh P w K mg base (aj w K) k "GREATEST_ALLOWANCE" (.con iI):=by obtain⟨t,h⟩:=T.int 162;exact Lq h
theorem Rb:bh P w K mg base (aj w K) k "PLACES" (.con eE):=adX (T.glo 163) (λH=>He.tupB_ok ((He.ba (He.ba (He.ba (He.ba T.c.more).1).1).1).2) H) rfl rfl ((He.ba (He.ba (He.ba T.c.more).1).1).2)
theorem RB:bh P w K mg base (aj w K) k "BARE_EAR" (.con jX):=adX (T.glo 164) (λH=>He.tupB_ok ((He.ba (He.ba T.c.more).1).2) H) rfl rfl ((He.ba T.c.more).2)
theorem Ua:bh P w K mg base (aj w K) k "GREATEST_PART" (.con dR):=by obtain⟨t,h⟩:=T.int 165;exact Lq h
theorem agF:bh P w K mg base (aj w K) k "SHAPES" (.dic (wL uQ)):=amj (T.glo 158) (He.ba (He.ba (He.ba (He.ba (He.ba T.c.more).1).1).1).1).2 (T.c.t.tab 0)
theorem acA:bh P w K mg base (aj w K) k "NoGround" .exc:=jw (by rfl) (T.glo 111) (T.c.qw 112)
theorem aee:bh P w K mg base (aj w K) k "NoOwner" .exc:=jw (by rfl) (T.glo 113) (T.c.qw 114)
theorem WY:bh P w K mg base (aj w K) k "NoRight" .exc:=jw (by rfl) (T.glo 115) (T.c.qw 116)
theorem Td:bh P w K mg base (aj w K) k "HasRight" .exc:=jw (by rfl) (T.glo 117) (T.c.qw 118)
theorem acE:bh P w K mg base (aj w K) k "NoneFree" .exc:=jw (by rfl) (T.glo 119) (T.c.qw 120)
theorem ac9:bh P w K mg base (aj w K) k "BadExtra" .exc:=jw (by rfl) (T.glo 121) (T.c.qw 122)
theorem Vn:bh P w K mg base (aj w K) k "BadAllowance" .exc:=jw (by rfl) (T.glo 123) (T.c.qw 124)
theorem agn:bh P w K mg base (aj w K) k "BadEar" .exc:=jw (by rfl) (T.glo 126) (T.c.qw 127)
theorem al1:bh P w K mg base (aj w K) k "Bare" .exc:=jw (by rfl) (T.glo 128) (T.c.qw 129)
theorem Yr:bh P w K mg base (aj w K) k "StillThere" .exc:=jw (by rfl) (T.glo 130) (T.c.qw 131)
theorem afH:bh P w K mg base (aj w K) k "NoBeast" .exc:=jw (by rfl) (T.glo 132) (T.c.qw 133)
theorem alL:bh P w K mg base (aj w K) k "Dead" .exc:=jw (by rfl) (T.glo 134) (T.c.qw 135)
theorem ac2:bh P w K mg base (aj w K) k "Unmarked" .exc:=jw (by rfl) (T.glo 136) (T.c.qw 137)
theorem aec:bh P w K mg base (aj w K) k "Deepest" .exc:=jw (by rfl) (T.glo 138) (T.c.qw 139)
theorem afP:bh P w K mg base (aj w K) k "NoPlace" .exc:=jw (by rfl) (T.glo 140) (T.c.qw 141)
theorem Px:bh P w K mg base (aj w K) k "SameOwner" .exc:=jw (by rfl) (T.glo 142) (T.c.qw 143)
theorem Zr:bh P w K mg base (aj w K) k "SameGround" .exc:=jw (by rfl) (T.glo 144) (T.c.qw 145)
theorem RM:bh P w K mg base (aj w K) k "Together" .exc:=jw (by rfl) (T.glo 146) (T.c.qw 147)
theorem ai1:bh P w K mg base (aj w K) k "Alone" .exc:=jw (by rfl) (T.glo 148) (T.c.qw 149)
theorem Wz:bh P w K mg base (aj w K) k "BadDeed" .exc:=jw (by rfl) (T.glo 150) (T.c.qw 151)
theorem KQ:bh P w K mg base (aj w K) k "CommonError" .exc:=jw (by rfl) (T.glo 156) (T.c.qw 157)
theorem Top.ahL:Nu K lF=true:=(He.ba (He.ba (He.ba (He.ba (He.ba (He.ba (He.ba (He.ba (He.ba T.c.more).1).1).1).1).1).1).1).1).2
theorem Top.xf:(Xh.all λp=>Yy.contains p.1&&Uo K p.1 p.2)=true:=(He.ba (He.ba (He.ba (He.ba (He.ba (He.ba (He.ba T.c.more).1).1).1).1).1).1).2
theorem Top.hs{Ms:List (Str×List (Str×MV))}(h:G4 P w K mg base (aj w K) k Ms):U6 P w K mg base (aj w K) k ⟨Ms,lF,xmH,dfH,Xh⟩:=anv h T.ahL (He.ba (He.ba (He.ba (He.ba (He.ba (He.ba (He.ba (He.ba T.c.more).1).1).1).1).1).1).1).2 (by rfl) T.xf
theorem Top.cls{c:Str}{fs:List Str}(h:lF.lookup c=some fs:=by rfl):Cls K (He.ga K c):=(Zm T.ahL h).1
local macro_rules | `(tactic| nofun)=>`(tactic| first | (exact λ_ _ _ _ _ _ us hl=>match us,hl with | [_],_=>rfl) | (exact λ_ _ _ _ _ _ us hl=>match us,hl with | [_,_],_=>rfl) | (exact λ_ _ _ _ _ _ us hl=>match us,hl with | [_,_,_],_=>rfl) | (exact λ_ _ _ _ _ _ us hl=>match us,hl with | [_,_,_,_],_=>rfl) | (exact λ_ _ _ _ _ _ us hl=>match us,hl with | [_,_,_,_,_],_=>rfl) | (exact λ_ _ _ _ _ _ us hl=>match us,hl with | [_,_,_,_,_,_],_=>rfl) | (exact λ_ _ _ _ _ _ us hl=>match us,hl with | [_,_,_,_,_,_,_],_=>rfl) | (exact λ_ _ _ _ _ _ us hl=>match us,hl with | [_,_,_,_,_,_,_,_],_=>rfl))
theorem vQ(i j:Nat){x:Str}{k0:Nat}(hk:k0+1<=k){st:Stmt}{N ps ml B:List Str}{G:List (Str×GV)}{Ms:List (Str×List (Str×MV))}{body:SF}(h:rX N st G B Ms ml=some body)(g:Dz P w K mg base (aj w K) k0 G)(b:Ds mg B)(ms:G4 P w K mg base (aj w K) k0 Ms)(hi:fn[i]?=some (dF x st):=by rfl)(hj:fa[j]?=some (.glo x):=by rfl)(S:FnScope N ps (defScope st):=by exact⟨rfl,rfl,rfl,by decide +kernel,rfl,by decide +kernel,by decide +kernel⟩)(hb:∀(kV doc pm:Value) (an:Option Addr) (cdv ct:Value) (us:List Value),us.length=ps.length->bindArgs (PySem.W.fnOf x x (defArgs st) (defBody st) (defScope st) .none kV doc pm an cdv ct) ⟨us,[]⟩=pure (ps.zip us):=by nofun):bh P w K mg base (aj w K) k x (.fq ps.length (mQ N.length body)):=by obtain⟨fd,F⟩:=T.c.S7 i hi;exact afS hk (T.glo j hj) F.kp (FunD.bindsN (ps:=ps) F hb) (Ym (CT F) S g b (T.hs ms) h)
theorem wQ(i j:Nat){c m q:Str}{k0:Nat}(hk:k0+1<=k){st:Stmt}{N ps ml B:List Str}{G:List (Str×GV)}{Ms:List (Str×List (Str×MV))}{body:SF}(h:rX N st G B Ms ml=some body)(g:Dz P w K mg base (aj w K) k0 G)(b:Ds mg B)(ms:G4 P w K mg base (aj w K) k0 Ms)(hi:fn[i]?=some (dM c m q st):=by rfl)(hj:fa[j]?=some (.meth c m):=by rfl)(hx:Yy.contains c=true:=by rfl){fs:List Str}(hc:lF.lookup c=some fs:=by rfl)(hf:((lF.lookup c).getD []).contains m=false:=by rfl)(S:FnScope N ps (defScope st):=by exact⟨rfl,rfl,rfl,by decide +kernel,rfl,by decide +kernel,by decide +kernel⟩)(hb:∀(kV doc pm:Value) (an:Option Addr) (cdv ct:Value) (us:List Value),us.length=ps.length->bindArgs (PySem.W.fnOf m q (defArgs st) (defBody st) (defScope st) .none kV doc pm an cdv ct) ⟨us,[]⟩=pure (ps.zip us):=by nofun):cC P w K mg base (aj w K) k c m (.q ps.length (mQ N.length body)):=by obtain⟨fd,F⟩:=T.c.S7 i hi;exact an2 hk hx (T.cls hc) (T.c.qw j hj) hf (FunD.bindsN (ps:=ps) F hb) (Ym (CT F) S g b (T.hs ms) h)
theorem vG(i j:Nat){x:Str}{k0:Nat}(hk:k0+1<=k){st:Stmt}{N ps ml B:List Str}{G:List (Str×GV)}{Ms:List (Str×List (Str×MV))}{body:SF}(h:rY N st G B Ms ml=some body)(g:Dz P w K mg base (aj w K) k0 G)(b:Ds mg B)(ms:G4 P w K mg base (aj w K) k0 Ms)(hi:fn[i]?=some (dF x st):=by rfl)(hj:fa[j]?=some (.glo x):=by rfl)(S:FnScope N ps (defScope st):=by exact⟨rfl,rfl,rfl,by decide +kernel,rfl,by decide +kernel,by decide +kernel⟩)(hb:∀(kV doc pm:Value) (an:Option Addr) (cdv ct:Value) (us:List Value),us.length=ps.length->bindArgs (PySem.W.fnOf x x (defArgs st) (defBody st) (defScope st) .none kV doc pm an cdv ct) ⟨us,[]⟩=pure (ps.zip us):=by nofun):bh P w K mg base (aj w K) k x (.fg ps.length (mG N.length body)):=by obtain⟨fd,F⟩:=T.c.S7 i hi;exact aoa hk (T.glo j hj) F.kp (FunD.bindsN (ps:=ps) F hb) (RJ (CT F) S g b (T.hs ms) h)
theorem wG(i j:Nat){c m q:Str}{k0:Nat}(hk:k0+1<=k){st:Stmt}{N ps ml B:List Str}{G:List (Str×GV)}{Ms:List (Str×List (Str×MV))}{body:SF}(h:rY N st G B Ms ml=some body)(g:Dz P w K mg base (aj w K) k0 G)(b:Ds mg B)(ms:G4 P w K mg base (aj w K) k0 Ms)(hi:fn[i]?=some (dM c m q st):=by rfl)(hj:fa[j]?=some (.meth c m):=by rfl)(hx:Yy.contains c=true:=by rfl){fs:List Str}(hc:lF.lookup c=some fs:=by rfl)(hf:((lF.lookup c).getD []).contains m=false:=by rfl)(S:FnScope N ps (defScope st):=by exact⟨rfl,rfl,rfl,by decide +kernel,rfl,by decide +kernel,by decide +kernel⟩)(hb:∀(kV doc pm:Value) (an:Option Addr) (cdv ct:Value) (us:List Value),us.length=ps.length->bindArgs (PySem.W.fnOf m q (defArgs st) (defBody st) (defScope st) .none kV doc pm an cdv ct) ⟨us,[]⟩=pure (ps.zip us):=by nofun):cC P w K mg base (aj w K) k c m (.g ps.length (mG N.length body)):=by obtain⟨fd,F⟩:=T.c.S7 i hi;exact an7 hk hx (T.cls hc) (T.c.qw j hj) hf (FunD.bindsN (ps:=ps) F hb) (RJ (CT F) S g b (T.hs ms) h)
theorem vI(i j l:Nat){c q:Str}{n:Nat}{k0:Nat}{st:Stmt}{N ps ml B:List Str}{G:List (Str×GV)}{Ms:List (Str×List (Str×MV))}{body:SF}(h:rY N st G B Ms ml=some body)(g:Dz P w K mg base (aj w K) k0 G)(b:Ds mg B)(ms:G4 P w K mg base (aj w K) k0 Ms)(hk:k0+1+1<=k)(hi:fn[i]?=some (dM c "__init__" q st):=by rfl)(hj:fa[j]?=some (.mkr c):=by rfl)(hg:fa[l]?=some (.glo c):=by rfl)(hx:Yy.contains c=true:=by rfl){fs:List Str}(hc:lF.lookup c=some fs:=by rfl)(hp:ps.length=n+1:=by rfl)(S:FnScope N ps (defScope st):=by exact⟨rfl,rfl,rfl,by decide +kernel,rfl,by decide +kernel,by decide +kernel⟩)(hb:∀(kV doc pm:Value) (an:Option Addr) (cdv ct:Value) (us:List Value),us.length=ps.length->bindArgs (PySem.W.fnOf "__init__" q (defArgs st) (defBody st) (defScope st) .none kV doc pm an cdv ct) ⟨us,[]⟩=pure (ps.zip us):=by nofun):bh P w K mg base (aj w K) k c (.cls n (mG N.length body)):=by obtain⟨fd,F⟩:=T.c.S7 i hi;exact al9 hk hx (T.glo l hg) (T.cls hc) (T.c.qw j hj) hp (FunD.bindsN (ps:=ps) F hb) (RJ (CT F) S g b (T.hs ms) h)
theorem ab0(hk:2<=k):bh P w K mg base (aj w K) k "Clash" (.exi ["ones","others","ear"]):=by
 have ho:Uo K "Clash" ["ones","others","ear"]=true:=(He.ba (asV.mp T.xf _ (show(("Clash" : Str),(["ones","others","ear"]:List Str))∈Xh by simp[Xh]))).2
 obtain⟨o1,o2,o3,o4,o5⟩:=Uq ho;obtain⟨fd,F⟩:=T.c.S7 106;have b:=FunD.bindsN (ps:=["self","ones","others","ear"]) F λ_ _ _ _ _ _ us hl=>match us,hl with|[_,_,_,_],_=>rfl
 exact akT hk (by rfl) (T.glo 125) ho rfl b (adN (CT F) XF o1 (by rfl) (by decide) (o5 _ (by decide)) (o5 _ (by decide)) (o5 _ (by decide)))
theorem afk(hk:2<=k:=by omega):bh P w K mg base (aj w K) k "Grounds" (.cls 0 vM):=vI T 0 0 106 (ps:=["self"]) U9 atV atV atV hk
theorem agH(hk:2<=k:=by omega):bh P w K mg base (aj w K) k "Rights" (.cls 0 wY):=vI T 1 1 107 (ps:=["self"]) Xy atV atV atV hk
theorem amf(hk:2<=k:=by omega):bh P w K mg base (aj w K) k "Herd" (.cls 0 Af):=vI T 2 2 108 (ps:=["self"]) aaV atV atV atV hk
theorem afv(hk:4<=k:=by omega):bh P w K mg base (aj w K) k "Commons" (.cls 0 iD):=vI T 3 3 109 (ps:=["self"]) U5 ⟨amf T,agH T,afk T,atV⟩ atV atV hk
theorem HY(hk:1<=k:=by omega):cC P w K mg base (aj w K) k "Beast" "stand" (.q 1 wM):=wQ T 4 4 hk (ps:=["self"]) XC atV atV atV
theorem Xw(hk:2<=k:=by omega):cC P w K mg base (aj w K) k "Beast" "told" (.q 1 yU):=wQ T 5 5 hk (ps:=["self"]) ZP atV ⟨T.free 166,atV⟩ ⟨⟨HY T,atV⟩,atV⟩
theorem Pg(hk:1<=k:=by omega):cC P w K mg base (aj w K) k "Commons" "owners" (.q 1 sO):=wQ T 6 6 hk (ps:=["self"]) Qz atV ⟨T.free 167,atV⟩ atV
theorem Lw(hk:1<=k:=by omega):cC P w K mg base (aj w K) k "Rights" "all_rows" (.q 1 qD):=wQ T 7 7 hk (ps:=["self"]) Pb atV ⟨T.free 167,atV⟩ atV
theorem yM(hk:1<=k:=by omega):cC P w K mg base (aj w K) k "Grounds" "many" (.q 1 qK):=wQ T 8 8 hk (ps:=["self"]) Uk atV ⟨T.free 168,atV⟩ atV
theorem VP(hk:2<=k:=by omega):cC P w K mg base (aj w K) k "Grounds" "has" (.q 2 wV):=wQ T 9 9 hk (ps:=["self","ground"]) XQ atV atV ⟨⟨yM T,atV⟩,atV⟩
theorem jg(hk:3<=k:=by omega):cC P w K mg base (aj w K) k "Grounds" "need" (.q 2 vD):=wQ T 10 10 hk (ps:=["self","ground"]) UG ⟨acA T,atV⟩ atV ⟨⟨VP T,atV⟩,atV⟩
theorem xZ(hk:4<=k:=by omega):cC P w K mg base (aj w K) k "Grounds" "allowance" (.q 2 kJ):=wQ T 11 11 hk (ps:=["self","ground"]) Le atV atV ⟨⟨jg T,atV⟩,atV⟩
theorem oY(hk:4<=k:=by omega):cC P w K mg base (aj w K) k "Grounds" "together" (.q 2 lN):=wQ T 12 12 hk (ps:=["self","ground"]) M9 atV ⟨T.free 167,atV⟩ ⟨⟨jg T,atV⟩,atV⟩
theorem ug(hk:5<=k:=by omega):cC P w K mg base (aj w K) k "Commons" "together" (.q 2 lO):=wQ T 13 13 hk (ps:=["self","ground"]) Lh atV atV ⟨⟨oY T,atV⟩,atV⟩
theorem RG(hk:6<=k:=by omega):cC P w K mg base (aj w K) k "Commons" "look" (.q 1 oJ):=wQ T 14 14 hk (ps:=["self"]) V4 atV ⟨T.free 169,T.free 166,atV⟩ ⟨⟨Lw T,atV⟩,⟨Pg T,atV⟩,⟨Xw T,atV⟩,⟨yM T,atV⟩,⟨ug T,atV⟩,⟨xZ T,atV⟩,atV⟩
theorem acC(hk:1<=k:=by omega):bh P w K mg base (aj w K) k "_law_row" (.fq 3 vq):=vQ T 15 15 hk (ps:=["_law_cell_here","_law_many","_law_base"]) anD atV ⟨T.free 169,T.free 170,atV⟩ atV
theorem ZJ(hk:1<=k:=by omega):bh P w K mg base (aj w K) k "_law_ear_by" (.fq 2 uL):=vQ T 16 16 hk (ps:=["_law_figures","_law_mode"]) agl atV ⟨T.free 166,T.free 171,atV⟩ atV
theorem acT(hk:2<=k:=by omega):bh P w K mg base (aj w K) k "_law_ear" (.fq 1 CQ):=vQ T 17 17 hk (ps:=["_law_cell_here"]) amC ⟨ZJ T,acC T,atV⟩ atV atV
theorem aa6(hk:1<=k:=by omega):bh P w K mg base (aj w K) k "_law_begun" (.fq 1 wA):=vQ T 18 18 hk (ps:=["_law_head"]) abb atV atV atV
theorem ady(hk:1<=k:=by omega):bh P w K mg base (aj w K) k "_law_word_by" (.fq 1 xO):=vQ T 19 19 hk (ps:=["_law_figure"]) afj atV atV atV
theorem ajT(hk:1<=k:=by omega):bh P w K mg base (aj w K) k "_law_near" (.fq 2 MF):=vQ T 20 20 hk (ps:=["_law_ear_here","_law_figures"]) amg atV ⟨T.free 166,T.free 172,T.free 171,T.free 173,atV⟩ atV
theorem afE(hk:2<=k:=by omega):bh P w K mg base (aj w K) k "_law_mark_by" (.fq 3 xP):=vQ T 21 21 hk (ps:=["_law_figures","_law_mode","_law_base"]) afL ⟨ZJ T,ajT T,atV⟩ atV atV
theorem ane(hk:1<=k:=by omega):bh P w K mg base (aj w K) k "_law_ref" (.fq 3 kh):=vQ T 22 22 hk (ps:=["_law_figure","_law_many","_law_sure"]) am2 atV ⟨T.free 171,atV⟩ atV
theorem aly(hk:3<=k:=by omega):bh P w K mg base (aj w K) k "_law_deed" (.fq 6 gW):=vQ T 23 23 hk (ps:=["_law_word_here","_law_one","_law_two","_law_parts","_law_counts","_law_base"]) akG ⟨ane T,afE T,atV⟩ ⟨T.free 174,atV⟩ atV
theorem ajO(hk:4<=k:=by omega):bh P w K mg base (aj w K) k "_law_plan" (.fq 2 Mz):=vQ T 24 24 hk (ps:=["_law_cells","_law_head"]) ak8 ⟨aly T,ady T,acC T,aa6 T,acT T,atV⟩ ⟨T.free 175,T.free 168,atV⟩ atV
theorem Yq(hk:1<=k:=by omega):bh P w K mg base (aj w K) k "_law_cell" (.fq 2 jQ):=vQ T 25 25 hk (ps:=["_law_script","_law_k"]) akj atV ⟨T.free 168,atV⟩ atV
theorem ab3(hk:3<=k:=by omega):bh P w K mg base (aj w K) k "_law_tuple" (.fq 1 zY):=vQ T 26 26 hk (ps:=["_law_script"]) ai6 ⟨acT T,Yq T,atV⟩ ⟨T.free 166,T.free 175,atV⟩ atV
theorem amu(hk:2<=k:=by omega):bh P w K mg base (aj w K) k "_law_word" (.fq 1 Ny):=vQ T 27 27 hk (ps:=["_law_cell_here"]) aj9 ⟨acC T,atV⟩ ⟨T.free 170,atV⟩ atV
theorem v_cut(hk:1<=k:=by omega):bh P w K mg base (aj w K) k "_law_cut" (.fq 1 wN):=vQ T 28 28 hk (ps:=["_law_cell_here"]) amJ atV atV atV
theorem agB(hk:2<=k:=by omega):bh P w K mg base (aj w K) k "_law_spoilt" (.fq 2 mX):=vQ T 29 29 hk (ps:=["_law_mark","_law_cell_here"]) agq ⟨v_cut T,atV⟩ atV atV
theorem XH(hk:4<=k:=by omega):bh P w K mg base (aj w K) k "_law_spoilt_deed" (.fq 1 cV):=vQ T 30 30 hk (ps:=["_law_script"]) XS ⟨amu T,agB T,acT T,v_cut T,Yq T,ab3 T,atV⟩ ⟨T.free 168,atV⟩ atV
theorem abo(hk:1<=k:=by omega):bh P w K mg base (aj w K) k "_law_whole" (.fq 1 zq):=vQ T 31 31 hk (ps:=["_law_found"]) ajf atV ⟨T.free 176,T.free 177,T.free 174,atV⟩ atV
theorem alJ(hk:12<=k:=by omega):bh P w K mg base (aj w K) k "_law_like" (.fq 2 (oU 10)):=by
 obtain⟨fd,F⟩:=T.c.S7 32;have b:=FunD.bindsN (ps:=["_law_found","_law_due"]) F λ_ _ _ _ _ _ us hl=>match us,hl with|[_,_],_=>rfl
 have key:∀j:Nat,FnOk P w K mg base (L2.CX P w) (2+j) (He.ga K "_law_like") fd ["_law_found","_law_due"] (TY K (aj w K) 2 (oU j)):=by
  intro j
  induction j with
  |zero=>exact alz
  |succ j ih'=>
   have ih:∀{k:Nat},2+j<=k->bh P w K mg base (aj w K) k "_law_like" (.fq 2 (oU j)):=λhk=>afS hk (T.glo 32) F.kp (b) ih'
   refine Ym (k:=2+j) (CT F) ajl ?_ ?_ ?_ (ajX (oU j))
   .exact⟨ih (as6 _),abo T,atV⟩
   .exact⟨T.free 172,T.free 168,T.free 176,T.free 167,T.free 166,T.free 178,T.free 174,atV⟩
   .exact T.hs atV
 exact afS hk (T.glo 32) F.kp (b) (key 10)
theorem acM(hk:2<=k:=by omega):bh P w K mg base (aj w K) k "_law_ear_kind" (.fq 1 lG):=vQ T 33 33 hk (ps:=["_law_found"]) acN ⟨abo T,atV⟩ ⟨T.free 168,T.free 176,T.free 166,atV⟩ atV
theorem aiR(hk:3<=k:=by omega):bh P w K mg base (aj w K) k "_law_fault" (.fq 1 qJ):=vQ T 34 34 hk (ps:=["_law_deed_here"]) ahS ⟨acM T,atV⟩ ⟨T.free 172,T.free 176,T.free 174,T.free 168,T.free 178,atV⟩ atV
theorem ig(hk:1<=k:=by omega):cC P w K mg base (aj w K) k "Commons" "need_owner" (.q 2 jT):=wQ T 35 35 hk (ps:=["self","owner"]) JG ⟨aee T,atV⟩ atV atV
theorem uF(hk:1<=k:=by omega):cC P w K mg base (aj w K) k "Rights" "marks" (.q 3 vo):=wQ T 36 36 hk (ps:=["self","owner","ground"]) Uw atV atV atV
theorem K8(hk:2<=k:=by omega):cC P w K mg base (aj w K) k "Rights" "has_right" (.q 3 pY):=wQ T 37 37 hk (ps:=["self","owner","ground"]) LQ atV ⟨T.free 168,atV⟩ ⟨⟨uF T,atV⟩,atV⟩
theorem jH(hk:3<=k:=by omega):cC P w K mg base (aj w K) k "Commons" "need_right" (.q 3 nR):=wQ T 38 38 hk (ps:=["self","owner","ground"]) Jx ⟨WY T,atV⟩ atV ⟨⟨K8 T,atV⟩,atV⟩
theorem sJ(hk:1<=k:=by omega):cC P w K mg base (aj w K) k "Commons" "new_owner" (.g 1 gK):=wG T 39 39 hk (ps:=["self"]) K9 atV atV atV
theorem zj(hk:1<=k:=by omega):cC P w K mg base (aj w K) k "Rights" "add_right" (.g 4 jF):=wG T 40 40 hk (ps:=["self","owner","ground","mark"]) Nv ⟨Td T,atV⟩ atV atV
theorem ajH(hk:1<=k:=by omega):bh P w K mg base (aj w K) k "torn" (.fq 2 Ls):=vQ T 41 41 hk (ps:=["ear","many"]) akN ⟨w6 T,atV⟩ ⟨T.free 169,T.free 173,atV⟩ atV
theorem abq(hk:1<=k:=by omega):bh P w K mg base (aj w K) k "lacks" (.fq 2 vC):=vQ T 42 42 hk (ps:=["one","other"]) aje atV ⟨T.free 179,T.free 172,atV⟩ atV
theorem aaR(hk:2<=k:=by omega):bh P w K mg base (aj w K) k "offspring" (.fq 2 wB):=vQ T 43 43 hk (ps:=["mark","extra"]) aaS ⟨abq T,ajH T,atV⟩ atV atV
theorem ajc(hk:2<=k:=by omega):bh P w K mg base (aj w K) k "apart" (.fq 2 Jd):=vQ T 44 44 hk (ps:=["one","other"]) ain ⟨abq T,atV⟩ ⟨T.free 171,atV⟩ atV
theorem aar(hk:3<=k:=by omega):bh P w K mg base (aj w K) k "meet" (.fq 3 sY):=vQ T 45 45 hk (ps:=["one","other","room"]) ajP ⟨ajc T,atV⟩ atV atV
theorem aaf(hk:4<=k:=by omega):bh P w K mg base (aj w K) k "first_free" (.fq 4 qH):=vQ T 46 46 hk (ps:=["mark","extra","rows","room"]) aat ⟨acE T,aaR T,aar T,atV⟩ ⟨T.free 180,atV⟩ atV
theorem qM(hk:2<=k:=by omega):cC P w K mg base (aj w K) k "Commons" "first_mark" (.q 3 nQ):=wQ T 47 47 hk (ps:=["self","owner","ground"]) Jy atV atV ⟨⟨uF T,atV⟩,atV⟩
theorem Q6(hk:1<=k:=by omega):bh P w K mg base (aj w K) k "tidied" (.fq 1 rG):=vQ T 48 48 hk (ps:=["rows"]) agQ atV ⟨T.free 181,T.free 182,atV⟩ atV
theorem uI(hk:1<=k:=by omega):cC P w K mg base (aj w K) k "Herd" "all_living" (.q 1 qF):=wQ T 49 49 hk (ps:=["self"]) O9 atV ⟨T.free 175,atV⟩ atV
theorem Gy(hk:2<=k:=by omega):cC P w K mg base (aj w K) k "Herd" "grazing" (.q 2 qW):=wQ T 50 50 hk (ps:=["self","grounds"]) Ur atV atV ⟨⟨uI T,atV⟩,atV⟩
theorem Ju(hk:1<=k:=by omega):cC P w K mg base (aj w K) k "Rights" "in_grounds" (.q 2 pq):=wQ T 51 51 hk (ps:=["self","grounds"]) La atV atV atV
theorem vR(hk:6<=k:=by omega):cC P w K mg base (aj w K) k "Commons" "standing_but" (.q 3 ju):=wQ T 52 52 hk (ps:=["self","left_out","ground"]) Hq ⟨Q6 T,atV⟩ atV ⟨⟨Ju T,atV⟩,⟨Gy T,atV⟩,⟨ug T,atV⟩,atV⟩
theorem uf(hk:7<=k:=by omega):cC P w K mg base (aj w K) k "Commons" "standing" (.q 2 lX):=wQ T 53 53 hk (ps:=["self","ground"]) NP atV atV ⟨⟨vR T,atV⟩,atV⟩
theorem TQ(hk:5<=k:=by omega):cC P w K mg base (aj w K) k "Grounds" "room" (.q 2 qR):=wQ T 54 54 hk (ps:=["self","ground"]) VF atV ⟨T.free 171,atV⟩ ⟨⟨oY T,atV⟩,⟨xZ T,atV⟩,atV⟩
theorem uz(hk:6<=k:=by omega):cC P w K mg base (aj w K) k "Commons" "room" (.q 2 qL):=wQ T 55 55 hk (ps:=["self","ground"]) Vm atV atV ⟨⟨TQ T,atV⟩,atV⟩
theorem yZ(hk:8<=k:=by omega):cC P w K mg base (aj w K) k "Commons" "new_heir" (.g 4 cU):=wG T 56 56 hk (ps:=["self","elder","ground","extra"]) Mh ⟨aaf T,ac9 T,Vp T,ZV T,atV⟩ atV ⟨⟨zj T,atV⟩,⟨sJ T,atV⟩,⟨uz T,atV⟩,⟨uf T,atV⟩,⟨qM T,atV⟩,⟨jH T,atV⟩,⟨jg T,atV⟩,⟨ig T,atV⟩,atV⟩
theorem Ig(hk:2<=k:=by omega):cC P w K mg base (aj w K) k "Grounds" "add_ground" (.g 2 fW):=wG T 57 57 hk (ps:=["self","allowance"]) JR ⟨Vn T,Kr T,atV⟩ atV ⟨⟨yM T,atV⟩,atV⟩
theorem xR(hk:3<=k:=by omega):cC P w K mg base (aj w K) k "Commons" "new_ground" (.g 2 fZ):=wG T 58 58 hk (ps:=["self","allowance"]) Jt atV atV ⟨⟨Ig T,atV⟩,atV⟩
theorem aem(hk:4<=k:=by omega):bh P w K mg base (aj w K) k "barring" (.fq 4 Ao):=vQ T 59 59 hk (ps:=["owner","ear","rows","room"]) aeJ ⟨aar T,Q6 T,atV⟩ atV atV
theorem Od(hk:1<=k:=by omega):bh P w K mg base (aj w K) k "joint" (.fq 2 qI):=vQ T 60 60 hk (ps:=["one","other"]) aio atV ⟨T.free 166,T.free 172,T.free 171,atV⟩ atV
theorem R8(hk:5<=k:=by omega):bh P w K mg base (aj w K) k "ask_room" (.fq 4 pO):=vQ T 61 61 hk (ps:=["owner","ear","rows","room"]) acZ ⟨ab0 T (by decide),Od T,aem T,atV⟩ atV atV
theorem qU(hk:8<=k:=by omega):cC P w K mg base (aj w K) k "Commons" "ask_ground" (.q 4 iV):=wQ T 62 62 hk (ps:=["self","owner","ear","ground"]) JZ ⟨R8 T,atV⟩ atV ⟨⟨uz T,atV⟩,⟨uf T,atV⟩,atV⟩
theorem Zu(hk:1<=k:=by omega):bh P w K mg base (aj w K) k "is_ear" (.fq 1 uM):=vQ T 63 63 hk (ps:=["parts"]) agA ⟨w6 T,Rb T,atV⟩ ⟨T.free 183,T.free 168,atV⟩ atV
theorem Rx(hk:2<=k:=by omega):bh P w K mg base (aj w K) k "need_ear" (.fq 1 sG):=vQ T 64 64 hk (ps:=["parts"]) acG ⟨agn T,Zu T,atV⟩ atV atV
theorem Ep(hk:9<=k:=by omega):cC P w K mg base (aj w K) k "Commons" "enrol" (.g 4 dU):=wG T 65 65 hk (ps:=["self","owner","ground","mark"]) RK ⟨Td T,al1 T,RB T,Rx T,atV⟩ atV ⟨⟨zj T,atV⟩,⟨qU T,atV⟩,⟨uF T,atV⟩,⟨jg T,atV⟩,⟨ig T,atV⟩,atV⟩
theorem Vk(hk:2<=k:=by omega):cC P w K mg base (aj w K) k "Rights" "drop" (.g 3 pG):=wG T 66 66 hk (ps:=["self","owner","ground"]) Xv ⟨WY T,atV⟩ atV ⟨⟨uF T,atV⟩,atV⟩
theorem Ea(hk:4<=k:=by omega):cC P w K mg base (aj w K) k "Commons" "leave" (.g 3 fQ):=wG T 67 67 hk (ps:=["self","owner","ground"]) Ru ⟨Yr T,atV⟩ ⟨T.free 180,atV⟩ ⟨⟨Vk T,atV⟩,⟨Gy T,atV⟩,⟨jH T,atV⟩,⟨jg T,atV⟩,⟨ig T,atV⟩,atV⟩
theorem Cm(hk:1<=k:=by omega):cC P w K mg base (aj w K) k "Beast" "stand_so" (.g 2 oV):=wG T 68 68 hk (ps:=["self","stand"]) Qy atV atV atV
theorem aiB(hk:1<=k:=by omega):bh P w K mg base (aj w K) k "begun" (.fq 1 Dm):=vQ T 69 69 hk (ps:=["first"]) aiu ⟨RB T,atV⟩ atV atV
theorem ai0(hk:3<=k:=by omega):bh P w K mg base (aj w K) k "Beast" (.cls 1 uP):=vI T 70 70 110 (ps:=["self","first"]) aan ⟨aiB T,atV⟩ atV ⟨⟨Cm T,atV⟩,atV⟩ hk
theorem Cq(hk:4<=k:=by omega):cC P w K mg base (aj w K) k "Herd" "add_beast" (.g 2 rP):=wG T 71 71 hk (ps:=["self","first"]) Qo ⟨ai0 T,atV⟩ ⟨T.free 168,atV⟩ atV
theorem Ed(hk:5<=k:=by omega):cC P w K mg base (aj w K) k "Commons" "bring" (.g 4 fP):=wG T 72 72 hk (ps:=["self","owner","ground","ear"]) Uh ⟨Rx T,atV⟩ atV ⟨⟨Cq T,atV⟩,⟨jH T,atV⟩,⟨jg T,atV⟩,⟨ig T,atV⟩,atV⟩
theorem BR(hk:1<=k:=by omega):cC P w K mg base (aj w K) k "Herd" "known" (.q 2 lM):=wQ T 73 73 hk (ps:=["self","number"]) Z5 ⟨afH T,atV⟩ ⟨T.free 168,atV⟩ atV
theorem vA(hk:2<=k:=by omega):cC P w K mg base (aj w K) k "Herd" "living" (.q 2 tG):=wQ T 74 74 hk (ps:=["self","number"]) Xq ⟨alL T,atV⟩ atV ⟨⟨BR T,atV⟩,atV⟩
theorem zX(hk:3<=k:=by omega):cC P w K mg base (aj w K) k "Herd" "marked" (.q 2 pK):=wQ T 75 75 hk (ps:=["self","number"]) Xz ⟨ac2 T,atV⟩ atV ⟨⟨vA T,atV⟩,atV⟩
theorem Gk(hk:5<=k:=by omega):cC P w K mg base (aj w K) k "Commons" "bear" (.g 2 iT):=wG T 76 76 hk (ps:=["self","mother"]) Vt atV atV ⟨⟨Cq T,atV⟩,⟨zX T,atV⟩,atV⟩
theorem acV(hk:1<=k:=by omega):bh P w K mg base (aj w K) k "deepened" (.fq 2 yh):=vQ T 77 77 hk (ps:=["ear","place"]) ac4 atV ⟨T.free 166,T.free 175,atV⟩ atV
theorem adQ(hk:2<=k:=by omega):bh P w K mg base (aj w K) k "gone_on" (.fq 2 Br):=vQ T 78 78 hk (ps:=["stand","event"]) afm ⟨acV T,atV⟩ atV atV
theorem jM(hk:3<=k:=by omega):cC P w K mg base (aj w K) k "Beast" "befall" (.g 2 oA):=wG T 79 79 hk (ps:=["self","event"]) Um ⟨adQ T,atV⟩ atV ⟨⟨Cm T,atV⟩,⟨HY T,atV⟩,atV⟩
theorem HF(hk:9<=k:=by omega):cC P w K mg base (aj w K) k "Commons" "cut" (.g 2 jx):=wG T 80 80 hk (ps:=["self","beast"]) Xx ⟨Od T,atV⟩ atV ⟨⟨jM T,atV⟩,⟨qU T,atV⟩,⟨qM T,atV⟩,⟨vA T,atV⟩,atV⟩
theorem Gv(hk:4<=k:=by omega):cC P w K mg base (aj w K) k "Commons" "tear" (.g 3 fM):=wG T 81 81 hk (ps:=["self","beast","place"]) V5 ⟨aec T,w6 T,afP T,Rb T,atV⟩ ⟨T.free 168,atV⟩ ⟨⟨jM T,atV⟩,⟨vA T,atV⟩,atV⟩
theorem Vx(hk:2<=k:=by omega):cC P w K mg base (aj w K) k "Herd" "calves" (.q 2 tH):=wQ T 82 82 hk (ps:=["self","mother"]) XM atV atV ⟨⟨uI T,atV⟩,⟨BR T,atV⟩,atV⟩
theorem zf(hk:4<=k:=by omega):cC P w K mg base (aj w K) k "Herd" "lead_calves" (.g 2 pU):=wG T 83 83 hk (ps:=["self","mother"]) NZ atV atV ⟨⟨Vx T,atV⟩,⟨jM T,atV⟩,⟨BR T,atV⟩,atV⟩
theorem FJ(hk:7<=k:=by omega):cC P w K mg base (aj w K) k "Commons" "sell" (.g 3 dO):=wG T 84 84 hk (ps:=["self","beast","buyer"]) UL ⟨R8 T,Od T,Px T,atV⟩ atV ⟨⟨zf T,atV⟩,⟨jM T,atV⟩,⟨uz T,atV⟩,⟨vR T,atV⟩,⟨qM T,atV⟩,⟨jH T,atV⟩,⟨ig T,atV⟩,⟨zX T,atV⟩,atV⟩
theorem Fq(hk:9<=k:=by omega):cC P w K mg base (aj w K) k "Commons" "move" (.g 3 dN):=wG T 85 85 hk (ps:=["self","beast","ground"]) Vr ⟨Zr T,atV⟩ atV ⟨⟨zf T,atV⟩,⟨jM T,atV⟩,⟨qU T,atV⟩,⟨jH T,atV⟩,⟨jg T,atV⟩,⟨zX T,atV⟩,atV⟩
theorem Ht(hk:4<=k:=by omega):cC P w K mg base (aj w K) k "Commons" "die" (.g 2 j7):=wG T 86 86 hk (ps:=["self","beast"]) XD atV atV ⟨⟨jM T,atV⟩,⟨vA T,atV⟩,atV⟩
theorem acw(hk:4<=k:=by omega):bh P w K mg base (aj w K) k "clashing" (.fq 2 vm):=vQ T 87 87 hk (ps:=["rows","room"]) acF ⟨aar T,Q6 T,atV⟩ ⟨T.free 175,atV⟩ atV
theorem Ld(hk:8<=k:=by omega):cC P w K mg base (aj w K) k "Commons" "quarrels" (.q 3 lY):=wQ T 88 88 hk (ps:=["self","ground","other"]) M5 ⟨acw T,atV⟩ ⟨T.free 171,atV⟩ ⟨⟨uf T,atV⟩,⟨uz T,atV⟩,atV⟩
theorem Bs(hk:1<=k:=by omega):cC P w K mg base (aj w K) k "Grounds" "enclose" (.g 2 ni):=wG T 89 89 hk (ps:=["self","grounds"]) Pa atV ⟨T.free 166,atV⟩ atV
theorem DK(hk:5<=k:=by omega):cC P w K mg base (aj w K) k "Grounds" "unite" (.g 3 jY):=wG T 90 90 hk (ps:=["self","ground","other"]) SN ⟨RM T,atV⟩ ⟨T.free 181,atV⟩ ⟨⟨Bs T,atV⟩,⟨oY T,atV⟩,atV⟩
theorem DP(hk:9<=k:=by omega):cC P w K mg base (aj w K) k "Commons" "unite" (.g 3 eX):=wG T 91 91 hk (ps:=["self","ground","other"]) T5 ⟨ab0 T (by decide),Od T,RM T,atV⟩ atV ⟨⟨DK T,atV⟩,⟨Ld T,atV⟩,⟨ug T,atV⟩,⟨jg T,atV⟩,atV⟩
theorem Fx(hk:5<=k:=by omega):cC P w K mg base (aj w K) k "Grounds" "part" (.g 2 iH):=wG T 92 92 hk (ps:=["self","ground"]) Ut ⟨ai1 T,atV⟩ atV ⟨⟨Bs T,atV⟩,⟨oY T,atV⟩,atV⟩
theorem FW(hk:6<=k:=by omega):cC P w K mg base (aj w K) k "Commons" "part" (.g 2 iy):=wG T 93 93 hk (ps:=["self","ground"]) Uz atV atV ⟨⟨Fx T,atV⟩,atV⟩
theorem Lf(hk:1<=k:=by omega):cC P w K mg base (aj w K) k "Rights" "hand_over" (.g 3 pW):=wG T 94 94 hk (ps:=["self","elder","heir"]) Nb atV atV atV
theorem XR(hk:2<=k:=by omega):cC P w K mg base (aj w K) k "Herd" "owned" (.q 2 yc):=wQ T 95 95 hk (ps:=["self","owner"]) aaK atV atV ⟨⟨uI T,atV⟩,atV⟩
theorem Bo(hk:4<=k:=by omega):cC P w K mg base (aj w K) k "Commons" "pass_on" (.g 3 fB):=wG T 96 96 hk (ps:=["self","elder","heir"]) Ph ⟨Px T,atV⟩ atV ⟨⟨jM T,atV⟩,⟨XR T,atV⟩,⟨Lf T,atV⟩,⟨ig T,atV⟩,atV⟩
theorem aa5(hk:2<=k:=by omega):bh P w K mg base (aj w K) k "part_fits" (.fq 2 cJ):=vQ T 97 97 hk (ps:=["kind","part"]) aa4 ⟨Rb T,Ua T,Zu T,atV⟩ ⟨T.free 176,T.free 174,T.free 168,T.free 166,atV⟩ atV
theorem akx(hk:3<=k:=by omega):bh P w K mg base (aj w K) k "fits" (.fq 1 qZ):=vQ T 98 98 hk (ps:=["deed"]) alW ⟨aa5 T,agF T,atV⟩ ⟨T.free 183,T.free 172,T.free 168,atV⟩ atV
theorem Ky(hk:10<=k:=by omega):cC P w K mg base (aj w K) k "Commons" "do" (.g 2 bU):=wG T 99 99 hk (ps:=["self","deed"]) Y9 ⟨Wz T,akx T,atV⟩ atV ⟨⟨yZ T,atV⟩,⟨Bo T,atV⟩,⟨FW T,atV⟩,⟨DP T,atV⟩,⟨Ht T,atV⟩,⟨Fq T,atV⟩,⟨FJ T,atV⟩,⟨Gv T,atV⟩,⟨HF T,atV⟩,⟨Gk T,atV⟩,⟨Ed T,atV⟩,⟨Ea T,atV⟩,⟨Ep T,atV⟩,⟨xR T,atV⟩,⟨sJ T,atV⟩,atV⟩
theorem am0(hk:11<=k:=by omega):bh P w K mg base (aj w K) k "_law_bad" (.fg 2 yG):=vG T 100 100 hk (ps:=["_law_house","_law_deed_here"]) anH ⟨Wz T,atV⟩ atV ⟨⟨Ky T,atV⟩,atV⟩
theorem Ws(hk:1<=k:=by omega):bh P w K mg base (aj w K) k "_law_kind_of" (.kin lU):=by
 obtain⟨fd,F⟩:=T.c.S7 101;have b:=FunD.bindsN (ps:=["_law_e"]) F λ_ _ _ _ _ _ us hl=>match us,hl with|[_],_=>rfl
 exact al2 hk (T.glo 101) F.kp rfl b (alg (CT F) ⟨rfl,rfl,rfl,by decide +kernel,rfl,by decide +kernel,by decide +kernel⟩ (by rfl) (by rfl) (by rfl) (by rfl) (T.free 176) (ani (kc:=kcH) (kt:=ktH) (show aaD K mg ["BadEar","Bare","BadAllowance","BadExtra","NoPlace","Deepest","NoOwner","NoGround","NoBeast","NoRight","HasRight","StillThere","Dead","Unmarked","SameOwner","SameGround","Together","Alone","NoneFree","BadDeed","BadLine","NoStand","Clash"] from⟨T.glo 126,T.glo 128,T.glo 123,T.glo 121,T.glo 140,T.glo 138,T.glo 113,T.glo 111,T.glo 132,T.glo 115,T.glo 117,T.glo 130,T.glo 134,T.glo 136,T.glo 142,T.glo 144,T.glo 146,T.glo 148,T.glo 119,T.glo 150,T.glo 152,T.glo 154,T.glo 125,atV⟩) (He.ba (He.ba (He.ba (He.ba (He.ba (He.ba T.c.more).1).1).1).1).1).2) afD)
theorem acD(hk:11<=k:=by omega):bh P w K mg base (aj w K) k "_law_by_tuple" (.fg 2 pP):=vG T 102 102 hk (ps:=["_law_house","_law_deed_here"]) acY ⟨KQ T,Ws T,atV⟩ atV ⟨⟨Ky T,atV⟩,atV⟩
theorem aiy(hk:10<=k:=by omega):bh P w K mg base (aj w K) k "_law_named" (.fg 2 fG):=vG T 103 103 hk (ps:=["_law_house","_law_deed_here"]) aiY atV atV ⟨⟨yZ T,atV⟩,⟨Bo T,atV⟩,⟨Fx T,FW T,atV⟩,⟨DK T,DP T,atV⟩,⟨Ht T,atV⟩,⟨Fq T,atV⟩,⟨FJ T,atV⟩,⟨Gv T,atV⟩,⟨HF T,atV⟩,⟨Gk T,atV⟩,⟨Ed T,atV⟩,⟨Ea T,atV⟩,⟨Ep T,atV⟩,⟨xR T,atV⟩,⟨sJ T,atV⟩,atV⟩
theorem afB(hk:11<=k:=by omega):bh P w K mg base (aj w K) k "_law_by_name" (.fg 2 rC):=vG T 104 104 hk (ps:=["_law_house","_law_deed_here"]) afp ⟨aiy T,KQ T,Ws T,atV⟩ atV atV
theorem anh{fd:FuncData}(F:FunD K "law" "law" (defArgs Om) (defBody Om) (defScope Om) [] [] (He.ga K "law") fd):FnOk P w K mg base (L2.CX P w) 13 (He.ga K "law") fd ["_law_script"] (Jm K (aj w K) 1 Sv):=by
 refine RJ (k:=12) (CT F) aj7 ?_ ?_ ?_ amL
 .exact⟨alJ T,am0 T,afv T,aiR T,XH T,v_cut T,ab3 T,Yq T,ajO T,afB T,acD T,atV⟩
 .exact⟨T.free 170,atV⟩
 .exact T.hs ⟨⟨RG T,atV⟩,atV⟩
end
def digs(b:Int):Nat->Int->List Int
 |0,_=>[]
 |n+1,c=>c%b::digs b n (c/b)
def Py(b:Int):Nat->Int->Int->List Int
 |0,_,_=>[]
 |n+1,k,t=>((t*48271+9973*k+11)%2147483647/1021%b)::Py b n (k+1) ((t*48271+9973*k+11)%2147483647)
def BZ(c:Int):Int:=if c<0 then -c else c
def rowOf(c:Int)(n:Nat)(b:Int):List Int:=if 10^18<=BZ c then digs b n (BZ c) else Py b n 0 ((BZ c%1000003+17)*69621%2147483647)
theorem aas(b:Int):∀n c,(digs b n c).length=n
 |0,_=>rfl
 |n+1,c=>by simp[digs,aas b n]
theorem abK(b:Int):∀n k t,(Py b n k t).length=n
 |0,_,_=>rfl
 |n+1,k,t=>by simp[Py,abK b n]
theorem abG{b:Int}(hb:0<b):∀n c,∀x∈digs b n c,0<=x/\x<b
 |0,_,x,h=>by simp[digs]at h
 |n+1,c,x,h=>by
  rcases asN.mp h with rfl|h
  .exact⟨Int.emod_nonneg _ (by omega),Int.emod_lt_of_pos _ hb⟩
  .exact abG hb n _ x h
theorem ae1{b:Int}(hb:0<b):∀n k t,∀x∈Py b n k t,0<=x/\x<b
 |0,_,_,x,h=>by simp[Py]at h
 |n+1,k,t,x,h=>by
  rcases asN.mp h with rfl|h
  .exact⟨Int.emod_nonneg _ (by omega),Int.emod_lt_of_pos _ hb⟩
  .exact ae1 hb n _ _ x h
@[simp]theorem V2 (c:Int) (n:Nat) (b:Int):(rowOf c n b).length=n:=by
 unfold rowOf;split
 .exact aas ..
 .exact abK ..
theorem N5{b:Int}(hb:0<b)(c:Int)(n:Nat):∀x∈rowOf c n b,0<=x/\x<b:=by
 unfold rowOf;split
 .exact abG hb _ _
 .exact ae1 hb _ _ _
@[simp]theorem Dh (M:Mo) (ns:List Int) (k:Nat):jQ M [lI ns,.int k]=.ok (.int (ns.getD k 0)):=by
 unfold jQ ZX;by_cases h:k<ns.length
 .simp[h,atI,ixN]
 .simp[h]
theorem aao(M:Mo)(b:Int)(hb:0<b)(hb2:b<1073741824):∀(n k:Nat) (c:Int) (x1:Option Cell) (acc:List Dat) (x4 x5:Option Cell),acc.length+n<100000->∃c' x4',eO (aF 4) V1 ((List.range' k n).map λ(i:Nat)=>PyData.int (i:Int)) M [some (.dat (.int c)),x1,some (.dat (.int b)),some (.mut acc),x4,x5]=.next [c',x1,some (.dat (.int b)),some (.mut (acc++(digs b n c).map .int)),x4',x5] M
 |0,k,c,x1,acc,x4,x5,_=>⟨some (.dat (.int c)),x4,by simp[eO,digs]⟩
 |n+1,k,c,x1,acc,x4,x5,hl=>by
  obtain⟨c',x4',ih⟩:=aao M b hb hb2 n (k+1) (c/b) x1 (acc++[.int (c%b)]) (some (.dat (.int k))) x5 (by simp;omega);refine⟨c',x4',?_⟩;have h1:decide (CDiv c b)=true:=decide_eq_true ⟨hb,hb2⟩;have hl:acc.length<100000:=by omega
  rw[List.range'_succ,asy,jh (Z1:=[some (.dat (.int c)),x1,some (.dat (.int b)),some (.mut acc),some (.dat (.int k)),x5]) (by simp) (Z2:=[some (.dat (.int (c/b))),x1,some (.dat (.int b)),some (.mut (acc++[.int (c%b)])),some (.dat (.int k)),x5]) (M2:=M) (by simp[V1,h1,hb,hl])];rw[ih];simp[digs]
theorem aby(M:Mo)(b:Int)(hb:0<b):∀(n k:Nat) (t:Int) (x0 x1:Option Cell) (acc:List Dat) (x4:Option Cell),acc.length+n<100000->∃x4' x5',eO (aF 4) Vf ((List.range' k n).map λ(i:Nat)=>PyData.int (i:Int)) M [x0,x1,some (.dat (.int b)),some (.mut acc),x4,some (.dat (.int t))]=.next [x0,x1,some (.dat (.int b)),some (.mut (acc++(Py b n k t).map .int)),x4',x5'] M
 |0,k,t,x0,x1,acc,x4,_=>⟨x4,some (.dat (.int t)),by simp[eO,Py]⟩
 |n+1,k,t,x0,x1,acc,x4,hl=>by
  obtain⟨x4',x5',ih⟩:=aby M b hb n (k+1) ((t*48271+9973*k+11)%2147483647) x0 x1 (acc++[.int ((t*48271+9973*k+11)%2147483647/1021%b)]) (some (.dat (.int k))) (by simp;omega);refine⟨x4',x5',?_⟩;have h1:decide (CMul t 48271)=true:=mul_r (by decide);have h2:decide (CMul 9973 (k:Int))=true:=ahN (by decide);have h3:∀x,decide (CDiv x 1021)=true:=λx=>decide_eq_true ⟨by decide,by decide⟩;have hl:acc.length<100000:=by omega
  rw[List.range'_succ,asy,jh (Z1:=[x0,x1,some (.dat (.int b)),some (.mut acc),some (.dat (.int k)),some (.dat (.int t))]) (by simp) (Z2:=[x0,x1,some (.dat (.int b)),some (.mut (acc++[.int ((t*48271+9973*k+11)%2147483647/1021%b)])),some (.dat (.int k)),some (.dat (.int ((t*48271+9973*k+11)%2147483647)))]) (M2:=M) (by simp[Vf,h1,h2,h3,hb,hl])];rw[ih];simp[Py]
theorem S8(n:Nat):qP 0 n=(List.range' 0 n).map λ(i:Nat)=>PyData.int (i:Int):=by unfold qP;rw[List.range_eq_range'];simp
theorem aay(M:Mo)(c:Int)(n:Nat)(b:Int)(hb:0<b)(hb2:b<1073741824)(hn:n<=1000):vq M [.int c,.int n,.int b]=.ok (lI (rowOf c n b)):=by
 unfold vq ac0;have hp:decide (CPow 10 18)=true:=decide_eq_true ⟨by decide,by decide,by decide⟩;have hn1:(n:Int)<=100000:=by omega
 have hn2 : -100000<=(n:Int):=by omega
 have hm:∀x,decide (CMul x 69621)=true:=λx=>mul_r (by decide);have ea:(if c<0 then -c else c)=BZ c:=rfl;by_cases h:10^18<=BZ c
 .obtain⟨c',x4',e⟩:=aao M b hb hb2 n 0 (BZ c) (some (.dat (.int n))) [] none none (by simp;omega);have e2:rowOf c n b=digs b n (BZ c):=at5 h;have h':(1000000000000000000:Int)<=BZ c:=by simpa using h
  simp[hp,ea,h',hn1,hn2,S8,e,e2]
 .obtain⟨x4',x5',e⟩:=aby M b hb n 0 ((BZ c%1000003+17)*69621%2147483647) (some (.dat (.int (BZ c)))) (some (.dat (.int n))) [] none (by simp;omega);have e2:rowOf c n b=Py b n 0 ((BZ c%1000003+17)*69621%2147483647):=at6 h;have h':¬(1000000000000000000:Int)<=BZ c:=by simpa using h
  have e':=e;simp[hp,ea,h',hn1,hn2,hm,S8]at e |-
  rw[e];simp[e2]
def Qp(i j:Int):Int:=if j>i then j else i
def z8(l:List Int)(m:Int):List Int:=if m%4=1 then l.map λf=>Qp 0 (f-7) else if m%4=2 then l.map λf=>f%3 else l
theorem Wu(M:Mo)(l:List Int)(m:Int)(hl:l.length<=1000):uL M [lI l,.int m]=.ok (aK (z8 l m)):=by
 unfold uL Qw;have hl':l.length<=50000:=by omega
 have c1:=gJ (tg:=aF 2) (te:=aA wO (qC (.int 0)) (aA pC (ao 2) (qC (.int 7)))) (M:=M) (Z:=[some (.dat (lI l)),some (.dat (.int m)),none]) PyData.int (λf=>.int (Qp 0 (f-7))) l λx _=>⟨_,rfl,by simp[Qp]⟩;have c2:=gJ (tg:=aF 2) (te:=aA jc (ao 2) (qC (.int 3))) (M:=M) (Z:=[some (.dat (lI l)),some (.dat (.int m)),none]) PyData.int (λf=>.int (f%3)) l λx _=>⟨_,rfl,by simp⟩;by_cases h1:m%4=1
 .simp[h1,hl',c1,z8,as4]
 .by_cases h2:m%4=2
  .simp[h2,hl',c2,z8,as4]
  .simp[h1,h2,z8]
def CP(c:Int):List Int:=z8 ((rowOf c 7 10).take 6) ((rowOf c 7 10).getD 6 0)
theorem Km{α:Type}(l:List α)(n:Nat):Rf.cutD l none (some (n:Int))=l.take n:=by unfold Rf.cutD;rw[HT.sIx_nat];simp[HT.sIx]
theorem xK{α:Type}(l:List α)(n:Nat):Rf.cutD l (some (n:Int)) none=l.drop n:=by
 unfold Rf.cutD;rw[HT.sIx_nat];simp[HT.sIx];by_cases h:n<=l.length
 .rw[Nat.min_eq_left h];exact List.take_of_length_le (by simp)
 .rw[Nat.min_eq_right (by omega),List.drop_eq_nil_of_le (by omega),List.drop_eq_nil_of_le (by omega)];simp
theorem ZF(l:List Int)(n:Nat)(h:n<l.length):atI (l.map PyData.int) (n:Int)=some (.int (l.getD n 0)):=atI_nat (by simp[h])
theorem aam(M:Mo)(c:Int):CQ M [.int c]=.ok (aK (CP c)):=by
 unfold CQ acz;have h1:vq M [.int c,.int 7,.int 10]=.ok (.list ((rowOf c 7 10).map .int)):=aay M c 7 10 (by decide) (by decide) (by decide);have h2:Rf.cutD ((rowOf c 7 10).map PyData.int) none (some 6)=((rowOf c 7 10).take 6).map PyData.int:=by rw[show(6:Int)=((6:Nat):Int) from rfl,Km,List.map_take]
 have h3:atI ((rowOf c 7 10).map PyData.int) 6=some (.int ((rowOf c 7 10).getD 6 0)):=ZF _ 6 (by simp);have h4:uL M [.list (((rowOf c 7 10).take 6).map .int),.int ((rowOf c 7 10).getD 6 0)]=.ok (.tuple ((CP c).map .int)):=Wu M _ _ (by simp);generalize (rowOf c 7 10).getD 6 0=z at h3 h4;generalize ((rowOf c 7 10).take 6).map PyData.int=y at h2 h4;simp[h1,h2,h3,h4]
theorem Gf(c:Int):(CP c).length=6:=by
 unfold CP z8;split
 .simp
 .split<;>simp
theorem Zh{l:List Int}{m:Int}(h:∀x∈l,0<=x/\x<10):∀x∈z8 l m,0<=x/\x<10:=by
 unfold z8 Qp;split
 .intro x hx;obtain⟨y,hy,rfl⟩:=asJ.mp hx;have:=h y hy
  split<;>omega
 .split
  .intro x hx;obtain⟨y,hy,rfl⟩:=asJ.mp hx;have:=h y hy;omega
  .exact h
theorem aha(c:Int):∀x∈CP c,0<=x/\x<10:=Zh λx hx=>N5 (by decide) c 7 x (atn hx)
mutual
def lk:Nat->Dat->Bool
 |_,.none=>true
 |_,.bool _=>true
 |_,.int _=>true
 |_,.str _=>true
 |n+1,.list ds=>uJ n ds
 |n+1,.tuple ds=>uJ n ds
 |0,.list _=>false
 |0,.tuple _=>false
 |_,.dict _=>false
def uJ:Nat->List Dat->Bool
 |_,[]=>true
 |n,d::ds=>lk n d&&uJ n ds
end
theorem tM{n:Nat}:∀{ds:List Dat},uJ n ds=true↔∀d∈ds,lk n d=true
 |[]=>by simp[uJ]
 |d::ds=>by simp[uJ,tM (ds:=ds)]
@[simp]theorem ZW (n:Nat) (l:List Int):uJ n (l.map PyData.int)=true:=tM.mpr λd h=>by
 obtain⟨i,_,rfl⟩:=asJ.mp h;simp[lk]
theorem Lg(M:Mo)(i:Int):zq M [.int i]=.ok (.bool true):=by unfold zq Us;simp[iK,j9]
theorem zip_self(ds:List Dat):pB ds ds=ds.map λd=>.tuple [d,d]:=by unfold pB;rw[List.zipWith_self]
theorem Ma(M:Mo)(r:Mo->List Dat->Out Dat)(x0 x1:Option Cell):∀(ds:List Dat) (x2 x3:Option Cell),(∀d∈ds,r M [d,d]=.ok (.bool true))->∃x2' x3',eO (bF [2,3]) (Qc r) (ds.map λd=>PyData.tuple [d,d]) M [x0,x1,x2,x3]=.next [x0,x1,x2',x3'] M
 |[],x2,x3,_=>⟨x2,x3,rfl⟩
 |d::ds,x2,x3,h=>by
  obtain⟨x2',x3',ih⟩:=Ma M r x0 x1 ds (some (.dat d)) (some (.dat d)) λd hd=>h d (asB _ hd);refine⟨x2',x3',?_⟩;have hd:=h d asC;rw[asy,jh (Z1:=[x0,x1,some (.dat d),some (.dat d)]) (by simp) (Z2:=[x0,x1,some (.dat d),some (.dat d)]) (M2:=M) (by simp[Qc,hd])];exact ih
theorem abI(M:Mo):∀(n:Nat) (d:Dat),lk n d=true->oU (n+1) M [d,d]=.ok (.bool true):=by
 intro n
 induction n with
 |zero=>
  intro d h;show mQ 4 (IV (oU 0)) M [d,d]=_;unfold IV;cases d with
  |none=>simp[vY]
  |bool b=>cases b<;>simp[vY]
  |int i=>simp[vY,iK,j9,Lg]
  |str x=>simp[vY,iK,j9]
  |list ds=>simp[lk]at h
  |tuple ds=>simp[lk]at h
  |dict kv=>simp[lk]at h
 |succ n ih=>
  intro d h;show mQ 4 (IV (oU (n+1))) M [d,d]=_;unfold IV;cases d with
  |none=>simp[vY]
  |bool b=>cases b<;>simp[vY]
  |int i=>simp[vY,iK,j9,Lg]
  |str x=>simp[vY,iK,j9]
  |list ds=>
   rw[lk,tM]at h;obtain⟨x2',x3',e⟩:=Ma M (oU (n+1)) (some (.dat (.list ds))) (some (.dat (.list ds))) ds none none λd hd=>ih d (h d hd);simp[vY,iK,j9,zip_self,e]
  |tuple ds=>
   rw[lk,tM]at h;obtain⟨x2',x3',e⟩:=Ma M (oU (n+1)) (some (.dat (.tuple ds))) (some (.dat (.tuple ds))) ds none none λd hd=>ih d (h d hd);simp[vY,iK,j9,zip_self,e]
  |dict kv=>simp[lk]at h
inductive En where
 |torn (p:Nat)|cut (e:List Int)|sold (o:Int) (e:List Int)|moved (g:Int)|followed (o g:Int)|passed (o:Int)|died
def En.dat:En->Dat
 |.torn p=>.tuple [.str "torn",.int p]
 |.cut e=>.tuple [.str "cut",aK e]
 |.sold o e=>.tuple [.str "sold",.int o,aK e]
 |.moved g=>.tuple [.str "moved",.int g]
 |.followed o g=>.tuple [.str "followed",.int o,.int g]
 |.passed o=>.tuple [.str "passed",.int o]
 |.died=>.tuple [.str "died"]
inductive Fi where
 |brought (o g:Int) (e:List Int)|born (m o g:Int)
def Fi.dat:Fi->Dat
 |.brought o g e=>.tuple [.str "brought",.int o,.int g,aK e]
 |.born m o g=>.tuple [.str "born",.int m,.int o,.int g]
structure Sd where
 o:Int
 g:Int
 due:Option (List Int)
 ear:List Int
 al:Bool
def vU:Option (List Int)->Dat
 |none=>.none
 |some e=>aK e
def Sd.dat(s:Sd):Dat:=.tuple [.int s.o,.int s.g,vU s.due,aK s.ear,.bool s.al]
def yg(l:List Int)(p:Nat):List Int:=l.mapIdx λi x=>if i=p then x+1 else x
def go(s:Sd):En->Sd
 |.torn p=>{ s with ear:=yg s.ear p }
 |.cut e=>{ s with due:=some e,ear:=e }
 |.sold o e=>{ s with o:=o,due:=some e,ear:=e }
 |.moved g=>{ s with g:=g }
 |.followed o g=>{ s with o:=o,g:=g }
 |.passed o=>{ s with o:=o }
 |.died=>{ s with al:=false }
def beg:Fi->Sd
 |.brought o g e=>⟨o,g,none,e,true⟩
 |.born _ o g=>⟨o,g,none,[0,0,0,0,0,0],true⟩
theorem agL(M:Mo)(f:Fi):Dm M [f.dat]=.ok (beg f).dat:=by cases f<;>simp[Dm,Ou,Fi.dat,beg,Sd.dat,vU,jX]
theorem aa3(M:Mo)(l:List Int)(p:Nat)(hl:l.length<=1000):yh M [aK l,.int p]=.ok (aK (yg l p)):=by
 unfold yh J9;have c:mU 0 (l.map PyData.int)=(l.mapIdx λi x=>(i,x)).map λ(q:Nat×Int)=>PyData.tuple [.int q.1,.int q.2]:=by unfold mU;rw[List.mapIdx_eq_mapIdx_iff.mpr (λi h=>rfl)];apply ata;intro i;simp;cases l[i]?<;>simp
 have c2:=gJ (tg:=bF [2,3]) (te:=Ud (aW (aA bH (ao 2) (ao 1))) (aA bZ (ao 3) (qC (.int 1))) (aq 3)) (M:=M) (Z:=[some (.dat (aK l)),some (.dat (.int p)),none,none]) (λ(q:Nat×Int)=>PyData.tuple [.int q.1,.int q.2]) (λq=>.int (if q.1=p then q.2+1 else q.2)) (l.mapIdx λi x=>(i,x)) λx _=>⟨[some (.dat (aK l)),some (.dat (.int p)),some (.dat (.int x.1)),some (.dat (.int x.2))],by simp,by
  by_cases h:x.1=p
  .simp[h]
  .have h':¬((x.1:Int)=p):=by omega
   simp[h,h']⟩
 have hl':l.length<=50000:=by omega
 simp[c,c2,hl',yg];apply ata;intro i;simp;cases l[i]?<;>simp
theorem acv(l:List Int)(p:Nat):(yg l p).length=l.length:=by simp[yg]
theorem gone_ok(M:Mo)(s:Sd)(e:En)(hl:s.ear.length<=1000):Br M [s.dat,e.dat]=.ok (go s e).dat:=by have h:=λp=>aa3 M s.ear p hl;cases e<;>simp[Br,Mg,En.dat,go,Sd.dat,vU,h]
abbrev Row3:=Int×Int×List Int
def jo(r:Row3):Dat:=.tuple [.int r.1,.int r.2.1,aK r.2.2]
structure gR where
 fi:Fi
 en:List En
 mo:Int
 sd:Sd
structure aV where
 count:Int
 own:List Int
 al:List Int
 ci:List (List Int)
 held:List Row3
 bs:List gR
structure Lay where
 c:Nat
 g:Nat
 r:Nat
 h:Nat
 bs:List Nat
 fr:List (Nat×Inst)
def aM(L:Lay)(c:aV):Inst:=⟨"Commons",[("owner_count",.dat (.int c.count)),("holders",.dic false (c.own.map λo=>(.int o,.bool true))),("grounds",.dat (ob L.g)),("rights",.dat (ob L.r)),("herd",.dat (ob L.h))]⟩
def dH(n m:Nat)(c:aV):Inst:=⟨"Grounds",[("allowances",.lst n (c.al.map PyData.int)),("circles",.lst m (c.ci.map aK))]⟩
def pA(c:aV):Inst:=⟨"Rights",[("held",.dic true (c.held.map λr=>(jo r,.bool true)))]⟩
def eG(n:Nat)(L:Lay):Inst:=⟨"Herd",[("beasts",.lst n (L.bs.map ob))]⟩
def iB(n:Nat)(b:gR):Inst:=⟨"Beast",[("story",.lst n (b.fi.dat::b.en.map En.dat)),("mother",.dat (.int b.mo)),("owner",.dat (.int b.sd.o)),("ground",.dat (.int b.sd.g)),("due",.dat (vU b.sd.due)),("ear",.dat (aK b.sd.ear)),("alive",.dat (.bool b.sd.al))]⟩
structure At(M:Mo)(L:Lay)(c:aV):Prop where
 hc:M[L.c]?=some (aM L c)
 hg:∃n m,M[L.g]?=some (dH n m c)
 hr:M[L.r]?=some (pA c)
 hh:∃n,M[L.h]?=some (eG n L)
 len:L.bs.length=c.bs.length
 hb:∀(i h:Nat) (b:gR),L.bs[i]?=some h->c.bs[i]?=some b->∃n,M[h]?=some (iB n b)
 nd:(L.c::L.g::L.r::L.h::L.bs).Nodup
 fr:∀p∈L.fr,M[p.1]?=some p.2/\p.1∉L.c::L.g::L.r::L.h::L.bs
section
variable{M:Mo}{L:Lay}{c:aV}(a:At M L c)
include a
theorem abp:qK M [ob L.g]=.ok (.int c.al.length):=by obtain⟨n,m,hg⟩:=a.hg;simp[qK,vh,hg,dH]
theorem ajW(g:Int):wV M [ob L.g,.int g]=.ok (.bool (decide (1<=g/\g<=c.al.length))):=by obtain⟨n,m,hg⟩:=a.hg;have:=abp a;by_cases h:1<=g<;>simp[wV,Cg,hg,dH,this,fU,h]
end
@[simp]theorem aou {α:Type} (l:List α) (n:Nat):atI l (n:Int)=l[n]?:=by
 cases h:l[n]? with
 |some a=>exact atI_nat h
 |none=>
  have hl:=List.getElem?_eq_none_iff.mp h;unfold atI ixN;rw[at5 (by omega),at6 (by omega)];rfl
abbrev Vg(c:aV)(x:Int):Prop:=1<=x/\x<=c.al.length
theorem El{c:aV}{x:Int}(h:Vg c x):∃k:Nat,k<c.al.length/\x=(k:Int)+1:=⟨(x-1).toNat,by omega,by omega⟩
structure dJ(c:aV):Prop where
 len:c.ci.length=c.al.length
 few:c.al.length<=200
 al:∀x∈c.al,0<=x/\x<=9
 mem:∀(k:Nat) (l:List Int),c.ci[k]?=some l->∀y∈l,Vg c y
 own:∀(k:Nat) (l:List Int),c.ci[k]?=some l->(k:Int)+1∈l
 up:∀(k:Nat) (l:List Int),c.ci[k]?=some l->l.Pairwise (· < ·)
 one:∀(k j:Nat) (l:List Int),c.ci[k]?=some l->(j:Int)+1∈l->c.ci[j]?=some l
def bJ(c:aV)(x:Int):List Int:=(c.ci[(x-1).toNat]?).getD []
def Ul(c:aV)(x:Int):Int:=(c.al[(x-1).toNat]?).getD 0
def alA:List Int->Int
 |[]=>0
 |n::ns=>Hj n ns
def roomOf(c:aV)(x:Int):Int:=alA ((bJ c x).map (Ul c))
theorem ae5:∀{l:List Int} {lo hi:Int},l.Pairwise (· < ·)->(∀y∈l,lo<=y/\y<=hi)->(l.length:Int)<=max 0 (hi-lo+1)
 |[],_,_,_,_=>by simp;omega
 |x::l,lo,hi,h,hb=>by
  rw[List.pairwise_cons]at h;have:=ae5 (lo:=x+1) (hi:=hi) h.2 λy hy=>⟨by have:=h.1 y hy;omega,(hb y (asB _ hy)).2⟩;have:=hb x asC;simp;omega
theorem maxD_ints{l:List Int}(h:l≠[]):maxD (.list (l.map PyData.int))=.ok (.int (alA l)):=by
 cases l with
 |nil=>exact absurd rfl h
 |cons n ns=>
  show(match intsOf ((n::ns).map PyData.int) with
   |some (n::ns)=>Out.ok (PyData.int (Hj n ns))
   |_=>Out.bad)=_
  rw[Dd];rfl
theorem dJ.clen{c:aV}(i:dJ c){k:Nat}{l:List Int}(h:c.ci[k]?=some l):l.length<=200:=by have:=ae5 (lo:=1) (hi:=c.al.length) (i.up k l h) λy hy=>i.mem k l h y hy;have:=i.few;omega
section
variable{M:Mo}{L:Lay}{c:aV}(a:At M L c)
include a
theorem xQ(x:Int):vD M [ob L.g,.int x]=if Vg c x then .ok .none else .exc ⟨"NoGround",[]⟩:=by obtain⟨n,m,hg⟩:=a.hg;have:=ajW a x;by_cases h:Vg c x<;>simp[vD,zV,hg,dH,this,zP,h]
theorem LK(x:Int):kJ M [ob L.g,.int x]=if Vg c x then .ok (.int (Ul c x)) else .exc ⟨"NoGround",[]⟩:=by
 obtain⟨n,m,hg⟩:=a.hg;have hn:=xQ a x;by_cases h:Vg c x
 .obtain⟨k,hk,rfl⟩:=El h;rw[at5 h]at hn |-
  simp[kJ,oZ,hg,dH,hn,aG,Ul,hk]
 .rw[at6 h]at hn |-
  simp[kJ,oZ,hg,dH,hn,aG]
theorem wD(i:dJ c)(x:Int):lN M [ob L.g,.int x]=if Vg c x then .ok (lI (bJ c x)) else .exc ⟨"NoGround",[]⟩:=by
 obtain⟨n,m,hg⟩:=a.hg;have hn:=xQ a x;by_cases h:Vg c x
 .obtain⟨k,hk,rfl⟩:=El h;have hk':k<c.ci.length:=by rw[i.len];exact hk
  rw[at5 h]at hn |-
  simp[lN,pQ,hg,dH,hn,aG,bJ,hk']
 .rw[at6 h]at hn |-
  simp[lN,pQ,hg,dH,hn,aG]
theorem ah6(i:dJ c)(x:Int):qR M [ob L.g,.int x]=if Vg c x then .ok (.int (roomOf c x)) else .exc ⟨"NoGround",[]⟩:=by
 obtain⟨n,m,hg⟩:=a.hg;have hn:=wD a i x;by_cases h:Vg c x
 .rw[at5 h]at hn |-
  obtain⟨k,hk,rfl⟩:=El h;have hk':k<c.ci.length:=by rw[i.len];exact hk
  have hc:c.ci[k]?=some (bJ c ((k:Int)+1)):=by simp[bJ,hk']
  unfold roomOf;generalize bJ c ((k:Int)+1)=l at hc hn |-
  have hl:l.length<=50000:=by have:=i.clen hc;omega
  have hne:l.map (Ul c)≠[]:=λz=>by
   have:=i.own k l hc;rw[List.map_eq_nil_iff.mp z]at this;cases this
  have key:=gJ (tg:=aF 2) (te:=aX eV (ao 0) (ak (aq 2) au)) (M:=M) (Z:=[some (.dat (ob L.g)),some (.dat (.int ((k:Int)+1))),none]) PyData.int (λy=>.int (Ul c y)) l λy hy=>⟨[some (.dat (ob L.g)),some (.dat (.int ((k:Int)+1))),some (.dat (.int y))],by simp,by
   have:=LK a y;rw[at5 (i.mem k l hc y hy)]at this;simp[hg,dH,eV,this]⟩
  simp[qR,vJ,hg,dH,hn,bG,key,hl];have:=maxD_ints hne;rw[atd]at this;simp[as4]at this |-
  simp[this]
 .rw[at6 h]at hn |-
  simp[qR,vJ,hg,dH,hn,bG]
end
theorem bK{M:Mo}{h k:Nat}{i j:Inst}(hm:M[h]?=some j):(M.set h i)[k]?=if h=k then some i else M[k]?:=by
 have hl:h<M.length:=(asx.mp hm).1;rw[atx];by_cases e:h=k
 .subst e;rw[at5 rfl,at5 hl,at5 rfl]
 .rw[at6 e,at6 e]
theorem At.neq{M:Mo}{L:Lay}{c:aV}(a:At M L c):L.c≠L.g/\L.c≠L.r/\L.c≠L.h/\L.g≠L.r/\L.g≠L.h/\L.r≠L.h/\(∀x∈L.bs,L.c≠x/\L.g≠x/\L.r≠x/\L.h≠x)/\L.bs.Nodup:=by have nd:=a.nd;simp only[atO,asN,not_or]at nd;obtain⟨⟨n1,n2,n3,n4⟩,⟨n5,n6,n7⟩,⟨n8,n9⟩,n10,n11⟩:=nd;exact⟨n1,n2,n3,n5,n6,n8,λx hx=>⟨λz=>n4 (z ▸ hx),λz=>n7 (z ▸ hx),λz=>n9 (z ▸ hx),λz=>n10 (z ▸ hx)⟩,n11⟩
theorem At.frS{M:Mo}{L:Lay}{c:aV}(a:At M L c){h:Nat}{i j:Inst}(hm:M[h]?=some j)(hh:h∈L.c::L.g::L.r::L.h::L.bs):∀p∈L.fr,(M.set h i)[p.1]?=some p.2/\p.1∉L.c::L.g::L.r::L.h::L.bs:=λp hp=>by
 obtain⟨h1,h2⟩:=a.fr p hp;refine⟨?_,h2⟩;rw[bK hm,at6 (λ(z:h=p.1)=>h2 (z ▸ hh))];exact h1
theorem At.setG{M:Mo}{L:Lay}{c:aV}(a:At M L c){al:List Int}{ci:List (List Int)}{n m:Nat}:At (M.set L.g (dH n m { c with al:=al,ci:=ci })) L { c with al:=al,ci:=ci }:=by
 obtain⟨n',m',hg⟩:=a.hg;obtain⟨e1,e2,e3,e4,e5,e6,e7,e8⟩:=a.neq;have e1':=Ne.symm e1;refine⟨?_,⟨n,m,?_⟩,?_,?_,a.len,λi h b h1 h2=>?_,a.nd,a.frS hg (by simp)⟩
 .rw[bK hg,at6 e1'];exact a.hc
 .rw[bK hg,at5 rfl]
 .rw[bK hg,at6 e4];exact a.hr
 .rw[bK hg,at6 e5];exact a.hh
 .rw[bK hg,at6 (e7 h (asH h1)).2.1];exact a.hb i h b h1 h2
theorem At.agU{M:Mo}{L:Lay}{c:aV}(a:At M L c){held:List Row3}:At (M.set L.r (pA { c with held:=held })) L { c with held:=held }:=by
 obtain⟨e1,e2,e3,e4,e5,e6,e7,e8⟩:=a.neq;have e2':=Ne.symm e2;have e4':=Ne.symm e4;have hr:=a.hr;refine⟨?_,?_,?_,?_,a.len,λi h b h1 h2=>?_,a.nd,a.frS hr (by simp)⟩
 .rw[bK hr,at6 e2'];exact a.hc
 .rw[bK hr,at6 e4'];exact a.hg
 .rw[bK hr,at5 rfl]
 .rw[bK hr,at6 e6];exact a.hh
 .rw[bK hr,at6 (e7 h (asH h1)).2.2.1];exact a.hb i h b h1 h2
theorem At.setC{M:Mo}{L:Lay}{c:aV}(a:At M L c){n:Int}{own:List Int}:At (M.set L.c (aM L { c with count:=n,own:=own })) L { c with count:=n,own:=own }:=by
 obtain⟨e1,e2,e3,e4,e5,e6,e7,e8⟩:=a.neq;have hc:=a.hc;refine⟨?_,?_,?_,?_,a.len,λi h b h1 h2=>?_,a.nd,a.frS hc (by simp)⟩
 .rw[bK hc,at5 rfl]
 .rw[bK hc,at6 e1];exact a.hg
 .rw[bK hc,at6 e2];exact a.hr
 .rw[bK hc,at6 e3];exact a.hh
 .rw[bK hc,at6 (e7 h (asH h1)).1];exact a.hb i h b h1 h2
theorem At.setB{M:Mo}{L:Lay}{c:aV}(a:At M L c){k h n:Nat}{b':gR}(hk:L.bs[k]?=some h):At (M.set h (iB n b')) L { c with bs:=c.bs.set k b' }:=by
 obtain⟨e1,e2,e3,e4,e5,e6,e7,e8⟩:=a.neq;have hl:k<c.bs.length:=by rw[<-a.len];exact(asx.mp hk).1
 obtain⟨n0,hb⟩:=a.hb k h _ hk (asz hl);obtain⟨q1,q2,q3,q4⟩:=e7 h (asH hk);refine⟨?_,?_,?_,?_,by simp[a.len],λi h2 b h3 h4=>?_,a.nd,a.frS hb (by simp[asH hk])⟩
 .rw[bK hb,at6 (Ne.symm q1)];exact a.hc
 .rw[bK hb,at6 (Ne.symm q2)];exact a.hg
 .rw[bK hb,at6 (Ne.symm q3)];exact a.hr
 .rw[bK hb,at6 (Ne.symm q4)];exact a.hh
 .by_cases e:i=k
  .subst e;rw[hk]at h3;cases h3;have h4:(c.bs.set i b')[i]?=some b:=h4;rw[asT hl]at h4;cases h4;exact⟨n,by rw[bK hb,at5 rfl]⟩
  .have h4:(c.bs.set k b')[i]?=some b:=h4;rw[asI (Ne.symm e)]at h4;have ne:h≠h2:=λz=>by
    subst z;exact e ((List.getElem?_inj (asx.mp h3).1 e8).mp (h3.trans hk.symm))
   rw[bK hb,at6 ne];exact a.hb i h2 b h3 h4
theorem At.aoU{M:Mo}{L:Lay}{c:aV}(a:At M L c){M2:Mo}{h n n2:Nat}{b:gR}(hh:M.length<=h)(hM:∀k,k<M.length->M2[k]?=M[k]?)(hb:M2[h]?=some (iB n b)):At (M2.set L.h (eG n2 { L with bs:=L.bs++[h] })) { L with bs:=L.bs++[h] } { c with bs:=c.bs++[b] }:=by
 obtain⟨e1,e2,e3,e4,e5,e6,e7,e8⟩:=a.neq;have lt:∀{k:Nat} {i:Inst},M[k]?=some i->k<M.length:=λz=>(asx.mp z).1;obtain⟨n0,m0,hg⟩:=a.hg;obtain⟨n1,hh1⟩:=a.hh;have l1:=lt a.hc;have l2:=lt hg;have l3:=lt a.hr;have l4:=lt hh1;have lb:∀x∈L.bs,x<M.length:=λx hx=>by
  obtain⟨i,hi,e⟩:=List.mem_iff_getElem.mp hx;obtain⟨n',z⟩:=a.hb i x _ (by rw[asz hi,e]) (asz (by rw[<-a.len];exact hi));exact lt z
 have g4:M2[L.h]?=some (eG n1 L):=by rw[hM _ l4];exact hh1
 refine⟨?_,⟨n0,m0,?_⟩,?_,⟨n2,?_⟩,by simp[a.len],λi h2 b2 h3 h4=>?_,?_,λp hp=>?_⟩
 .show(M2.set L.h _)[L.c]?=_
  rw[bK g4,at6 (Ne.symm e3),hM _ l1];exact a.hc
 .show(M2.set L.h _)[L.g]?=_
  rw[bK g4,at6 (Ne.symm e5),hM _ l2];exact hg
 .show(M2.set L.h _)[L.r]?=_
  rw[bK g4,at6 (Ne.symm e6),hM _ l3];exact a.hr
 .show(M2.set L.h _)[L.h]?=_
  rw[bK g4,at5 rfl]
 .have h3:(L.bs++[h])[i]?=some h2:=h3;have h4:(c.bs++[b])[i]?=some b2:=h4;by_cases hi:i<L.bs.length
  .rw[asM hi]at h3;rw[asM (by rw[<-a.len];exact hi)]at h4;have m:=asH h3;rw[bK g4,at6 (e7 h2 m).2.2.2,hM _ (lb h2 m)];exact a.hb i h2 b2 h3 h4
  .rw[asU (by omega)]at h3;rw[asU (by rw[<-a.len];omega),<-a.len]at h4;have e0:i-L.bs.length=0:=by
    have:=(asx.mp h3).1;simp at this;omega
   rw[e0]at h3 h4;cases h3;cases h4;exact⟨n,by rw[bK g4,at6 (by omega)];exact hb⟩
 .have nd:=a.nd
  show(L.c::L.g::L.r::L.h::(L.bs++[h])).Nodup
  have:(L.c::L.g::L.r::L.h::(L.bs++[h]))=(L.c::L.g::L.r::L.h::L.bs)++[h]:=by simp
  rw[this,ato];refine⟨nd,by simp,λx hx y hy=>?_⟩;rw[asF.mp hy];rcases asN.mp hx with rfl|hx
  .omega
  rcases asN.mp hx with rfl|hx
  .omega
  rcases asN.mp hx with rfl|hx
  .omega
  rcases asN.mp hx with rfl|hx
  .omega
  have:=lb x hx;omega
 .obtain⟨h1,h2⟩:=a.fr p hp;have hl:=lt h1;refine⟨?_,?_⟩
  .show(M2.set L.h _)[p.1]?=_
   rw[bK g4,at6 (λ(z:L.h=p.1)=>h2 (by simp[<-z])),hM _ hl];exact h1
  .show p.1∉L.c::L.g::L.r::L.h::(L.bs++[h]);intro z;have:p.1∈(L.c::L.g::L.r::L.h::L.bs)++[h]:=by simpa using z
   rcases asR.mp this with z|z
   .exact h2 z
   .rw[asF]at z;omega
section
variable{M:Mo}{L:Lay}{c:aV}(a:At M L c)
include a
theorem XJ(i:dJ c)(hf:c.al.length<200)(x:Int):if 0<=x/\x<=9 then ∃M',fW M [ob L.g,.int x]=.ok (.int (c.al.length+1)) M'/\At M' L { c with al:=c.al++[x],ci:=c.ci++[[(c.al.length:Int)+1]] } else fW M [ob L.g,.int x]=.exc ⟨"BadAllowance",[]⟩ M:=by
 obtain⟨n,m,hg⟩:=a.hg;have hl:∀i,(M.set L.g i)[L.g]?=some i:=λi=>by rw[bK hg,at5 rfl]
 by_cases h:0<=x/\x<=9
 .rw[at5 h];refine⟨_,?_,a.setG (n:=n) (m:=m)⟩;have h2:c.ci.length<100000:=by rw[i.len];omega
  have h3:c.al.length<100000:=by omega
  simp[fW,jW,qK,vh,fU,hg,dH,hl,h,iI,h2,h3];rfl
 .rw[at6 h];have:decide (0<=x)=true->decide (x<=9)=false:=by simp;omega
  by_cases h0:0<=x
  .have h9:¬x<=9:=by omega
   simp[fW,jW,iI,h0,h9]
  .simp[fW,jW,iI,h0]
end
def encl(ci:List (List Int))(l:List Int):List (List Int):=l.foldl (λs y=>s.set (y-1).toNat l) ci
theorem zu(l:List Int):∀(k:List Int) (ci:List (List Int)),(k.foldl (λs y=>s.set (y-1).toNat l) ci).length=ci.length
 |[],_=>rfl
 |y::k,ci=>by rw[atG,zu l k];simp
@[simp]theorem aoA (n k:Nat):ixN n (k:Int)=if k<n then some k else none:=by
 unfold ixN;rw[at5 (by omega)];by_cases h:k<n
 .rw[at5 (by omega),at5 h];simp
 .rw[at6 (by omega),at6 h]
section
variable{M:Mo}{L:Lay}{c:aV}{n m:Nat}(hg:M[L.g]?=some (dH n m c))
include hg
theorem V7(l:List Int):∀(k:List Int) (s:List (List Int)) (o:Option Cell),(∀y∈k,1<=y/\y<=s.length)->
  ∃o',eO (aF 3) uo (k.map PyData.int) (M.set L.g (dH n m { c with ci:=s })) [some (.dat (ob L.g)),some (.dat (lI l)),some (.dat (aK l)),o]=.next [some (.dat (ob L.g)),some (.dat (lI l)),some (.dat (aK l)),o'] (M.set L.g (dH n m { c with ci:=k.foldl (λs y=>s.set (y-1).toNat l) s }))
 |[],s,o,_=>⟨o,rfl⟩
 |y::k,s,o,h=>by
  have hl:∀i,(M.set L.g i)[L.g]?=some i:=λi=>by rw[bK hg,at5 rfl]
  obtain⟨j,hj,rfl⟩:∃j:Nat,j<s.length/\y=(j:Int)+1:=⟨(y-1).toNat,by have:=h y asC;omega,by have:=h y asC;omega⟩;obtain⟨o',ih⟩:=V7 l k (s.set j l) (some (.dat (.int ((j:Int)+1)))) λz hz=>by
   have:=h z (asB _ hz);simpa using this
  refine⟨o',?_⟩;rw[asy,jh (Z1:=[some (.dat (ob L.g)),some (.dat (lI l)),some (.dat (aK l)),some (.dat (.int ((j:Int)+1)))]) (M2:=M.set L.g (dH n m { c with ci:=s.set j l })) (Z2:=[some (.dat (ob L.g)),some (.dat (lI l)),some (.dat (aK l)),some (.dat (.int ((j:Int)+1)))]) (by simp) (by simp[uo,hl,dH,hj,List.map_set]),ih];simp
end
theorem aaq{M:Mo}{h:Nat}{i:Inst}(e:M[h]?=some i):M.set h i=M:=by
 apply ata;intro k;rw[bK e];split
 .next z=>rw[<-z,e]
 .rfl
section
variable{M:Mo}{L:Lay}{c:aV}(a:At M L c)
include a
theorem Ko(l:List Int)(h:∀y∈l,1<=y/\y<=c.ci.length):∃M',ni M [ob L.g,lI l]=.ok (lI l) M'/\At M' L { c with ci:=encl c.ci l }:=by obtain⟨n,m,hg⟩:=a.hg;obtain⟨o',key⟩:=V7 hg l l c.ci none h;have e:(dH n m { c with ci:=c.ci })=dH n m c:=rfl;rw[e,aaq hg]at key;refine⟨_,?_,a.setG (n:=n) (m:=m) (al:=c.al)⟩;simp[ni,vZ,key,encl]
end
theorem any_ints(y:Int)(l:List Int):((l.map PyData.int).any λd=>PyData.eqv d (.int y))=decide (y∈l):=by
 induction l with
 |nil=>simp
 |cons x l ih=>
  rw[asy,aty,ih,aaH];by_cases h:x=y
  .simp[h]
  .have:¬y=x:=λz=>h z.symm;simp[h,this]
theorem Jf(neg:Bool)(y:Int)(l:List Int):inD neg (.int y) (lI l)=.ok (.bool (neg ^^ decide (y∈l))):=by
 show(Out.when (okd 12 (.int y)&&nH 12 (l.map PyData.int)) (.ok ((l.map PyData.int).any λz=>PyData.eqv z (.int y)))).bind _=_
 rw[any_ints,aji,Xb];rfl
section
variable{M:Mo}{L:Lay}{c:aV}(a:At M L c)
include a
theorem adw(i:dJ c)(x y:Int)(hx:Vg c x)(hy:Vg c y):if y∈bJ c x then jY M [ob L.g,.int x,.int y]=.exc ⟨"Together",[]⟩ M else
  ∃M',jY M [ob L.g,.int x,.int y]=.ok (lI (sortI (bJ c x++bJ c y))) M'/\At M' L { c with ci:=encl c.ci (sortI (bJ c x++bJ c y)) }:=by
 have t1:=wD a i x;have t2:=wD a i y;rw[at5 hx]at t1;rw[at5 hy]at t2;obtain⟨n,m,hg⟩:=a.hg;have hcx:c.ci[(x-1).toNat]?=some (bJ c x):=by
  obtain⟨k,hk,rfl⟩:=El hx;have hk':k<c.ci.length:=by rw[i.len];exact hk
  simp[bJ,hk']
 have hcy:c.ci[(y-1).toNat]?=some (bJ c y):=by
  obtain⟨k,hk,rfl⟩:=El hy;have hk':k<c.ci.length:=by rw[i.len];exact hk
  simp[bJ,hk']
 by_cases h:y∈bJ c x
 .rw[at5 h];simp[jY,uw,hg,dH,bG,t1,t2,Jf,h]
 .rw[at6 h];have hm:∀z∈sortI (bJ c x++bJ c y),1<=z/\z<=c.ci.length:=λz hz=>by
   unfold sortI at hz;rw[List.mem_mergeSort,asR]at hz;rw[i.len];rcases hz with hz|hz
   .exact i.mem _ _ hcx z hz
   .exact i.mem _ _ hcy z hz
  obtain⟨M',h1,h2⟩:=Ko a _ hm;refine⟨M',?_,h2⟩;have l1:=i.clen hcx;have l2:=i.clen hcy;have hs:JN (lI (bJ c x++bJ c y))=.ok (lI (sortI (bJ c x++bJ c y))):=by
   show(match intsOf ((bJ c x++bJ c y).map PyData.int) with
    |some l=>Out.ok (PyData.list ((sortI l).map PyData.int))
    |none=>_)=_
   rw[Dd]
  have hz:(bJ c x).length+(bJ c y).length<=100000:=by omega
  have hs:JN (.list ((bJ c x).map PyData.int++(bJ c y).map PyData.int))=.ok (lI (sortI (bJ c x++bJ c y))):=by rw[<-as8];exact hs
  simp[jY,uw,hg,dH,bG,iw,t1,t2,Jf,h,hz,hs,h1]
theorem adC(i:dJ c)(x:Int):if Vg c x then(if (bJ c x).filter (λy=>!(y==x))=[] then iH M [ob L.g,.int x]=.exc ⟨"Alone",[]⟩ M else
  ∃M',iH M [ob L.g,.int x]=.ok (lI ((bJ c x).filter (λy=>!(y==x)))) M'/\At M' L { c with ci:=encl (encl c.ci [x]) ((bJ c x).filter (λy=>!(y==x))) }) else iH M [ob L.g,.int x]=.exc ⟨"NoGround",[]⟩ M:=by
 have t1:=wD a i x;obtain⟨n,m,hg⟩:=a.hg;by_cases hx:Vg c x
 .rw[at5 hx]at t1 |-
  have hcx:c.ci[(x-1).toNat]?=some (bJ c x):=by
   obtain⟨k,hk,rfl⟩:=El hx;have hk':k<c.ci.length:=by rw[i.len];exact hk
   simp[bJ,hk']
  have hl:(bJ c x).length<=50000:=by have:=i.clen hcx;omega
  have key:=jf (tg:=aF 3) (tt:=aW (aA Aq (ao 3) (ao 1))) (te:=aq 3) (M:=M) (Z:=[some (.dat (ob L.g)),some (.dat (.int x)),none,none]) PyData.int (λy=>!(y==x)) PyData.int (bJ c x) λy _=>⟨[some (.dat (ob L.g)),some (.dat (.int x)),none,some (.dat (.int y))],by simp,by simp,λ_=>by simp⟩;by_cases he:(bJ c x).filter (λy=>!(y==x))=[]
  .rw[at5 he];rw[he]at key;simp only[atA]at key;simp[iH,qN,hg,dH,bG,t1,key,hl]
  .rw[at6 he];generalize hL:(bJ c x).filter (λy=>!(y==x))=left at he key;have hm:∀z∈left,1<=z/\z<=(encl c.ci [x]).length:=λz hz=>by
    rw[<-hL,as3]at hz;unfold encl;rw[zu,i.len];exact i.mem _ _ hcx z hz.1
   obtain⟨M1,h1,a1⟩:=Ko a [x] (λz hz=>by rw[asF.mp hz,i.len];exact hx);obtain⟨M2,h2,a2⟩:=Ko a1 left hm;refine⟨M2,?_,a2⟩;obtain⟨n1,m1,hg1⟩:=a1.hg;have h1:ni M [ob L.g,.list [.int x]]=.ok (.list [.int x]) M1:=h1;have he':left.isEmpty=false:=by cases left with
    |nil=>exact absurd rfl he
    |cons _ _=>rfl
   simp[iH,qN,hg,hg1,dH,bG,iw,t1,key,hl,h1,h2,he']
 .rw[at6 hx]at t1 |-
  simp[iH,qN,hg,dH,bG,t1]
end
theorem ajn(o g:Int)(m:List Int)(o' g':Int)(m':List Int):PyData.eqv (jo (o,g,m)) (jo (o',g',m'))=decide ((o,g,m)=(o',g',m')):=by simp only[jo,ZR,abB,aaH,Ag,ah5,Bool.and_true];by_cases h1:o=o'<;>by_cases h2:g=g'<;>by_cases h3:m=m'<;>simp[h1,h2,h3]
theorem afi(r s:Row3):PyData.eqv (jo r) (jo s)=decide (r=s):=ajn _ _ _ _ _ _
theorem Wy:∀l:List Int,rW (l.map PyData.int)=some (l.map NestedKey.num)
 |[]=>rfl
 |i::l=>by rw[asy,rW,Wy l];rfl
theorem akV(r:Row3):sE (jo r)=some (.tup [.num r.1,.num r.2.1,.tup (r.2.2.map .num)]):=by simp[jo,sE,rW,Wy]
theorem depth_ints:∀l:List Int,NestedKey.depthAll (l.map NestedKey.num)<=1
 |[]=>by simp[NestedKey.depthAll]
 |i::l=>by
  have:=depth_ints l;simp[NestedKey.depthAll,NestedKey.depth];omega
theorem U7(kvs:List (Dat×Dat))(r:Row3):dhas true kvs (jo r)=.ok (kvs.any λp=>PyData.eqv p.1 (jo r)):=by
 have hk:=akV r;have hd:NestedKey.depth (.tup [.num r.1,.num r.2.1,.tup (r.2.2.map .num)])<=8:=by have:=depth_ints r.2.2;simp[NestedKey.depth,NestedKey.depthAll];omega
 show(match sE (jo r) with
  |some k=>match decide (k.depth<=8) with
   |true=>Out.ok (kvs.any λp=>PyData.eqv p.1 (jo r))
   |false=>.bad
  |none=>.bad)=_
 rw[hk]
 show(match decide (NestedKey.depth (.tup [.num r.1,.num r.2.1,.tup (r.2.2.map .num)])<=8) with
   |true=>Out.ok (kvs.any λp=>PyData.eqv p.1 (jo r))
   |false=>.bad)=_
 rw[decide_eq_true hd]
theorem aaB(held:List Row3)(r:Row3):((held.map λr=>(jo r,PyData.bool true)).any λp=>PyData.eqv p.1 (jo r))=decide (r∈held):=by
 induction held with
 |nil=>simp
 |cons s held ih=>
  rw[asy,aty,ih,afi];by_cases h:s=r
  .simp[h]
  .have:¬r=s:=λz=>h z.symm;simp[h,this]
def bT(c:aV)(o g:Int):List (List Int):=(c.held.filter λr=>(r.1==o)&&(r.2.1==g)).map λr=>r.2.2
section
variable{M:Mo}{L:Lay}{c:aV}(a:At M L c)(few:c.held.length<=50000)
include a few
theorem Ke(o g:Int):vo M [ob L.r,.int o,.int g]=.ok (.list ((bT c o g).map aK)):=by
 have hr:=a.hr;have key:=jf (tg:=bF [3,4,5]) (tt:=lJ (aW (aA bH (ao 3) (ao 1))) (aW (aA bH (ao 4) (ao 2)))) (te:=aq 5) (M:=M) (Z:=[some (.dat (ob L.r)),some (.dat (.int o)),some (.dat (.int g)),none,none,none]) jo (λr=>(r.1==o)&&(r.2.1==g)) (λr=>aK r.2.2) c.held λr _=>⟨[some (.dat (ob L.r)),some (.dat (.int o)),some (.dat (.int g)),some (.dat (.int r.1)),some (.dat (.int r.2.1)),some (.dat (aK r.2.2))],by simp[jo],by
  by_cases h:r.1=o<;>simp[h],λ_=>by simp⟩
 have e:(c.held.map λr=>(jo r,PyData.bool true)).map (·.1)=c.held.map jo:=by simp
 simp[vo,zW,hr,pA,bT];simp[as4,key,few]
theorem aau(o g:Int):pY M [ob L.r,.int o,.int g]=.ok (.bool (decide (bT c o g≠[]))):=by have hr:=a.hr;have h:=Ke a few o g;simp[pY,vf,hr,pA,cQ,h,List.length_pos_iff]
theorem Xr(near:List Int):pq M [ob L.r,lI near]=.ok (.list ((c.held.filter λr=>decide (r.2.1∈near)).map λr=>Ear.rD (r.1,r.2.2))):=by have hr:=a.hr;have key:=jf (tg:=bF [2,3,4]) (tt:=aW (aA (inD false) (ao 3) (ao 1))) (te:=bA (ak (aq 2) (ak (aq 4) au))) (M:=M) (Z:=[some (.dat (ob L.r)),some (.dat (lI near)),none,none,none]) jo (λr=>decide (r.2.1∈near)) (λr=>Ear.rD (r.1,r.2.2)) c.held λr _=>⟨[some (.dat (ob L.r)),some (.dat (lI near)),some (.dat (.int r.1)),some (.dat (.int r.2.1)),some (.dat (aK r.2.2))],by simp[jo],by simp[Jf],λ_=>by simp[Ear.rD,Ear.dT]⟩;simp[pq,tR,hr,pA];simp[as4,key,few]
theorem aaM:qD M [ob L.r]=.ok (.list (c.held.map jo)):=by have hr:=a.hr;simp[qD,v9,hr,pA,as4]
theorem Nq(o g:Int)(m:List Int):if (o,g,m)∈c.held then jF M [ob L.r,.int o,.int g,aK m]=.exc ⟨"HasRight",[]⟩ M else
  ∃M',jF M [ob L.r,.int o,.int g,aK m]=.ok .none M'/\At M' L { c with held:=c.held++[(o,g,m)] }:=by
 have hr:=a.hr;have h1:=U7 (c.held.map λr=>(jo r,PyData.bool true)) (o,g,m);rw[aaB]at h1;simp only[jo]at h1;have f2:c.held.length<100000:=by omega
 by_cases h:(o,g,m)∈c.held
 .rw[at5 h];simp[h]at h1;simp[jF,qm,hr,pA,jo,h1]
 .rw[at6 h];refine⟨_,?_,a.agU⟩;simp[h]at h1;simp[jF,qm,hr,pA,jo,h1,f2]
end
theorem afd(held:List Row3)(r:Row3):((held.map λr=>(jo r,PyData.bool true)).filter λp=>!PyData.eqv p.1 (jo r))=(held.filter λs=>decide (s≠r)).map λr=>(jo r,PyData.bool true):=by
 induction held with
 |nil=>rfl
 |cons s held ih=>
  simp only[asy,atq,afi,ih];by_cases h:s=r<;>simp[h]
def Yc(o g:Int)(k:List (List Int))(s:List Row3):List Row3:=k.foldl (λs mk=>s.filter λr=>decide (r≠(o,g,mk))) s
section
variable{M:Mo}{L:Lay}{c:aV}(hr:M[L.r]?=some (pA c))
include hr
theorem Wm(o g:Int)(all:List (List Int)):∀(k:List (List Int)) (s:List Row3) (x:Option Cell),k.Nodup->(∀mk∈k,(o,g,mk)∈s)->s.length<=50000->
  ∃x',eO (aF 4) yd (k.map aK) (M.set L.r (pA { c with held:=s })) [some (.dat (ob L.r)),some (.dat (.int o)),some (.dat (.int g)),some (.dat (.list (all.map aK))),x]=.next [some (.dat (ob L.r)),some (.dat (.int o)),some (.dat (.int g)),some (.dat (.list (all.map aK))),x'] (M.set L.r (pA { c with held:=Yc o g k s }))
 |[],s,x,_,_,_=>⟨x,rfl⟩
 |mk::k,s,x,nd,h,hf=>by
  have hl:∀i,(M.set L.r i)[L.r]?=some i:=λi=>by rw[bK hr,at5 rfl]
  rw[atO]at nd;have h1:=U7 (s.map λr=>(jo r,PyData.bool true)) (o,g,mk);rw[aaB,decide_eq_true (h mk asC)]at h1;have h2:=afd s (o,g,mk);have f2:s.length<=100000:=by omega
  obtain⟨x',ih⟩:=Wm o g all k (s.filter λr=>decide (r≠(o,g,mk))) (some (.dat (aK mk))) nd.2 (λz hz=>by
   rw[as3];refine⟨h z (asB _ hz),decide_eq_true λe=>?_⟩;have:z=mk:=by simpa using e
   exact nd.1 (this ▸ hz)) (as9 (asW _ _) hf)
  refine⟨x',?_⟩;rw[asy,jh (Z1:=[some (.dat (ob L.r)),some (.dat (.int o)),some (.dat (.int g)),some (.dat (.list (all.map aK))),some (.dat (aK mk))]) (M2:=M.set L.r (pA { c with held:=s.filter λr=>decide (r≠(o,g,mk)) })) (Z2:=[some (.dat (ob L.r)),some (.dat (.int o)),some (.dat (.int g)),some (.dat (.list (all.map aK))),some (.dat (aK mk))]) (by simp) ?_,ih]
  .rfl
  .have h1':dhas true (s.map λr=>(jo r,PyData.bool true)) (.tuple [.int o,.int g,aK mk])=.ok true:=h1;have h2':((s.map λr=>(jo r,PyData.bool true)).filter λp=>!PyData.eqv p.1 (.tuple [.int o,.int g,aK mk]))=(s.filter λs=>decide (s≠(o,g,mk))).map λr=>(jo r,PyData.bool true):=h2;simp[yd,hl,pA,h1',f2];rw[h2'];simp
end
theorem aav(o g:Int):∀(k:List (List Int)) (s:List Row3),Yc o g k s=s.filter λr=>decide (∀mk∈k,r≠(o,g,mk))
 |[],s=>(List.filter_eq_self.mpr (by simp)).symm
 |mk::k,s=>by
  show Yc o g k (s.filter _)=_;rw[aav o g k,atH];congr 1;funext r;by_cases h1:r=(o,g,mk)<;>simp[h1]
def dropped(c:aV)(o g:Int):List Row3:=c.held.filter λr=>!((r.1==o)&&(r.2.1==g))
theorem ac6(c:aV)(o g:Int):Yc o g (bT c o g) c.held=dropped c o g:=by
 rw[aav];unfold dropped;refine List.filter_congr λr hr=>?_;obtain⟨x,y,z⟩:=r;by_cases h:x=o/\y=g
 .obtain⟨rfl,rfl⟩:=h;have:z∈bT c x y:=by
   unfold bT;rw[asJ];exact⟨(x,y,z),by rw[as3];exact⟨hr,by simp⟩,rfl⟩
  simp;exact this
 .have e:(!((x==o)&&(y==g)))=true:=by
   by_cases h1:x=o<;>by_cases h2:y=g<;>simp_all
  have e2:∀mk∈bT c o g,(x,y,z)≠(o,g,mk):=λmk _ z=>by
   simp at z;exact h ⟨z.1,z.2.1⟩
  rw[e,decide_eq_true e2]
theorem aa8{c:aV}(h:c.held.Nodup)(o g:Int):(bT c o g).Nodup:=by
 unfold bT;have h1:(c.held.filter λr=>(r.1==o)&&(r.2.1==g)).Nodup:=h.filter _;unfold List.Nodup at h1 |-
 rw[List.pairwise_map];refine List.Pairwise.imp_of_mem (λ{r s} hr hs ne e=>ne ?_) h1;rw[as3]at hr hs;obtain⟨r1,r2,r3⟩:=r;obtain⟨s1,s2,s3⟩:=s;have:=hr.2;have:=hs.2;simp at *;obtain⟨rfl,rfl⟩:=hr.2;obtain⟨rfl,rfl⟩:=hs.2;exact⟨rfl,rfl,e⟩
section
variable{M:Mo}{L:Lay}{c:aV}(a:At M L c)(few:c.held.length<=50000)(nd:c.held.Nodup)
include a few nd
theorem ahW(o g:Int):if bT c o g=[] then pG M [ob L.r,.int o,.int g]=.exc ⟨"NoRight",[]⟩ M else
  ∃M',pG M [ob L.r,.int o,.int g]=.ok (.list ((bT c o g).map aK)) M'/\At M' L { c with held:=dropped c o g }:=by
 have hr:=a.hr;have h1:=Ke a few o g;by_cases h:bT c o g=[]
 .rw[at5 h];rw[h]at h1;simp[pG,wI,hr,pA,cQ,h1]
 .rw[at6 h];obtain⟨x',key⟩:=Wm hr o g (bT c o g) (bT c o g) c.held none (aa8 nd o g) (λmk hm=>by
   unfold bT at hm;rw[asJ]at hm;obtain⟨⟨r1,r2,r3⟩,h3,rfl⟩:=hm;rw[as3]at h3;have:=h3.2;simp at this;obtain⟨rfl,rfl⟩:=this;exact h3.1) few
  have e:(pA { c with held:=c.held })=pA c:=rfl;rw[e,aaq hr,ac6]at key;refine⟨_,?_,a.agU⟩;have he:(bT c o g).isEmpty=false:=by
   cases hm:bT c o g with
   |nil=>exact absurd hm h
   |cons _ _=>rfl
  simp[pG,wI,hr,pA,cQ,h1,he];simp[key];rfl
end
def Hh(acc:List Row3)(r:Row3):List Row3:=if r∈acc then acc else acc++[r]
def CG(e h:Int)(r:Row3):Row3:=(if r.1=e then h else r.1,r.2.1,r.2.2)
def handed(c:aV)(e h:Int):List Row3:=(c.held.map (CG e h)).foldl Hh []
theorem abD{tg:gH}{tk:QF}{M:Mo}{Z:Rf.Env}(f:Row3->Row3):∀(xs acc:List Row3),(∀x∈xs,∃Z1,tg (jo x) Z=some Z1/\tk M Z1=.ok (jo (f x)))->Gg tg tk M Z (xs.map jo) (acc.map λr=>(jo r,PyData.bool true))=.ok (((xs.map f).foldl Hh acc).map λr=>(jo r,PyData.bool true))
 |[],acc,_=>rfl
 |x::xs,acc,h=>by
  obtain⟨Z1,h1,h2⟩:=h x asC;rw[asy,Gg,h1]
  show((yX (tk M Z1)).bind λkd=>(dhas true _ kd).bind λr=>_)=_
  rw[h2,aag,Out.zm,U7,aaB,Out.zm,asy,atG];have ih:=abD f xs (Hh acc (f x)) λy hy=>h y (asB _ hy);unfold Hh at ih |-
  by_cases hm:f x∈acc
  .rw[at5 hm]at ih |-
   rw[decide_eq_true hm];exact ih
  .rw[at6 hm]at ih |-
   rw[decide_eq_false hm];rw[as8]at ih;exact ih
section
variable{M:Mo}{L:Lay}{c:aV}(a:At M L c)(few:c.held.length<=50000)
include a few
theorem Zd(e h:Int):∃M',pW M [ob L.r,.int e,.int h]=.ok .none M'/\At M' L { c with held:=handed c e h }:=by
 have hr:=a.hr;have hl:L.r<M.length:=(asx.mp hr).1;have hr2:(M++[(⟨"",[]⟩:Inst)])[L.r]?=some (pA c):=by rw[asM hl];exact hr
 have key:=abD (tg:=bF [3,4,5]) (tk:=bA (ak (Ud (aW (aA bH (ao 3) (ao 1))) (aq 2) (aq 3)) (ak (aq 4) (ak (aq 5) au)))) (M:=M) (Z:=[some (.dat (ob L.r)),some (.dat (.int e)),some (.dat (.int h)),none,none,none]) (CG e h) c.held [] λr _=>⟨[some (.dat (ob L.r)),some (.dat (.int e)),some (.dat (.int h)),some (.dat (.int r.1)),some (.dat (.int r.2.1)),some (.dat (aK r.2.2))],by simp[jo],by
  by_cases z:r.1=e<;>simp[z,CG,jo]⟩
 have ex:At (M++[⟨"",[]⟩]) L c:=by
  have lt:∀{k:Nat} {i:Inst},M[k]?=some i->(M++[(⟨"",[]⟩:Inst)])[k]?=some i:=λz=>by rw[asM (asx.mp z).1];exact z
  obtain⟨n,m,hg⟩:=a.hg;obtain⟨n1,hh⟩:=a.hh;exact⟨lt a.hc,⟨n,m,lt hg⟩,lt a.hr,⟨n1,lt hh⟩,a.len,λi h b h1 h2=>by
   obtain⟨n2,z⟩:=a.hb i h b h1 h2;exact⟨n2,lt z⟩,a.nd,λp hp=>⟨lt (a.fr p hp).1,(a.fr p hp).2⟩⟩
 refine⟨_,?_,ex.agU⟩;simp only[atA]at key;simp[pW,u9,hr,hr2,pA,lF];simp[as4,key,few,handed]
end
@[simp]theorem aqp (n:Nat) (b:gR):(iB n b).cls="Beast":=rfl
theorem aaP{M:Mo}{h n:Nat}{b:gR}(hb:M[h]?=some (iB n b))(s:Sd):oV M [ob h,s.dat]=.ok .none (M.set h (iB n { b with sd:=s })):=by
 have hl:∀i,(M.set h i)[h]?=some i:=λi=>by rw[bK hb,at5 rfl]
 simp[oV,rZ,Sd.dat,hb,iB,hl,lF]
theorem Zb{M:Mo}{h n:Nat}{b:gR}(hb:M[h]?=some (iB n b)):wM M [ob h]=.ok b.sd.dat:=by simp[wM,BW,Sd.dat,hb,iB]
theorem uH{M:Mo}{h n:Nat}{b:gR}(hb:M[h]?=some (iB n b))(e:En)(he:b.sd.ear.length<=1000)(hf:b.en.length<=50000):oA M [ob h,e.dat]=.ok .none (M.set h (iB n { b with en:=b.en++[e],sd:=go b.sd e })):=by
 have hl:∀i,(M.set h i)[h]?=some i:=λi=>by rw[bK hb,at5 rfl]
 have h1:(M.set h (iB n { b with en:=b.en++[e] }))[h]?=some (iB n { b with en:=b.en++[e] }):=hl _;have h2:=Zb h1;have h3:=gone_ok (M.set h (iB n { b with en:=b.en++[e] })) b.sd e he;have h4:=aaP h1 (go b.sd e);have h5:b.en.length+1<100000:=by omega
 have e1:M.set h ⟨"Beast",[("story",.lst n (b.fi.dat::(b.en.map En.dat++[e.dat]))),("mother",.dat (.int b.mo)),("owner",.dat (.int b.sd.o)),("ground",.dat (.int b.sd.g)),("due",.dat (vU b.sd.due)),("ear",.dat (aK b.sd.ear)),("alive",.dat (.bool b.sd.al))]⟩=M.set h (iB n { b with en:=b.en++[e] }):=by simp[iB]
 simp[oA,zU,hb,iB,h5];rw[e1];simp[h1,oG,j6,h2,h3,h4];simp[iB]
def aks:Fi->Int
 |.born m _ _=>m
 |_=>0
def GX(f:Fi):gR:=⟨f,[],aks f,beg f⟩
theorem ai7(M:Mo)(f:Fi):uP (M++[⟨"Beast",[]⟩]) [ob M.length,f.dat]=.ok .none (M++[iB (M.length+1) (GX f),⟨"",[]⟩]):=by
 have hbeg:=λM=>agL M f;have hg:∀i (r:List Inst),(M++i::r)[M.length]?=some i:=λi r=>by simp
 have hs:∀i j (r:List Inst),(M++i::r).set M.length j=M++j::r:=λi j r=>by simp
 cases f<;>simp[uP,Em,Fi.dat,hg,hs,lF,oV,rZ,j6,Dm,Ou,jX,iB,GX,aks,beg,vU,Fi.dat]
def cD(L:Lay)(c:aV):List (Nat×Nat×gR):=(L.bs.zip c.bs).mapIdx λi p=>(i,p.1,p.2)
def nb(x:Nat×Nat×gR):Dat:=.tuple [.int ((x.1:Int)+1),ob x.2.1]
theorem Gu{L:Lay}{c:aV}{x:Nat×Nat×gR}(h:x∈cD L c):L.bs[x.1]?=some x.2.1/\c.bs[x.1]?=some x.2.2:=by unfold cD at h;obtain⟨i,hi,e⟩:=List.mem_mapIdx.mp h;have hz:=asz hi;rw[atv]at hz;subst e;exact hz
theorem At.hb'{M:Mo}{L:Lay}{c:aV}(a:At M L c){x:Nat×Nat×gR}(h:x∈cD L c):∃n,M[x.2.1]?=some (iB n x.2.2):=by obtain⟨h1,h2⟩:=Gu h;exact a.hb _ _ _ h1 h2
theorem At.len'{M:Mo}{L:Lay}{c:aV}(a:At M L c):(cD L c).length=c.bs.length:=by unfold cD;simp[a.len]
theorem At.enum{M:Mo}{L:Lay}{c:aV}(a:At M L c):mU 1 (L.bs.map ob)=(cD L c).map nb:=by
 unfold mU cD;apply ata;intro i;simp only[atw,asS];by_cases hi:i<L.bs.length
 .have hi2:i<c.bs.length:=by rw[<-a.len];exact hi
  have hz:(L.bs.zip c.bs)[i]?=some (L.bs[i],c.bs[i]):=by rw[atv];exact⟨asz hi,asz hi2⟩
  rw[hz];simp[hi,nb,Int.add_comm]
 .have hi2:¬i<c.bs.length:=by rw[<-a.len];exact hi
  have:(L.bs.zip c.bs)[i]?=none:=by rw[List.getElem?_eq_none_iff,List.length_zip];omega
  simp[atb (by omega:L.bs.length<=i),this]
section
variable{M:Mo}{L:Lay}{c:aV}(a:At M L c)(few:c.bs.length<=50000)
include a few
theorem BK:qF M [ob L.h]=.ok (.list (((cD L c).filter λx=>x.2.2.sd.al).map nb)):=by
 obtain⟨n,hh⟩:=a.hh;have hl:=a.len';have he:=a.enum;have key:=jf (tg:=bF [1,2]) (tt:=iJ (bM "alive" (ao 2))) (te:=bA (ak (aq 1) (ak (aq 2) au))) (M:=M) (Z:=[some (.dat (ob L.h)),none,none]) nb (λx=>x.2.2.sd.al) nb (cD L c) λx hx=>⟨[some (.dat (ob L.h)),some (.dat (.int ((x.1:Int)+1))),some (.dat (ob x.2.1))],by simp[nb],by
  obtain⟨n,hb⟩:=a.hb' hx;simp[hb,iB],λ_=>by simp[nb]⟩
 simp[qF,v7,hh,eG];rw[he];simp[key,hl,few]
theorem Ry(near:List Int):qW M [ob L.h,lI near]=.ok (.list (((cD L c).filter λx=>decide (x.2.2.sd.g∈near)&&x.2.2.sd.al).map nb)):=by
 obtain⟨n,hh⟩:=a.hh;have h1:=BK a few;have hl:((cD L c).filter λx=>x.2.2.sd.al).length<=50000:=as9 (asW _ _) (by rw[a.len'];exact few);have key:=jf (tg:=bF [2,3]) (tt:=aW (aA (inD false) (bM "ground" (ao 3)) (ao 1))) (te:=bA (ak (aq 2) (ak (aq 3) au))) (M:=M) (Z:=[some (.dat (ob L.h)),some (.dat (lI near)),none,none]) nb (λx=>decide (x.2.2.sd.g∈near)) nb ((cD L c).filter λx=>x.2.2.sd.al) λx hx=>⟨[some (.dat (ob L.h)),some (.dat (lI near)),some (.dat (.int ((x.1:Int)+1))),some (.dat (ob x.2.1))],by simp[nb],by
  obtain⟨n,hb⟩:=a.hb' (as3.mp hx).1;simp[hb,iB,Jf],λ_=>by simp[nb]⟩
 rw[atH]at key;simp[qW,zG,hh,eG,eY,h1,key,hl]
theorem agu(o:Int):yc M [ob L.h,.int o]=.ok (.list (((cD L c).filter λx=>(x.2.2.sd.o==o)&&x.2.2.sd.al).map nb)):=by
 obtain⟨n,hh⟩:=a.hh;have h1:=BK a few;have hl:((cD L c).filter λx=>x.2.2.sd.al).length<=50000:=as9 (asW _ _) (by rw[a.len'];exact few);have key:=jf (tg:=bF [2,3]) (tt:=aW (aA bH (bM "owner" (ao 3)) (ao 1))) (te:=bA (ak (aq 2) (ak (aq 3) au))) (M:=M) (Z:=[some (.dat (ob L.h)),some (.dat (.int o)),none,none]) nb (λx=>x.2.2.sd.o==o) nb ((cD L c).filter λx=>x.2.2.sd.al) λx hx=>⟨[some (.dat (ob L.h)),some (.dat (.int o)),some (.dat (.int ((x.1:Int)+1))),some (.dat (ob x.2.1))],by simp[nb],by
  obtain⟨n,hb⟩:=a.hb' (as3.mp hx).1;simp[hb,iB],λ_=>by simp[nb]⟩
 rw[atH]at key;simp[yc,Eo,hh,eG,eY,h1,key,hl]
theorem ZS(k:Int):lM M [ob L.h,.int k]=if 1<=k/\k<=c.bs.length then .ok (ob ((L.bs[(k-1).toNat]?).getD 0)) else .exc ⟨"NoBeast",[]⟩:=by
 obtain⟨n,hh⟩:=a.hh;have hlen:(L.bs.length:Int)=c.bs.length:=by rw[a.len]
 by_cases h:1<=k/\k<=c.bs.length
 .rw[at5 h];obtain⟨j,rfl⟩:∃j:Nat,k=(j:Int)+1:=⟨(k-1).toNat,by omega⟩;have hj:j<L.bs.length:=by have:=a.len;omega
  have h1:(1:Int)<=j+1:=by omega
  have h2:(j:Int)+1<=L.bs.length:=by omega
  simp[lM,uN,hh,eG,h1,h2,hj]
 .rw[at6 h];by_cases h1:1<=k
  .have h2:¬k<=L.bs.length:=by omega
   simp[lM,uN,hh,eG,h1,h2]
  .simp[lM,uN,hh,eG,h1]
end
def bk(c:aV)(k:Int):Option gR:=if 1<=k/\k<=c.bs.length then c.bs[(k-1).toNat]? else none
def hk(L:Lay)(k:Int):Nat:=(L.bs[(k-1).toNat]?).getD 0
def tD(b:gR)(e:En):gR:={ b with en:=b.en++[e],sd:=go b.sd e }
def iG(c:aV)(i:Nat)(e:En):aV:={ c with bs:=c.bs.modify i λb=>tD b e }
theorem tL{M:Mo}{L:Lay}{c:aV}(a:At M L c){k:Int}{b:gR}(h:bk c k=some b):1<=k/\k<=c.bs.length/\L.bs[(k-1).toNat]?=some (hk L k)/\c.bs[(k-1).toNat]?=some b/\∃n,M[hk L k]?=some (iB n b):=by
 unfold bk at h;split at h
 .next hh=>
  have hl:(k-1).toNat<L.bs.length:=by have:=a.len;omega
  have e:L.bs[(k-1).toNat]?=some (hk L k):=by unfold hk;rw[asz hl];rfl
  exact⟨hh.1,hh.2,e,h,a.hb _ _ _ e h⟩
 .cases h
theorem ajt{c:aV}{k:Int}(h:bk c k=none):¬(1<=k/\k<=c.bs.length):=λz=>by
 unfold bk at h;rw[at5 z,List.getElem?_eq_none_iff]at h;omega
section
variable{M:Mo}{L:Lay}{c:aV}(a:At M L c)(few:c.bs.length<=50000)
include a few
theorem JX{k:Int}{b:gR}(h:bk c k=some b):lM M [ob L.h,.int k]=.ok (ob (hk L k)):=by obtain⟨h1,h2,_⟩:=tL a h;rw[ZS a few,at5 ⟨h1,h2⟩];rfl
theorem Rj{k:Int}(h:bk c k=none):lM M [ob L.h,.int k]=.exc ⟨"NoBeast",[]⟩:=by rw[ZS a few,at6 (ajt h)]
theorem FP(k:Int):tG M [ob L.h,.int k]=match bk c k with
  |none=>.exc ⟨"NoBeast",[]⟩
  |some b=>if b.sd.al then .ok (ob (hk L k)) else .exc ⟨"Dead",[]⟩:=by
 obtain⟨n,hh⟩:=a.hh;cases h:bk c k with
 |none=>
  have h1:=Rj a few h;simp[tG,wU,hh,eG,gj,h1]
 |some b=>
  have h1:=JX a few h;obtain⟨_,_,_,_,n',hb⟩:=tL a h;cases h2:b.sd.al<;>simp[tG,wU,hh,eG,gj,h1,hb,iB,h2]
theorem Nf(k:Int):pK M [ob L.h,.int k]=match bk c k with
  |none=>.exc ⟨"NoBeast",[]⟩
  |some b=>if b.sd.al then(if b.sd.due=none then .exc ⟨"Unmarked",[]⟩ else .ok (ob (hk L k))) else .exc ⟨"Dead",[]⟩:=by
 obtain⟨n,hh⟩:=a.hh;have h0:=FP a few k;cases h:bk c k with
 |none=>
  rw[h]at h0;simp[pK,sS,hh,eG,bL,h0]
 |some b=>
  rw[h]at h0;obtain⟨_,_,_,_,n',hb⟩:=tL a h;cases h2:b.sd.al with
  |false=>
   simp[h2]at h0;simp[pK,sS,hh,eG,bL,h0,h2]
  |true=>
   simp[h2]at h0;cases h3:b.sd.due<;>simp[pK,sS,hh,eG,bL,h0,hb,iB,h2,h3,vU,vY]
def Ad(k:Int)(b:gR):Bool:=(b.mo==k)&&b.sd.due.isNone
theorem aeR(k:Int):tH M [ob L.h,.int k]=match bk c k with
  |none=>.exc ⟨"NoBeast",[]⟩
  |some _=>.ok (.list (((cD L c).filter λx=>Ad k x.2.2&&x.2.2.sd.al).map nb)):=by
 obtain⟨n,hh⟩:=a.hh;have h1:=BK a few;have hl:((cD L c).filter λx=>x.2.2.sd.al).length<=50000:=as9 (asW _ _) (by rw[a.len'];exact few);have key:=jf (tg:=bF [2,3]) (tt:=lJ (aW (aA bH (bM "mother" (ao 3)) (ao 1))) (aW (Cv false .none (bM "due" (ao 3))))) (te:=bA (ak (aq 2) (ak (aq 3) au))) (M:=M) (Z:=[some (.dat (ob L.h)),some (.dat (.int k)),none,none]) nb (λx=>Ad k x.2.2) nb ((cD L c).filter λx=>x.2.2.sd.al) λx hx=>⟨[some (.dat (ob L.h)),some (.dat (.int k)),some (.dat (.int ((x.1:Int)+1))),some (.dat (ob x.2.1))],by simp[nb],by
  obtain⟨n,hb⟩:=a.hb' (as3.mp hx).1;by_cases h2:x.2.2.mo=k<;>cases h3:x.2.2.sd.due<;>simp[hb,iB,Ad,h2,h3,vU,vY],λ_=>by simp[nb]⟩
 rw[atH]at key;cases h:bk c k with
 |none=>
  have h2:=Rj a few h;simp[tH,wH,hh,eG,gj,h2]
 |some b=>
  have h2:=JX a few h;simp[tH,wH,hh,eG,gj,eY,h1,h2,key,hl]
theorem Oc(f:Fi)(hf:c.bs.length<50000):∃M' h,rP M [ob L.h,f.dat]=.ok (.int (c.bs.length+1)) M'/\At M' { L with bs:=L.bs++[h] } { c with bs:=c.bs++[GX f] }:=by
 obtain⟨n,hh⟩:=a.hh;have hl:L.h<M.length:=(asx.mp hh).1;have hi:=ai7 M f;have hh2:(M++[iB (M.length+1) (GX f),⟨"",[]⟩])[L.h]?=some (eG n L):=by rw[asM hl];exact hh
 have hs:∀i,((M++[iB (M.length+1) (GX f),(⟨"",[]⟩:Inst)]).set L.h i)[L.h]?=some i:=λi=>by rw[bK hh2,at5 rfl]
 have hz:c.bs.length<100000:=by omega
 refine⟨_,M.length,?_,a.aoU (M2:=M++[iB (M.length+1) (GX f),⟨"",[]⟩]) (n:=M.length+1) (n2:=n) (as6 _) (λk hk=>by rw[asM hk]) (by simp)⟩
 simp[rP,xM,hh,eG,hi,hh2,hs,hz,a.len]
end
theorem zH{M:Mo}{L:Lay}{c:aV}(a:At M L c){i h n:Nat}{b:gR}{e:En}(h1:L.bs[i]?=some h)(h2:c.bs[i]?=some b):At (M.set h (iB n (tD b e))) L (iG c i e):=by
 have:=a.setB (n:=n) (b':=tD b e) h1;have hm:c.bs.modify i (λb=>tD b e)=c.bs.set i (tD b e):=by
  apply ata;intro j;rw[List.getElem?_modify,atx];by_cases hj:i=j
  .subst hj;have hl:=(asx.mp h2).1;simp[hl,h2];have:=(asx.mp h2).2;rw[this]
  .simp[hj]
 unfold iG;rw[hm];exact this
theorem zF(c:aV)(i j:Nat)(e:En):(iG c i e).bs[j]?=if i=j then(c.bs[j]?).map λb=>tD b e else c.bs[j]?:=by unfold iG;simp only[List.getElem?_modify];by_cases h:i=j<;>simp[h]
def wC(xs:List (Nat×Nat×gR))(e:En)(c:aV):aV:=xs.foldl (λc x=>iG c x.1 e) c
theorem Ri{tg:gH}{body:SF}(Q:Rf.Env->Prop)(P:Nat->aV->Prop)(e:En)(L:Lay)(T:Nat):∀(xs:List (Nat×Nat×gR)) (M:Mo) (c:aV) (Z:Rf.Env) (i:Nat),i+xs.length<=T->At M L c->P i c->Q Z->
  (∀M c Z x i,i<T->At M L c->P i c->Q Z->x∈xs->∃Z1 Z2 M2,tg (nb x) Z=some Z1/\body M Z1=.next Z2 M2/\Q Z2/\At M2 L (iG c x.1 e)/\P (i+1) (iG c x.1 e))->
  ∃Z' M',eO tg body (xs.map nb) M Z=.next Z' M'/\Q Z'/\At M' L (wC xs e c)
 |[],M,c,Z,i,_,a,p,q,_=>⟨Z,M,rfl,q,a⟩
 |x::xs,M,c,Z,i,hT,a,p,q,h=>by
  rw[asQ]at hT;obtain⟨Z1,Z2,M2,h1,h2,h3,h4,h5⟩:=h M c Z x i (by omega) a p q asC;obtain⟨Z',M',g1,g2,g3⟩:=Ri Q P e L T xs M2 _ Z2 (i+1) (by omega) h4 h5 h3 λM c Z y i hi a p q hy=>h M c Z y i hi a p q (asB _ hy);exact⟨Z',M',by rw[asy,jh h1 h2];exact g1,g2,g3⟩
structure Oa(n:Nat)(c:aV):Prop where
 ear:∀b∈c.bs,b.sd.ear.length=6
 en:∀b∈c.bs,b.en.length<=n
theorem alQ(s:Sd)(e:En)(he:s.ear.length=6)(h2:match e with|.cut l=>l.length=6|.sold _ l=>l.length=6|_=>True):(go s e).ear.length=6:=by cases e<;>simp_all [go,yg]
theorem Ui(e:En):∀(xs:List (Nat×Nat×gR)) (c:aV) (j:Nat),(xs.map (·.1)).Nodup->(wC xs e c).bs[j]?=if j∈xs.map (·.1) then(c.bs[j]?).map λb=>tD b e else c.bs[j]?
 |[],c,j,_=>by simp[wC]
 |x::xs,c,j,nd=>by
  rw[asy,atO]at nd
  show(wC xs e (iG c x.1 e)).bs[j]?=_
  rw[Ui e xs _ j nd.2,zF];by_cases h1:x.1=j
  .subst h1;rw[at6 nd.1,at5 rfl,at5 (by simp)]
  .rw[at6 h1];by_cases h2:j∈xs.map (·.1)
   .rw[at5 h2,at5 (by rw[asy];exact asB _ h2)]
   .rw[at6 h2,at6 (by
     rw[asy,asN]
     rintro(z|z)
     .exact h1 z.symm
     .exact h2 z)]
theorem Pk(e:En):∀(xs:List (Nat×Nat×gR)) (c:aV),(wC xs e c)={ c with bs:=(wC xs e c).bs }
 |[],_=>rfl
 |x::xs,c=>by
  show wC xs e (iG c x.1 e)={ c with bs:=(wC xs e (iG c x.1 e)).bs };rw[Pk e xs];rfl
theorem aeM{L:Lay}{c:aV}(p:Nat×Nat×gR->Bool):(((cD L c).filter p).map (·.1)).Nodup:=by
 have h:((cD L c).map (·.1)).Nodup:=by
  have e:(cD L c).map (·.1)=List.range (L.bs.zip c.bs).length:=by
   unfold cD;apply ata;intro i;simp only[asS,atw];by_cases hi:i<(L.bs.zip c.bs).length
   .rw[asz hi,List.getElem?_range hi];rfl
   .rw[atb (by omega:(L.bs.zip c.bs).length<=i),atb (by rw[List.length_range];omega:(List.range (L.bs.zip c.bs).length).length<=i)];rfl
  rw[e];exact List.nodup_range
 exact h.sublist (List.Sublist.map _ List.filter_sublist)
def qG(p:gR->Bool)(e:En)(c:aV):aV:={ c with bs:=c.bs.map λb=>if p b then tD b e else b }
theorem Xp{M:Mo}{L:Lay}{c:aV}(a:At M L c)(p:gR->Bool)(e:En):wC ((cD L c).filter λx=>p x.2.2) e c=qG p e c:=by
 rw[Pk];unfold qG;congr 1;apply ata;intro j;rw[Ui _ _ _ _ (aeM _),asS];by_cases hj:j<c.bs.length
 .have hb:=asz hj;rw[hb];have hl:j<L.bs.length:=by rw[a.len];exact hj
  have mem:(j,L.bs[j],c.bs[j])∈cD L c:=by unfold cD;rw[List.mem_mapIdx];refine⟨j,by simp;omega,by simp⟩
  by_cases hp:p c.bs[j]=true
  .have:j∈((cD L c).filter λx=>p x.2.2).map (·.1):=asJ.mpr ⟨_,as3.mpr ⟨mem,hp⟩,rfl⟩;rw[at5 this];simp[hp]
  .have:j∉((cD L c).filter λx=>p x.2.2).map (·.1):=λz=>by
    obtain⟨x,h1,h2⟩:=asJ.mp z;obtain⟨h3,h4⟩:=as3.mp h1;obtain⟨_,h5⟩:=Gu h3;rw[h2,hb]at h5;rw[<-asZ h5]at h4;exact hp h4
   rw[at6 this];simp[hp]
 .rw[atb (by omega:c.bs.length<=j)];simp
theorem Oa.step{n:Nat}{c:aV}(bi:Oa n c)(i:Nat)(e:En)(h2:match e with|.cut l=>l.length=6|.sold _ l=>l.length=6|_=>True):Oa (n+1) (iG c i e):=by
 have key:∀b∈(iG c i e).bs,b∈c.bs\/∃b0∈c.bs,b=tD b0 e:=λb hb=>by
  obtain⟨j,hj⟩:=List.mem_iff_getElem?.mp hb;rw[zF]at hj;split at hj
  .obtain⟨b0,h3,h4⟩:=atr.mp hj;exact .inr ⟨b0,asH h3,h4.symm⟩
  .exact .inl (asH hj)
 refine⟨λb hb=>?_,λb hb=>?_⟩
 .rcases key b hb with h|⟨b0,h,rfl⟩
  .exact bi.ear b h
  .exact alQ _ _ (bi.ear b0 h) h2
 .rcases key b hb with h|⟨b0,h,rfl⟩
  .have:=bi.en b h;omega
  .have:=bi.en b0 h;simp[tD];omega
section
variable{M:Mo}{L:Lay}{c:aV}(a:At M L c)(few:c.bs.length<=1000){n:Nat}(bi:Oa n c)(hn:n<=40000)
include a few bi hn
theorem Il(k:Int){b:gR}(hk':bk c k=some b):∃M',pU M [ob L.h,.int k]=.ok .none M'/\At M' L (qG (λx=>Ad k x&&x.sd.al) (.followed b.sd.o b.sd.g) c):=by
 obtain⟨m,hh⟩:=a.hh;have few2:c.bs.length<=50000:=by omega
 have h1:=JX a few2 hk';have h2:=aeR a few2 k;rw[hk']at h2;obtain⟨k1,k2,k3,k4,k5⟩:=tL a hk';have hlen:((cD L c).filter λx=>Ad k x.2.2&&x.2.2.sd.al).length<=1000:=as9 (asW _ _) (by rw[a.len'];exact few);obtain⟨Z',M',g1,g2,g3⟩:=Ri (tg:=bF [3,4]) (body:=rR) (λZ=>∃x y,Z=[some (.dat (ob L.h)),some (.dat (.int k)),some (.dat (ob (hk L k))),x,y])
  (λi c1=>(∃b1,c1.bs[(k-1).toNat]?=some b1/\b1.sd.o=b.sd.o/\b1.sd.g=b.sd.g)/\Oa (n+i) c1/\c1.bs.length=c.bs.length) (.followed b.sd.o b.sd.g) L 1000 ((cD L c).filter λx=>Ad k x.2.2&&x.2.2.sd.al) M c [some (.dat (ob L.h)),some (.dat (.int k)),some (.dat (ob (hk L k))),none,none] 0 (by omega) a ⟨⟨b,k4,rfl,rfl⟩,bi,rfl⟩ ⟨none,none,rfl⟩ (λM1 c1 Z x i hi a1 p1 q1 hx=>by
   obtain⟨⟨bm,m1,m2,m3⟩,bi1,l1⟩:=p1;obtain⟨x0,y0,rfl⟩:=q1;obtain⟨nm,hm⟩:=a1.hb _ _ _ k3 m1;obtain⟨e1,e2⟩:=Gu (as3.mp hx).1;have hl:x.1<c1.bs.length:=by rw[l1];exact(asx.mp e2).1
   have e3:=asz hl;obtain⟨nx,hx1⟩:=a1.hb _ _ _ e1 e3;have mem:=atm hl;have hb:=uH hx1 (.followed b.sd.o b.sd.g) (by rw[bi1.ear _ mem];decide) (by have:=bi1.en _ mem;omega);refine⟨[some (.dat (ob L.h)),some (.dat (.int k)),some (.dat (ob (hk L k))),some (.dat (.int ((x.1:Int)+1))),some (.dat (ob x.2.1))],[some (.dat (ob L.h)),some (.dat (.int k)),some (.dat (ob (hk L k))),some (.dat (.int ((x.1:Int)+1))),some (.dat (ob x.2.1))],_,by simp[nb],?_,⟨_,_,rfl⟩,zH (n:=nx) a1 e1 e3,?_,bi1.step _ _ atV,by simp[iG,l1]⟩
   .have hb:oA M1 [ob x.2.1,.tuple [.str "followed",.int b.sd.o,.int b.sd.g]]=_:=hb
    simp[rR,hx1,hm,bO];simp[iB]at hb |-
    simp[m2,m3,hb,tD]
   .rw[zF,m1];by_cases z:x.1=(k-1).toNat
    .exact⟨tD bm (.followed b.sd.o b.sd.g),by rw[at5 z];rfl,rfl,rfl⟩
    .exact⟨bm,by rw[at6 z],m2,m3⟩)
 rw[Xp a (λx=>Ad k x&&x.sd.al)]at g3;refine⟨M',?_,g3⟩;simp[pU,uW,hh,eG,gj,zK,h1,h2,g1]
end
def pD(p:Int×Int):Dat:=.tuple [.int p.1,.int p.2]
theorem J8:∀(x y:List Int),pB (x.map PyData.int) (y.map PyData.int)=(x.zip y).map pD
 |[],_=>by simp[pB]
 |_::_,[]=>by simp[pB]
 |a::x,b::y=>by
  have:=J8 x y;unfold pB at this |-
  rw[asy,asy,List.zipWith_cons_cons,this,atj,asy];rfl
def Bj(x y:List Int):Int:=(((x.zip y).filter λp=>decide (p.1<p.2)).map λp=>p.2-p.1).sum
def qX(x y:List Int):Int:=if Bj y x>Bj x y then Bj y x else Bj x y
def kY(x y:List Int):List Int:=(x.zip y).map λp=>if p.2>p.1 then p.2 else p.1
theorem aiD(x y:List Int)(h:x.length<=1000):(x.zip y).length<=50000:=by rw[List.length_zip];omega
theorem afr(l:List Int):Yx (.list (l.map PyData.int))=.ok (.int l.sum):=by
 show(match intsOf (l.map PyData.int) with
  |some ns=>Out.ok (PyData.int ns.sum)
  |none=>.bad)=_
 rw[Dd]
theorem Qu(M:Mo)(x y:List Int)(h:x.length<=1000):vC M [aK x,aK y]=.ok (.int (Bj x y)):=by
 have key:=jf (tg:=bF [2,3]) (tt:=aW (aA gtD (ao 3) (ao 2))) (te:=aA pC (ao 3) (ao 2)) (M:=M) (Z:=[some (.dat (aK x)),some (.dat (aK y)),none,none]) pD (λp=>decide (p.1<p.2)) (λp=>.int (p.2-p.1)) (x.zip y) λp _=>⟨[some (.dat (aK x)),some (.dat (aK y)),some (.dat (.int p.1)),some (.dat (.int p.2))],by simp[pD],by simp,λ_=>by simp⟩;have hz:=aiD x y h;have hs:=afr (((x.zip y).filter λp=>decide (p.1<p.2)).map λp=>p.2-p.1);rw[atd]at hs;have hz2:min x.length y.length<=50000:=by omega
 simp[vC,Vs,J8,key,hz2];simp[as4]at hs;simp[hs,Bj]
theorem agp(M:Mo)(x y:List Int)(h:x.length<=1000)(h2:y.length<=1000):Jd M [aK x,aK y]=.ok (.int (qX x y)):=by simp[Jd,Vd,Qu M x y h,Qu M y x h2,qX]
theorem Vy(M:Mo)(x y:List Int)(r:Int)(h:x.length<=1000)(h2:y.length<=1000):sY M [aK x,aK y,.int r]=.ok (.bool (decide (qX x y<=r))):=by simp[sY,ZG,agp M x y h h2]
theorem Kf(M:Mo)(x y:List Int)(h:x.length<=1000):qI M [aK x,aK y]=.ok (aK (kY x y)):=by
 have key:=gJ (tg:=bF [2,3]) (te:=aA wO (ao 2) (ao 3)) (M:=M) (Z:=[some (.dat (aK x)),some (.dat (aK y)),none,none]) pD (λp=>.int (if p.2>p.1 then p.2 else p.1)) (x.zip y) λp _=>⟨[some (.dat (aK x)),some (.dat (aK y)),some (.dat (.int p.1)),some (.dat (.int p.2))],by simp[pD],by simp⟩;have hz2:min x.length y.length<=50000:=by omega
 simp[qI,Ve,J8,key,hz2,kY]
abbrev Rw:=Ear.Rw
theorem Xj:∀R:List Rw,GP (R.map Ear.rD)=some R
 |[]=>rfl
 |r::R=>by
  rw[asy,GP,Xj R];have:ade (Ear.rD r)=some r:=by
   unfold Ear.rD Ear.dT
   show(intsOf (r.2.map PyData.int)).map _=_
   rw[Dd];rfl
  rw[this];rfl
theorem Nt(M:Mo)(R:List Rw)(h:R.eraseDups.length<=76):rG M [.list (R.map Ear.rD)]=.ok (.list ((cA R).map Ear.rD)):=by
 have:Rk (.list (R.map Ear.rD))=.ok (.list ((cA R).map Ear.rD)):=by
  show(match GP (R.map Ear.rD) with
   |some R=>match decide (R.eraseDups.length<=76) with
    |true=>Out.ok (PyData.list ((cA R).map Ear.rD))
    |false=>.bad
   |none=>.bad)=_
  rw[Xj]
  show(match decide (R.eraseDups.length<=76) with
    |true=>Out.ok (PyData.list ((cA R).map Ear.rD))
    |false=>.bad)=_
  rw[decide_eq_true h]
 simp[rG,Qi,this]
theorem uU(R:List Rw):(cA R).length=R.eraseDups.length:=by unfold cA Tj;rw[List.length_mergeSort]
def BL(o:Int)(e:List Int)(R:List Rw)(room:Int):List Rw:=(cA R).filter λr=>!(r.1==o)&&decide (qX e r.2<=room)
def vK(R:List Rw):Prop:=∀r∈R,r.2.length=6
theorem acO(M:Mo)(o:Int)(e:List Int)(R:List Rw)(room:Int)(he:e.length=6)(hR:vK R)(h:R.eraseDups.length<=76):Ao M [.int o,aK e,.list (R.map Ear.rD),.int room]=.ok (.list ((BL o e R room).map Ear.rD)):=by
 have ht:=Nt M R h;have hl:(cA R).length<=50000:=by rw[uU];omega
 have key:=jf (tg:=bF [4,5]) (tt:=lJ (aW (aA Aq (ao 4) (ao 0))) (iJ (aU sY (ak (aq 1) (ak (aq 5) (ak (aq 3) au)))))) (te:=bA (ak (aq 4) (ak (aq 5) au))) (M:=M) (Z:=[some (.dat (.int o)),some (.dat (aK e)),some (.dat (.list (R.map Ear.rD))),some (.dat (.int room)),none,none]) Ear.rD (λr=>!(r.1==o)&&decide (qX e r.2<=room)) Ear.rD (cA R) λr hr=>⟨[some (.dat (.int o)),some (.dat (aK e)),some (.dat (.list (R.map Ear.rD))),some (.dat (.int room)),some (.dat (.int r.1)),some (.dat (aK r.2))],by simp[Ear.rD,Ear.dT],by
  have:=Vy M e r.2 room (by omega) (by rw[hR r (ou.mp hr)];decide);by_cases hz:r.1=o<;>simp[this,hz],λ_=>by simp[Ear.rD,Ear.dT]⟩
 simp[Ao,Nh,ht,key,hl,BL]
theorem Pq(M:Mo)(o:Int)(e:List Int)(R:List Rw)(room:Int)(he:e.length=6)(hR:vK R)(h:R.eraseDups.length<=76):pO M [.int o,aK e,.list (R.map Ear.rD),.int room]=match BL o e R room with
  |[]=>.ok .none
  |r::_=>.exc ⟨"Clash",[("ear",aK (kY e r.2)),("others",Ear.rD r),("ones",Ear.rD (o,e))]⟩:=by
 have hb:=acO M o e R room he hR h;cases hx:BL o e R room with
 |nil=>
  rw[hx]at hb;simp[pO,CW,hb]
 |cons r rs=>
  rw[hx]at hb;have hj:=Kf M e r.2 (by omega);simp[pO,CW,hb];simp[Ear.rD,Ear.dT,hj]
def cY(x:List Int):Bool:=decide (x.length=6)&&x.all λd=>decide (0<=d)&&decide (d<=9)
theorem Bh(l:List Bool):uD (l.map PyData.bool)=some l:=by
 induction l with
 |nil=>rfl
 |cons b l ih=>rw[asy,uD,ih];rfl
theorem Mu(M:Mo)(x:List Int)(h:x.length<=1000):uM M [aK x]=.ok (.bool (cY x)):=by
 have key:=gJ (tg:=aF 1) (te:=Wg (mj rE rE (qC (.int 0)) (ao 1) (qC cX))) (M:=M) (Z:=[some (.dat (aK x)),none]) PyData.int (λd=>.bool (decide (0<=d)&&decide (d<=9))) x λd _=>⟨[some (.dat (aK x)),some (.dat (.int d))],by simp,by
  by_cases h0:0<=d<;>simp[h0,cX]⟩
 have ha:M4 (.list (x.map λd=>PyData.bool (decide (0<=d)&&decide (d<=9))))=.ok (.bool (x.all λd=>decide (0<=d)&&decide (d<=9))):=by
  have e:(x.map λd=>PyData.bool (decide (0<=d)&&decide (d<=9)))=(x.map λd=>decide (0<=d)&&decide (d<=9)).map PyData.bool:=by rw[atd];rfl
  rw[e]
  show(match uD _ with
   |some bs=>Out.ok (PyData.bool (bs.all id))
   |none=>.bad)=_
  rw[Bh];simp[List.all_map,as4]
 have hl:x.length<=50000:=by omega
 by_cases h6:x.length=6
 .have h6':((x.length:Int)==6)=true:=by simp[h6]
  simp[uM,Jq,eE,key,hl,ha,cY,h6]
 .have h6':¬(x.length:Int)=6:=by omega
  simp[uM,Jq,eE,cY,h6,h6']
theorem U0{x:List Int}(h:x.length=6)(h2:∀d∈x,0<=d/\d<10):cY x=true:=by unfold cY;simp only[asw,atY,asV];refine⟨h,λd hd=>?_⟩;have:=h2 d hd;omega
theorem JC{α β:Type}{tg tg1:gH}{tt tt1:QT}{it1:IF}{vs1:List Nat}{te:QF}{M:Mo}{Z:Rf.Env}(ds:α->Dat)(ys:α->List β)(ds1:β->Dat)(p:α->β->Bool)(f:α->β->Dat):∀(xs:List α),(∀x∈xs,∃Z1,tg (ds x) Z=some Z1/\tt M Z1=.ok true/\Aa Z1=true/\it1 M Z1=.ok ((ys x).map ds1)/\∀y∈ys x,∃Z2,tg1 (ds1 y) (cH Z1 vs1)=some Z2/\tt1 M Z2=.ok (p x y)/\(p x y=true->te M Z2=.ok (f x y)))->
  iW tg tt it1 tg1 vs1 tt1 te M Z (xs.map ds)=.ok (xs.flatMap λx=>((ys x).filter (p x)).map (f x))
 |[],_=>rfl
 |x::xs,h=>by
  obtain⟨Z1,h1,h2,h3,h4,h5⟩:=h x asC;have ih:=JC ds ys ds1 p f xs λy hy=>h y (asB _ hy);have hc:=jf (tg:=tg1) (tt:=tt1) (te:=te) (M:=M) (Z:=cH Z1 vs1) ds1 (p x) (f x) (ys x) h5;rw[asy,iW,h1]
  show((yX (tt M Z1)).bind λb=>if b=true then Out.when (Aa Z1) ((yX (it1 M Z1)).bind λes=>(dY tg1 tt1 te M (cH Z1 vs1) es).bind λr1=>(iW tg tt it1 tg1 vs1 tt1 te M Z (xs.map ds)).bind λr=>Out.ok (r1++r)) else iW tg tt it1 tg1 vs1 tt1 te M Z (xs.map ds))=_
  rw[h2,aag,Out.zm,at5 rfl,h3,Out.Wq,h4,aag,Out.zm,hc,Out.zm,ih,Out.zm,List.flatMap_cons]
theorem Pj(M:Mo)(x:List Int)(h:x.length<=1000):sG M [aK x]=if cY x then .ok .none else .exc ⟨"BadEar",[]⟩:=by have:=Mu M x h;cases hb:cY x<;>simp[sG,Jw,this,hb]
def pairD(p:Rw×Rw):Dat:=.tuple [Ear.rD p.1,Ear.rD p.2]
def oF(T:List Rw)(room:Int):List (Rw×Rw):=(T.mapIdx λi r=>(i,r)).flatMap λx=>((T.drop (x.1+1)).filter λs=>!(x.2.1==s.1)&&decide (qX x.2.2 s.2<=room)).map λs=>(x.2,s)
theorem aaN(T:List Rw)(room:Int):(oF T room).length<=T.length*T.length:=by
 unfold oF;rw[List.length_flatMap];have key:∀(l:List (Nat×Rw)),(l.map λx=>(((T.drop (x.1+1)).filter λs=>!(x.2.1==s.1)&&decide (qX x.2.2 s.2<=room)).map λs=>(x.2,s)).length).sum<=l.length*T.length:=by
  intro l
  induction l with
  |nil=>simp
  |cons x l ih=>
   rw[asy,List.sum_cons,asQ,Nat.add_mul,Nat.one_mul];have:(((T.drop (x.1+1)).filter λs=>!(x.2.1==s.1)&&decide (qX x.2.2 s.2<=room)).map λs=>(x.2,s)).length<=T.length:=by rw[asK];refine as9 (asW _ _) ?_;rw[atL];omega
   omega
 have:=key (T.mapIdx λi r=>(i,r));rw[List.length_mapIdx]at this;exact this
theorem aaO(M:Mo)(R:List Rw)(room:Int)(hR:vK R)(h:R.eraseDups.length<=76):vm M [.list (R.map Ear.rD),.int room]=.ok (.list ((oF (cA R) room).map pairD)):=by
 have ht:=Nt M R h;have hl:(cA R).length<=76:=by rw[uU];exact h
 have hE:∀r∈cA R,r.2.length=6:=λr hr=>hR r (ou.mp hr);generalize cA R=T at ht hl hE;have he:mU 0 (T.map Ear.rD)=(T.mapIdx λi r=>(i,r)).map λ(x:Nat×Rw)=>PyData.tuple [.int x.1,Ear.rD x.2]:=by unfold mU;apply ata;intro i;simp;cases T[i]?<;>simp
 have key:=JC (tg:=bF [3,4]) (tg1:=aF 5) (tt:=jL) (it1:=dG (pZ (ao 2) (dW (aA bZ (ao 3) (qC (.int 1)))) fD)) (vs1:=[5]) (tt1:=lJ (aW (aA Aq (aA aY (ao 4) (qC (.int 0))) (aA aY (ao 5) (qC (.int 0))))) (iJ (aU sY (ak (aA aY (ao 4) (qC (.int 1))) (ak (aA aY (ao 5) (qC (.int 1))) (ak (aq 1) au)))))) (te:=bA (ak (aq 4) (ak (aq 5) au))) (M:=M) (Z:=[some (.dat (.list (R.map Ear.rD))),some (.dat (.int room)),some (.dat (.list (T.map Ear.rD))),none,none,none])
  (λ(x:Nat×Rw)=>PyData.tuple [.int x.1,Ear.rD x.2]) (λx=>T.drop (x.1+1)) Ear.rD (λx s=>!(x.2.1==s.1)&&decide (qX x.2.2 s.2<=room)) (λx s=>pairD (x.2,s)) (T.mapIdx λi r=>(i,r)) λx hx=>⟨[some (.dat (.list (R.map Ear.rD))),some (.dat (.int room)),some (.dat (.list (T.map Ear.rD))),some (.dat (.int x.1)),some (.dat (Ear.rD x.2)),none],by simp,rfl,rfl,by
   have:=xK (T.map Ear.rD) (x.1+1);simp at this |-
   rw[this],λs hs=>⟨[some (.dat (.list (R.map Ear.rD))),some (.dat (.int room)),some (.dat (.list (T.map Ear.rD))),some (.dat (.int x.1)),some (.dat (Ear.rD x.2)),some (.dat (Ear.rD s))],by simp,by
   obtain⟨i,hi,rfl⟩:=List.mem_mapIdx.mp hx;have h1:=hE _ (atm hi);have h2:=hE s (List.mem_of_mem_drop hs);have:=Vy M (T[i]).2 s.2 room (by omega) (by omega);by_cases hz:(T[i]).1=s.1<;>simp[Ear.rD,Ear.dT,this,hz],λ_=>by simp[pairD]⟩⟩
 have e2:((T.mapIdx λi r=>(i,r)).flatMap λx=>((T.drop (x.1+1)).filter λs=>!(x.2.1==s.1)&&decide (qX x.2.2 s.2<=room)).map λs=>pairD (x.2,s))=(oF T room).map pairD:=by unfold oF;rw[List.map_flatMap];congr 1;funext x;rw[atd];rfl
 rw[e2]at key;have hc:(oF T room).length<=50000:=by have:=aaN T room;have:T.length*T.length<=76*76:=Nat.mul_le_mul hl hl;omega
 simp[vm,Kl,ht];rw[he];simp[key,hc]
def hdD(x:List Int×Int):Dat:=.tuple [aK x.1,.int x.2]
def Mw(d l:Int):Int:=(if 9<d+l then 9 else d+l)+1
def CJ(d l:Int):List Int:=(List.range (Mw d l-d).toNat).map λ(i:Nat)=>d+(i:Int)
def stepT(d:Int)(H:List (List Int×Int)):List (List Int×Int):=H.flatMap λx=>(CJ d x.2).map λcut=>(x.1++[cut],x.2-(cut-d))
structure QJ(k:Nat)(H:List (List Int×Int)):Prop where
 len:H.length<=4^k
 left:∀x∈H,0<=x.2/\x.2<=3
 hd:∀x∈H,x.1.length=k/\∀y∈x.1,0<=y/\y<=9
theorem afq{d l:Int}(hl:0<=l/\l<=3):(CJ d l).length<=4:=by
 unfold CJ Mw;simp
 split<;>omega
theorem Wn{d l y:Int}(h:y∈CJ d l):d<=y/\y<=d+l/\y<=9:=by unfold CJ Mw at h;obtain⟨i,hi,rfl⟩:=asJ.mp h;rw[List.mem_range]at hi;split at hi<;>omega
theorem Xn{k:Nat}{H:List (List Int×Int)}{d:Int}(i:QJ k H)(hd:0<=d/\d<=9):QJ (k+1) (stepT d H):=by
 refine⟨?_,λx hx=>?_,λx hx=>?_⟩
 .have key:∀l:List (List Int×Int),(∀x∈l,0<=x.2/\x.2<=3)->(stepT d l).length<=l.length*4:=by
   intro l
   induction l with
   |nil=>intro _;simp[stepT]
   |cons x l ih=>
    intro h;have h1:=ih λy hy=>h y (asB _ hy);have h2:=afq (d:=d) (h x asC);unfold stepT at h1 |-
    rw[List.flatMap_cons,ati,asK,asQ];omega
  have:=key H i.left;have:=i.len;rw[Nat.pow_succ];omega
 .unfold stepT at hx;obtain⟨y,hy,hx⟩:=List.mem_flatMap.mp hx;obtain⟨c,hc,rfl⟩:=asJ.mp hx;have:=Wn hc;have:=i.left y hy;show 0<=y.2-(c-d)/\y.2-(c-d)<=3;omega
 .unfold stepT at hx;obtain⟨y,hy,hx⟩:=List.mem_flatMap.mp hx;obtain⟨c,hc,rfl⟩:=asJ.mp hx;have:=Wn hc;obtain⟨h1,h2⟩:=i.hd y hy;refine⟨by simp[h1],λz hz=>?_⟩;rcases asR.mp hz with hz|hz
  .exact h2 z hz
  .rw[asF.mp hz];omega
theorem afN(M:Mo)(e m:Option Cell)(he:Aa [e,m]=true){k:Nat}{H:List (List Int×Int)}{d:Int}(i:QJ k H)(hk:k<=5)(hd:0<=d/\d<=9):DR M [e,m,some (.dat (.list (H.map hdD))),some (.dat (.int d)),none,none,none]=.next [e,m,some (.dat (.list ((stepT d H).map hdD))),some (.dat (.int d)),none,none,none] M:=by
 have key:=JC (tg:=bF [4,5]) (tg1:=aF 6) (tt:=jL) (it1:=Dg (ao 3) (aA bZ (aA JM (aA bZ (ao 3) (ao 5)) (qC cX)) (qC (.int 1)))) (vs1:=[6]) (tt1:=jL) (te:=bA (ak (aA bZ (ao 4) (bA (ak (aq 6) au))) (ak (aA pC (ao 5) (aA pC (ao 6) (ao 3))) au))) (M:=M) (Z:=[e,m,some (.dat (.list (H.map hdD))),some (.dat (.int d)),none,none,none])
  hdD (λx=>CJ d x.2) PyData.int (λ_ _=>true) (λx c=>hdD (x.1++[c],x.2-(c-d))) H λx hx=>⟨[e,m,some (.dat (.list (H.map hdD))),some (.dat (.int d)),some (.dat (aK x.1)),some (.dat (.int x.2)),none],by simp[hdD],rfl,by
   simp[Aa]at he |-
   exact he,by
   have hl:=i.left x hx;have hz:Mw d x.2<=100000/\-100000<=Mw d x.2/\d<=100000/\-100000<=d:=by unfold Mw;split<;>omega
   have e1:qP d (Mw d x.2-d).toNat=(CJ d x.2).map PyData.int:=by unfold qP CJ;rw[atd];rfl
   have e2:(if 9<d+x.2 then(9:Int) else d+x.2)+1=Mw d x.2:=rfl;simp[cX,e2,e1,hz],λc hc=>⟨[e,m,some (.dat (.list (H.map hdD))),some (.dat (.int d)),some (.dat (aK x.1)),some (.dat (.int x.2)),some (.dat (.int c))],by simp,rfl,λ_=>by
   have h1:=(i.hd x hx).1;have h2:x.1.length+1<=100000:=by omega
   simp[hdD,h2]⟩⟩
 have e2:(H.flatMap λx=>((CJ d x.2).filter λ_=>true).map λc=>hdD (x.1++[c],x.2-(c-d)))=(stepT d H).map hdD:=by unfold stepT;rw[List.map_flatMap];congr 1;funext x;rw[List.filter_eq_self.mpr (λ_ _=>rfl),atd];rfl
 rw[e2]at key;have hl:(stepT d H).length<=50000:=by have:=(Xn i hd).len;have:4^(k+1)<=4^6:=Nat.pow_le_pow_right (by decide) (by omega);omega
 simp[DR,key,hl]
theorem Ln(M:Mo)(e m:Option Cell)(he:Aa [e,m]=true):∀(ear:List Int) (k:Nat) (H:List (List Int×Int)) (o:Option Cell),QJ k H->k+ear.length<=6->(∀d∈ear,0<=d/\d<=9)->
  (∃o',eO (aF 3) DR (ear.map PyData.int) M [e,m,some (.dat (.list (H.map hdD))),o,none,none,none]=.next [e,m,some (.dat (.list ((ear.foldl (λH d=>stepT d H) H).map hdD))),o',none,none,none] M)/\QJ (k+ear.length) (ear.foldl (λH d=>stepT d H) H)
 |[],k,H,o,i,_,_=>⟨⟨o,rfl⟩,i⟩
 |d::ear,k,H,o,i,hk,hd=>by
  rw[asQ]at hk;have h1:=hd d asC;obtain⟨⟨o',ih⟩,i2⟩:=Ln M e m he ear (k+1) (stepT d H) (some (.dat (.int d))) (Xn i h1) (by omega) λy hy=>hd y (asB _ hy);refine⟨⟨o',?_⟩,?_⟩
  .rw[asy,jh (Z1:=[e,m,some (.dat (.list (H.map hdD))),some (.dat (.int d)),none,none,none]) (by simp) (afN M e m he i (by omega) h1),ih];rfl
  .rw[asQ,show k+(ear.length+1)=k+1+ear.length by omega];exact i2
def Fy(ear:List Int)(many:Int):List (List Int):=(ear.foldl (λH d=>stepT d H) [([],many)]).map (·.1)
theorem afg{many:Int}(hm:0<=many/\many<=3):QJ 0 [([],many)]:=⟨by simp,λx hx=>by rw[asF.mp hx];exact hm,λx hx=>by rw[asF.mp hx];simp⟩
theorem QZ{ear:List Int}{many:Int}(he:cY ear=true)(hm:0<=many/\many<=3):QJ 6 (ear.foldl (λH d=>stepT d H) [([],many)]):=by unfold cY at he;rw[asw,atY,asV]at he;have:=(Ln [] none none rfl ear 0 [([],many)] none (afg hm) (by omega) λd hd=>by simpa using he.2 d hd).2;rw[he.1]at this;exact this
theorem aiZ(M:Mo)(ear:List Int)(many:Int)(he:cY ear=true)(hm:0<=many/\many<=3):Ls M [aK ear,.int many]=.ok (.list ((Fy ear many).map aK)):=by
 have he':=he;unfold cY at he';rw[asw,atY,asV]at he';obtain⟨⟨o',h1⟩,_⟩:=Ln M (some (.dat (aK ear))) (some (.dat (.int many))) rfl ear 0 [([],many)] none (afg hm) (by omega) λd hd=>by simpa using he'.2 d hd
 have hi:=QZ he hm;generalize hH:ear.foldl (λH d=>stepT d H) [([],many)]=H at h1 hi;have key:=gJ (tg:=bF [4,5]) (te:=aq 4) (M:=M) (Z:=[some (.dat (aK ear)),some (.dat (.int many)),some (.dat (.list (H.map hdD))),o',none,none,none]) hdD (λx=>aK x.1) H λx _=>⟨[some (.dat (aK ear)),some (.dat (.int many)),some (.dat (.list (H.map hdD))),o',some (.dat (aK x.1)),some (.dat (.int x.2)),none],by simp[hdD],by simp⟩;have hl:H.length<=50000:=by
  have:=hi.len;have:(4:Nat)^6=4096:=by decide
  omega
 have h1':eO (aF 3) DR (ear.map PyData.int) M [some (.dat (aK ear)),some (.dat (.int many)),some (.dat (.list [.tuple [.tuple [],.int many]])),none,none,none,none]=_:=h1;have key2:∀o2:Option Cell,dY (bF [4,5]) jL (aq 4) M [some (.dat (aK ear)),some (.dat (.int many)),some (.dat (.list (H.map hdD))),o2,none,none,none] (H.map hdD)=.ok (H.map λx=>aK x.1):=λo2=>gJ (tg:=bF [4,5]) (te:=aq 4) (M:=M) (Z:=[some (.dat (aK ear)),some (.dat (.int many)),some (.dat (.list (H.map hdD))),o2,none,none,none]) hdD (λx=>aK x.1) H λx _=>⟨[some (.dat (aK ear)),some (.dat (.int many)),some (.dat (.list (H.map hdD))),o2,some (.dat (aK x.1)),some (.dat (.int x.2)),none],by simp[hdD],by simp⟩;simp[Ls,aad,h1',key2,hl,Fy,hH]
def Qx(mark:List Int)(extra:Int):List (List Int):=(Fy mark extra).filter λe=>Bj mark e==extra
theorem Wj{ear:List Int}{many:Int}(he:cY ear=true)(hm:0<=many/\many<=3){x:List Int}(h:x∈Fy ear many):cY x=true:=by obtain⟨y,hy,rfl⟩:=asJ.mp h;obtain⟨h1,h2⟩:=(QZ he hm).hd y hy;unfold cY;rw[asw,atY,asV];exact⟨h1,λd hd=>by simpa using h2 d hd⟩
theorem afM{ear:List Int}{many:Int}(he:cY ear=true)(hm:0<=many/\many<=3):(Fy ear many).length<=4096:=by unfold Fy;rw[asK];exact(QZ he hm).len
theorem aaG(M:Mo)(mark:List Int)(extra:Int)(he:cY mark=true)(hm:0<=extra/\extra<=3):wB M [aK mark,.int extra]=.ok (.list ((Qx mark extra).map aK)):=by
 have h1:=aiZ M mark extra he hm;have hl:=afM he hm;have h6:mark.length<=1000:=by unfold cY at he;rw[asw,atY]at he;omega
 have key:=jf (tg:=aF 2) (tt:=aW (aA bH (aU vC (ak (aq 0) (ak (aq 2) au))) (ao 1))) (te:=aq 2) (M:=M) (Z:=[some (.dat (aK mark)),some (.dat (.int extra)),none]) aK (λe=>Bj mark e==extra) aK (Fy mark extra) λx _=>⟨[some (.dat (aK mark)),some (.dat (.int extra)),some (.dat (aK x))],by simp,by
  have:=Qu M mark x h6;simp[this],λ_=>by simp⟩
 have hl2:(Fy mark extra).length<=50000:=by omega
 simp[wB,Hf,h1,key,hl2,Qx]
def CK(R:List Rw)(room:Int)(e:List Int):Bool:=!(R.any λr=>decide (qX e r.2<=room))
theorem Y5(l:List Bool):QD (.list (l.map PyData.bool))=.ok (.bool (l.any id)):=by
 show(match uD (l.map PyData.bool) with
  |some bs=>Out.ok (PyData.bool (bs.any id))
  |none=>.bad)=_
 rw[Bh]
theorem ada(M:Mo)(R:List Rw)(room:Int)(hR:vK R)(hl:R.length<=50000)(mk:List Int)(x:Int)(e:List Int)(he:e.length=6) :
  lu M [some (.dat (aK mk)),some (.dat (.int x)),some (.dat (.list (R.map Ear.rD))),some (.dat (.int room)),some (.dat (aK e)),none,none]=if CK R room e then .ret (aK e) M else .next [some (.dat (aK mk)),some (.dat (.int x)),some (.dat (.list (R.map Ear.rD))),some (.dat (.int room)),some (.dat (aK e)),none,none] M:=by
 have key:=gJ (tg:=bF [5,6]) (te:=aU sY (ak (aq 4) (ak (aq 6) (ak (aq 3) au)))) (M:=M) (Z:=[some (.dat (aK mk)),some (.dat (.int x)),some (.dat (.list (R.map Ear.rD))),some (.dat (.int room)),some (.dat (aK e)),none,none]) Ear.rD (λr=>.bool (decide (qX e r.2<=room))) R λr hr=>⟨[some (.dat (aK mk)),some (.dat (.int x)),some (.dat (.list (R.map Ear.rD))),some (.dat (.int room)),some (.dat (aK e)),some (.dat (.int r.1)),some (.dat (aK r.2))],by simp[Ear.rD,Ear.dT],by
  have:=Vy M e r.2 room (by omega) (by rw[hR r hr];decide);simp[this]⟩
 have ha:=Y5 (R.map λr=>decide (qX e r.2<=room));rw[atd]at ha;simp only[as4,atJ]at ha;cases hf:CK R room e<;>simp[lu,key,hl,ha]<;>simp[CK]at hf<;>simpa using hf
theorem R4(M:Mo)(R:List Rw)(room:Int)(hR:vK R)(hl:R.length<=50000)(mk:List Int)(x:Int):∀(es:List (List Int)) (o:Option Cell),(∀e∈es,e.length=6)->
  match es.find? (CK R room) with
   |some e=>eO (aF 4) lu (es.map aK) M [some (.dat (aK mk)),some (.dat (.int x)),some (.dat (.list (R.map Ear.rD))),some (.dat (.int room)),o,none,none]=.ret (aK e) M
   |none=>∃Z',eO (aF 4) lu (es.map aK) M [some (.dat (aK mk)),some (.dat (.int x)),some (.dat (.list (R.map Ear.rD))),some (.dat (.int room)),o,none,none]=.next Z' M
 |[],o,_=>⟨_,rfl⟩
 |e::es,o,he=>by
  have h1:=ada M R room hR hl mk x e (he e asC);have ih:=R4 M R room hR hl mk x es (some (.dat (aK e))) λy hy=>he y (asB _ hy);rw[List.find?_cons];cases hf:CK R room e with
  |true=>
   rw[hf,at5 rfl]at h1;show eO _ _ _ _ _=_;rw[asy,eO];simp[h1]
  |false=>
   rw[hf,at6 (by decide)]at h1;have e1:eO (aF 4) lu ((e::es).map aK) M [some (.dat (aK mk)),some (.dat (.int x)),some (.dat (.list (R.map Ear.rD))),some (.dat (.int room)),o,none,none]=eO (aF 4) lu (es.map aK) M [some (.dat (aK mk)),some (.dat (.int x)),some (.dat (.list (R.map Ear.rD))),some (.dat (.int room)),some (.dat (aK e)),none,none]:=by rw[asy,jh (by simp) h1]
   rw[e1];exact ih
theorem Xu(M:Mo)(mark:List Int)(extra:Int)(R:List Rw)(room:Int)(he:cY mark=true)(hm:0<=extra/\extra<=3)(hR:vK R)(hl:R.length<=50000):qH M [aK mark,.int extra,.list (R.map Ear.rD),.int room]=match (Qx mark extra).find? (CK R room) with
  |some e=>.ok (aK e)
  |none=>.exc ⟨"NoneFree",[]⟩:=by
 have h1:=aaG M mark extra he hm;have h2:=R4 M R room hR hl mark extra (Qx mark extra) none λe h=>by
  have:=Wj he hm (as3.mp h).1;unfold cY at this;rw[asw,atY]at this;exact this.1
 cases hf:(Qx mark extra).find? (CK R room) with
 |some e=>
  rw[hf]at h2;simp[qH,yF,h1,h2]
 |none=>
  rw[hf]at h2;obtain⟨Z',h2⟩:=h2;simp[qH,yF,h1,h2]
@[simp]theorem aoe (L:Lay) (c:aV):(aM L c).cls="Commons":=rfl
theorem any_keys(y:Int)(l:List Int):((l.map λo=>(PyData.int o,PyData.bool true)).any λp=>PyData.eqv p.1 (.int y))=decide (y∈l):=by
 have:=any_ints y l;rw[atJ]at this |-
 exact this
section
variable{M:Mo}{L:Lay}{c:aV}(a:At M L c)
include a
theorem mZ(o:Int):jT M [ob L.c,.int o]=if o∈c.own then .ok .none else .exc ⟨"NoOwner",[]⟩:=by
 have hc:=a.hc;have hk:=any_keys o c.own;simp only[atJ,as4]at hk;by_cases h:o∈c.own
 .rw[decide_eq_true h]at hk;rw[at5 h];simp[jT,nJ,hc,aM,as4,hk];rw[at6 (λz=>z o h rfl)]
 .rw[decide_eq_false h]at hk;rw[at6 h];simp[jT,nJ,hc,aM,as4,hk];have hz:∀x:Int,x∈c.own->¬x=o:=λx hx e=>h (e ▸ hx);rw[at5 hz]
theorem Bb(i:dJ c)(x:Int):qL M [ob L.c,.int x]=if Vg c x then .ok (.int (roomOf c x)) else .exc ⟨"NoGround",[]⟩:=by
 have hc:=a.hc;obtain⟨n,m,hg⟩:=a.hg;have h1:=ah6 a i x;by_cases h:Vg c x
 .rw[at5 h]at h1 |-
  simp[qL,vP,hc,aM,hg,dH,ux,h1]
 .rw[at6 h]at h1 |-
  simp[qL,vP,hc,aM,hg,dH,ux,h1]
theorem BX(i:dJ c)(x:Int):lO M [ob L.c,.int x]=if Vg c x then .ok (lI (bJ c x)) else .exc ⟨"NoGround",[]⟩:=by
 have hc:=a.hc;obtain⟨n,m,hg⟩:=a.hg;have h1:=wD a i x;by_cases h:Vg c x
 .rw[at5 h]at h1 |-
  simp[lO,qj,hc,aM,hg,dH,bG,h1]
 .rw[at6 h]at h1 |-
  simp[lO,qj,hc,aM,hg,dH,bG,h1]
theorem adG:sO M [ob L.c]=.ok (lI c.own):=by have hc:=a.hc;simp[sO,xg,hc,aM,as4]
theorem sU(few:c.held.length<=50000)(o g:Int):nR M [ob L.c,.int o,.int g]=if bT c o g=[] then .exc ⟨"NoRight",[]⟩ else .ok .none:=by have hc:=a.hc;have hr:=a.hr;have h1:=aau a few o g;by_cases h:bT c o g=[]<;>simp[nR,sH,hc,aM,hr,pA,tX,h1,h]
theorem Ce(few:c.held.length<=50000)(o g:Int){mk:List Int}{r:List (List Int)}(h:bT c o g=mk::r):nQ M [ob L.c,.int o,.int g]=.ok (aK mk):=by have hc:=a.hc;have hr:=a.hr;have h1:=Ke a few o g;rw[h]at h1;simp[nQ,rJ,hc,aM,hr,pA,cQ,h1]
end
def inR(c:aV)(near:List Int):List Rw:=(c.held.filter λr=>decide (r.2.1∈near)).map λr=>(r.1,r.2.2)
def ZM(lo:Int)(x:Nat×Nat×gR):Bool:=x.2.2.sd.due.isSome&&!(((x.1:Int)+1)==lo)
def Rc(L:Lay)(c:aV)(lo:Int)(near:List Int):List Rw:=(((cD L c).filter λx=>decide (x.2.2.sd.g∈near)&&x.2.2.sd.al).filter (ZM lo)).map λx=>(x.2.2.sd.o,x.2.2.sd.due.getD [])
def gq(L:Lay)(c:aV)(lo x:Int):List Rw:=inR c (bJ c x)++Rc L c lo (bJ c x)
section
variable{M:Mo}{L:Lay}{c:aV}(a:At M L c)
include a
theorem Gi(i:dJ c)(few:c.held.length<=20000)(fewb:c.bs.length<=20000)(lo x:Int)(h76:(gq L c lo x).eraseDups.length<=76):ju M [ob L.c,.int lo,.int x]=if Vg c x then .ok (.list ((cA (gq L c lo x)).map Ear.rD)) else .exc ⟨"NoGround",[]⟩:=by
 have hc:=a.hc;have hr:=a.hr;obtain⟨n,hh⟩:=a.hh;have h1:=BX a i x;by_cases h:Vg c x
 .rw[at5 h]at h1 |-
  have h2:=Ry a (by omega:c.bs.length<=50000) (bJ c x);have h3:=Xr a (by omega:c.held.length<=50000) (bJ c x);have h4:=Nt M (gq L c lo x) h76;have hl:((cD L c).filter λy=>decide (y.2.2.sd.g∈bJ c x)&&y.2.2.sd.al).length<=20000:=as9 (asW _ _) (by rw[a.len'];exact fewb);have hl2:((cD L c).filter λy=>decide (y.2.2.sd.g∈bJ c x)&&y.2.2.sd.al).length<=50000:=by omega
  have key:=jf (tg:=bF [5,6]) (tt:=lJ (aW (Cv true .none (bM "due" (ao 6)))) (aW (aA Aq (ao 5) (ao 1)))) (te:=bA (ak (iQ "owner" (ao 6)) (ak (iQ "due" (ao 6)) au))) (M:=M) (Z:=[some (.dat (ob L.c)),some (.dat (.int lo)),some (.dat (.int x)),some (.dat (lI (bJ c x))),none,none,none]) nb (ZM lo) (λy=>Ear.rD (y.2.2.sd.o,y.2.2.sd.due.getD [])) ((cD L c).filter λy=>decide (y.2.2.sd.g∈bJ c x)&&y.2.2.sd.al) λy hy=>⟨[some (.dat (ob L.c)),some (.dat (.int lo)),some (.dat (.int x)),some (.dat (lI (bJ c x))),none,some (.dat (.int ((y.1:Int)+1))),some (.dat (ob y.2.1))],by simp[nb],by
   obtain⟨n',hb⟩:=a.hb' (as3.mp hy).1;cases hd:y.2.2.sd.due<;>simp[hb,iB,hd,vU,ZM,vY],λhp=>by
   obtain⟨n',hb⟩:=a.hb' (as3.mp hy).1;cases hd:y.2.2.sd.due with
   |none=>simp[ZM,hd]at hp
   |some e=>simp[hb,iB,hd,vU,Ear.rD,Ear.dT]⟩
  have e1:(c.held.filter λr=>decide (r.2.1∈bJ c x)).map (λr=>Ear.rD (r.1,r.2.2))=(inR c (bJ c x)).map Ear.rD:=by unfold inR;rw[atd];rfl
  have e2:(((cD L c).filter λy=>decide (y.2.2.sd.g∈bJ c x)&&y.2.2.sd.al).filter (ZM lo)).map (λy=>Ear.rD (y.2.2.sd.o,y.2.2.sd.due.getD []))=(Rc L c lo (bJ c x)).map Ear.rD:=by unfold Rc;rw[atd];rfl
  rw[e1]at h3;rw[e2]at key;have z1:(inR c (bJ c x)).length<=20000:=by unfold inR;rw[asK];exact as9 (asW _ _) few
  have z2:(Rc L c lo (bJ c x)).length<=20000:=by unfold Rc;rw[asK];exact as9 (asW _ _) hl
  have z3:(inR c (bJ c x)).length+(Rc L c lo (bJ c x)).length<=100000:=by omega
  unfold gq at h4 |-
  rw[as8]at h4;simp[ju,lK,hc,aM,bV,h1,hh,eG,jO,h2,hr,pA,rO,h3];simp[key,hl2,z3,h4,hc,aM,hr,pA,h3]
 .rw[at6 h]at h1 |-
  simp[ju,lK,hc,aM,bV,h1]
end
def Cy(b:gR):Dat:=.tuple [.int b.sd.o,.int b.sd.g,vU b.sd.due,aK b.sd.ear,.bool b.sd.al,.int b.mo,.tuple (b.fi.dat::b.en.map En.dat)]
theorem aiq{M:Mo}{h n:Nat}{b:gR}(hb:M[h]?=some (iB n b)):yU M [ob h]=.ok (Cy b):=by have h1:=Zb hb;simp[yU,Fb,hb,oG,h1];simp[iB,Sd.dat,Cy]
def grD(c:aV)(k:Nat):Dat:=.tuple [.int (Ul c ((k:Int)+1)),aK (bJ c ((k:Int)+1))]
def CZ(c:aV):Dat:=.tuple [lI c.own,.list ((List.range c.al.length).map (grD c)),.list (c.held.map jo),.list (c.bs.map Cy)]
section
variable{M:Mo}{L:Lay}{c:aV}(a:At M L c)
include a
theorem ah7(i:dJ c)(few:c.held.length<=20000)(fewb:c.bs.length<=20000):oJ M [ob L.c]=.ok (CZ c):=by
 have hc:=a.hc;have hr:=a.hr;obtain⟨n,m,hg⟩:=a.hg;obtain⟨n1,hh⟩:=a.hh;have h1:=abp a;have h2:=adG a;have h3:=aaM a (by omega:c.held.length<=50000);have hf:=i.few;have k1:=gJ (tg:=aF 3) (te:=bA (ak (aX eV (bM "grounds" (ao 0)) (ak (aq 3) au)) (ak (fj nu (aX bV (ao 0) (ak (aq 3) au))) au))) (M:=M) (Z:=[some (.dat (ob L.c)),none,none,none,none]) (λ(k:Nat)=>PyData.int (1+(k:Int))) (grD c) (List.range c.al.length) λk hk=>⟨[some (.dat (ob L.c)),none,none,some (.dat (.int ((k:Int)+1))),none],by simp[Int.add_comm],by
  rw[List.mem_range]at hk;have hv:Vg c ((k:Int)+1):=by constructor<;>omega
  have g1:=LK a ((k:Int)+1);have g2:=BX a i ((k:Int)+1);rw[at5 hv]at g1 g2;simp[hc,aM,hg,dH,eV,bV,g1,g2,grD]⟩
 have hl:=a.len';have k2:=λ(o1:Option Cell)=>gJ (tg:=aF 4) (te:=aX wJ (ao 4) au) (M:=M) (Z:=[some (.dat (ob L.c)),o1,none,none,none]) (λ(x:Nat×Nat×gR)=>ob x.2.1) (λx=>Cy x.2.2) (cD L c) λx hx=>⟨[some (.dat (ob L.c)),o1,none,none,some (.dat (ob x.2.1))],by simp,by
  obtain⟨n',hb⟩:=a.hb' hx;have:=aiq hb;simp[hb,wJ,this]⟩
 have e1:(cD L c).map (λx=>ob x.2.1)=L.bs.map ob:=by
  unfold cD;apply ata;intro j;simp only[asS,atw];by_cases hj:j<L.bs.length
  .have hz:(L.bs.zip c.bs)[j]?=some (L.bs[j],c.bs[j]'(by rw[<-a.len];exact hj)):=by
    rw[atv];exact⟨asz hj,asz _⟩
   rw[hz,asz hj];rfl
  .rw[atb (by omega:L.bs.length<=j),atb (by rw[List.length_zip];omega)];rfl
 have e2:(cD L c).map (λx=>Cy x.2.2)=c.bs.map Cy:=by
  unfold cD;apply ata;intro j;simp only[asS,atw];by_cases hj:j<c.bs.length
  .have hz:(L.bs.zip c.bs)[j]?=some (L.bs[j]'(by rw[a.len];exact hj),c.bs[j]):=by
    rw[atv];exact⟨asz _,asz hj⟩
   rw[hz,asz hj];rfl
  .rw[atb (by omega:c.bs.length<=j),atb (by rw[List.length_zip];omega)];rfl
 simp only[e1,e2]at k2;have r1:qP 1 c.al.length=(List.range c.al.length).map λ(k:Nat)=>PyData.int (1+(k:Int)):=rfl;have z1:(c.al.length:Int)+1<=100000:=by omega
 have z2 : -100000<=(c.al.length:Int)+1:=by omega
 have z3:c.al.length<=50000:=by omega
 have z4:L.bs.length<=50000:=by rw[a.len];omega
 simp[oJ,zL,hc,aM,hg,dH,fU,h1,z1,z2,r1,k1,z3];simp[hc,aM,hh,eG,hr,pA,k2,z4,vW,uY,h2,h3,CZ]
end
section
variable{M:Mo}{L:Lay}{c:aV}(a:At M L c)
include a
theorem Ae(i:dJ c)(few:c.held.length<=20000)(fewb:c.bs.length<=20000)(x:Int)(h76:(gq L c 0 x).eraseDups.length<=76):lX M [ob L.c,.int x]=if Vg c x then .ok (.list ((cA (gq L c 0 x)).map Ear.rD)) else .exc ⟨"NoGround",[]⟩:=by
 have hc:=a.hc;have h1:=Gi a i few fewb 0 x h76;by_cases h:Vg c x
 .rw[at5 h]at h1 |-
  simp[lX,qd,hc,dD,h1]
 .rw[at6 h]at h1 |-
  simp[lX,qd,hc,dD,h1]
def alh(o:Int)(e:List Int)(R:List Rw)(room:Int):Out Dat:=match BL o e R room with
 |[]=>.ok .none
 |r::_=>.exc ⟨"Clash",[("ear",aK (kY e r.2)),("others",Ear.rD r),("ones",Ear.rD (o,e))]⟩
omit a in
theorem agG{T:List Rw}(h:Ear.WD T):T.Nodup:=by
 unfold Ear.WD at h;unfold List.Nodup;exact h.imp λ{x y} z e=>by
  subst e;exact List.lt_irrefl _ z
theorem Lz(ho:∀o∈c.own,o<=c.count)(few:c.own.length<=20000):∃M',gK M [ob L.c]=.ok (.int (c.count+1)) M'/\At M' L { c with count:=c.count+1,own:=c.own++[c.count+1] }:=by
 have hc:=a.hc;have hl:∀i,(M.set L.c i)[L.c]?=some i:=λi=>by rw[bK hc,at5 rfl]
 have hk:=any_keys (c.count+1) c.own;have hn:¬(c.count+1)∈c.own:=λz=>by have:=ho _ z;omega
 rw[decide_eq_false hn]at hk;have hz:∀x∈c.own,¬x=c.count+1:=λx hx e=>hn (e ▸ hx);have f2:c.own.length<100000:=by omega
 refine⟨_,?_,a.setC⟩;simp only[atJ,as4]at hk;have hd:(c.own.any λx=>x==c.count+1)=false:=by rw[List.any_eq_false];intro x hx;simpa using hz x hx
 simp[gK,uh,hc,aM,hl,lF,f2,as4,hd]
end
theorem Zy{α:Type}[BEq α][LawfulBEq α](l:List α):l.eraseDups.length<=l.length:=by
 induction hn:l.length using Nat.strongRecOn generalizing l with
 |_ n ih=>
  cases l with
  |nil=>simp
  |cons a r=>
   rw[List.eraseDups_cons];simp only[asQ]at hn |-
   have hl:(r.filter λb=>!b==a).length<=r.length:=asW _ _;have:=ih _ (by omega) (r.filter λb=>!b==a) rfl;omega
theorem aai{S:List Rw}(h:S.eraseDups.length<=76):(cA S).eraseDups.length<=76:=as9 (Zy _) (by rw[uU];exact h)
theorem Bg{S:List Rw}(h:vK S):vK (cA S):=λr hr=>h r (ou.mp hr)
section
variable{M:Mo}{L:Lay}{c:aV}(a:At M L c)
include a
theorem X3(i:dJ c)(few:c.held.length<=20000)(fewb:c.bs.length<=20000)(o x:Int)(e:List Int)(he:e.length=6)(hv:Vg c x)(h76:(gq L c 0 x).eraseDups.length<=76)(hE:vK (gq L c 0 x)):iV M [ob L.c,.int o,aK e,.int x]=alh o e (cA (gq L c 0 x)) (roomOf c x):=by
 have hc:=a.hc;have h1:=Ae a i few fewb x h76;have h2:=Bb a i x;rw[at5 hv]at h1 h2;have h3:=Pq M o e (cA (gq L c 0 x)) (roomOf c x) he (Bg hE) (aai h76);unfold alh;cases hb:BL o e (cA (gq L c 0 x)) (roomOf c x) with
 |nil=>
  rw[hb]at h3;simp[iV,nY,hc,cO,cI,h1,h2,h3]
 |cons r rs=>
  rw[hb]at h3;simp[iV,nY,hc,cO,cI,h1,h2,h3]
end
section
variable{M:Mo}{L:Lay}{c:aV}(a:At M L c)
include a
def JQ(L:Lay)(c:aV)(x y:Int):List Rw:=cA (gq L c 0 x)++cA (gq L c 0 y)
def wZ(c:aV)(x y:Int):Int:=if roomOf c y>roomOf c x then roomOf c y else roomOf c x
theorem aaX(i:dJ c)(few:c.held.length<=20000)(fewb:c.bs.length<=20000)(x y:Int)(hx:Vg c x)(hy:Vg c y)(h1:(gq L c 0 x).eraseDups.length<=76)(h2:(gq L c 0 y).eraseDups.length<=76)(h3:(JQ L c x y).eraseDups.length<=76)(e1:vK (gq L c 0 x))(e2:vK (gq L c 0 y)):lY M [ob L.c,.int x,.int y]=.ok (.list ((oF (cA (JQ L c x y)) (wZ c x y)).map pairD)):=by
 have hc:=a.hc;have s1:=Ae a i few fewb x h1;have s2:=Ae a i few fewb y h2;have r1:=Bb a i x;have r2:=Bb a i y;rw[at5 hx]at s1 r1;rw[at5 hy]at s2 r2;have hE:vK (JQ L c x y):=λr hr=>by
  rcases asR.mp hr with hr|hr
  .exact Bg e1 r hr
  .exact Bg e2 r hr
 have k:=aaO M (JQ L c x y) (wZ c x y) hE h3;have l1:(cA (gq L c 0 x)).length<=76:=by rw[uU];exact h1
 have l2:(cA (gq L c 0 y)).length<=76:=by rw[uU];exact h2
 have l3:(cA (gq L c 0 x)).length+(cA (gq L c 0 y)).length<=100000:=by omega
 have k':vm M [.list ((cA (gq L c 0 x)).map Ear.rD++(cA (gq L c 0 y)).map Ear.rD),.int (if roomOf c y>roomOf c x then roomOf c y else roomOf c x)]=.ok (.list ((oF (cA (JQ L c x y)) (wZ c x y)).map pairD)):=by rw[<-as8];exact k
 simp[lY,uZ,hc,cO,cI,s1,s2,r1,r2,l3];simp at k';exact k' ▸ (by simp[k'])
end
def acI(c:aV)(lo:Int)(near:List Int):List Rw:=((c.bs.mapIdx λi b=>(i,b)).filter λx=>(x.2.sd.due.isSome&&!(((x.1:Int)+1)==lo))&&(decide (x.2.sd.g∈near)&&x.2.sd.al)).map λx=>(x.2.sd.o,x.2.sd.due.getD [])
def gM(c:aV)(lo x:Int):List Rw:=inR c (bJ c x)++acI c lo (bJ c x)
theorem NT{M:Mo}{L:Lay}{c:aV}(a:At M L c):(cD L c).map (λx=>(x.1,x.2.2))=c.bs.mapIdx λi b=>(i,b):=by
 unfold cD;apply ata;intro j;simp only[asS,atw];by_cases hj:j<c.bs.length
 .have hz:(L.bs.zip c.bs)[j]?=some (L.bs[j]'(by rw[a.len];exact hj),c.bs[j]):=by
   rw[atv];exact⟨asz _,asz hj⟩
  rw[hz,asz hj];rfl
 .rw[atb (by omega:c.bs.length<=j),atb (by rw[List.length_zip];omega)];rfl
theorem lC{M:Mo}{L:Lay}{c:aV}(a:At M L c)(lo x:Int):gq L c lo x=gM c lo x:=by unfold gq gM Rc acI;rw[<-NT a,List.filter_map,atd,atH];rfl
inductive bf where
 |owner|ground (x:Int)|enrol (o g:Int) (m:List Int)|leave (o g:Int)|bring (o g:Int) (e:List Int)|bear (k:Int)|cut (k:Int)|tear (k p:Int)|sell (k o:Int)|move (k g:Int)|die (k:Int)|yK (x y:Int)|part (x:Int)|pass (e h:Int)|heir (e g x:Int)
def bf.dat:bf->Dat
 |.owner=>.tuple [.str "owner"]
 |.ground x=>.tuple [.str "ground",.int x]
 |.enrol o g m=>.tuple [.str "enrol",.int o,.int g,aK m]
 |.leave o g=>.tuple [.str "leave",.int o,.int g]
 |.bring o g m=>.tuple [.str "bring",.int o,.int g,aK m]
 |.bear k=>.tuple [.str "bear",.int k]
 |.cut k=>.tuple [.str "cut",.int k]
 |.tear k p=>.tuple [.str "tear",.int k,.int p]
 |.sell k o=>.tuple [.str "sell",.int k,.int o]
 |.move k g=>.tuple [.str "move",.int k,.int g]
 |.die k=>.tuple [.str "die",.int k]
 |.yK x y=>.tuple [.str "unite",.int x,.int y]
 |.part x=>.tuple [.str "part",.int x]
 |.pass e h=>.tuple [.str "pass",.int e,.int h]
 |.heir e g x=>.tuple [.str "heir",.int e,.int g,.int x]
inductive Res where
 |ok (d:Dat) (c:aV)|no (x:dX)
def HW(o:Int)(e:List Int)(r:Rw):dX:=⟨"Clash",[("ear",aK (kY e r.2)),("others",Ear.rD r),("ones",Ear.rD (o,e))]⟩
def firstM(c:aV)(o g:Int):List Int:=(bT c o g).headD []
def Bw(o:Int)(e:List Int)(R:List Rw)(room:Int)(r:Res):Res:=match BL o e (cA R) room with
 |[]=>r
 |x::_=>.no (HW o e x)
def Jz(c:aV)(x y:Int):List Rw:=cA (gM c 0 x)++cA (gM c 0 y)
def uG(c:aV)(x:Int):List Int:=(bJ c x).filter λy=>!(y==x)
def Ub(c:aV)(e:Int):List Int:=((c.bs.mapIdx λi b=>(i,b)).filter λx=>(x.2.sd.o==e)&&x.2.sd.al).map λx=>(x.1:Int)+1
def X7(o g:Int)(b:gR):Bool:=(decide (b.sd.g∈[g])&&b.sd.al)&&(b.sd.o==o)
def yE(c:aV)(k:Int)(f:gR->Res):Res:=match bk c k with
 |none=>.no ⟨"NoBeast",[]⟩
 |some b=>if b.sd.al=true then f b else .no ⟨"Dead",[]⟩
def markB(c:aV)(k:Int)(f:gR->List Int->Res):Res:=yE c k λb=>match b.sd.due with
 |none=>.no ⟨"Unmarked",[]⟩
 |some e=>f b e
def Df(c:aV)(k o g:Int):aV:=qG (λx=>Ad k x&&x.sd.al) (.followed o g) c
def uR(c:aV)(o:Int)(r:Res):Res:=if o∈c.own then r else .no ⟨"NoOwner",[]⟩
def yP(c:aV)(g:Int)(r:Res):Res:=if Vg c g then r else .no ⟨"NoGround",[]⟩
def Lr(e:List Int)(r:Res):Res:=if cY e=true then r else .no ⟨"BadEar",[]⟩
def qp(c:aV)(o g:Int)(r:Res):Res:=if bT c o g=[] then .no ⟨"NoRight",[]⟩ else r
def cP(c:aV):bf->Res
 |.owner=>.ok (.int (c.count+1)) { c with count:=c.count+1,own:=c.own++[c.count+1] }
 |.ground x=>if 0<=x/\x<=9 then .ok (.int (c.al.length+1)) { c with al:=c.al++[x],ci:=c.ci++[[(c.al.length:Int)+1]] } else .no ⟨"BadAllowance",[]⟩
 |.enrol o g m=>uR c o<|yP c g<|Lr m<|if m=[0,0,0,0,0,0] then .no ⟨"Bare",[]⟩ else if m∈bT c o g then .no ⟨"HasRight",[]⟩ else Bw o m (gM c 0 g) (roomOf c g) (.ok .none { c with held:=c.held++[(o,g,m)] })
 |.leave o g=>uR c o<|yP c g<|qp c o g<|if c.bs.any (X7 o g)=true then .no ⟨"StillThere",[]⟩ else .ok (.list ((bT c o g).map aK)) { c with held:=dropped c o g }
 |.bring o g e=>uR c o<|yP c g<|Lr e<|qp c o g<|.ok (.int (c.bs.length+1)) { c with bs:=c.bs++[GX (.brought o g e)] }
 |.bear k=>markB c k λb _=>.ok (.int (c.bs.length+1)) { c with bs:=c.bs++[GX (.born k b.sd.o b.sd.g)] }
 | .cut k=>yE c k λb=>Bw b.sd.o (kY b.sd.ear (firstM c b.sd.o b.sd.g)) (gM c 0 b.sd.g) (roomOf c b.sd.g) (.ok (aK (kY b.sd.ear (firstM c b.sd.o b.sd.g))) (iG c (k-1).toNat (.cut (kY b.sd.ear (firstM c b.sd.o b.sd.g)))))
 |.tear k p=>yE c k λb=>if 0<=p/\p<6 then(if 9<=b.sd.ear.getD p.toNat 0 then .no ⟨"Deepest",[]⟩ else .ok (aK (yg b.sd.ear p.toNat)) (iG c (k-1).toNat (.torn p.toNat))) else .no ⟨"NoPlace",[]⟩
 |.sell k o=>markB c k λb _=>uR c o<|if b.sd.o=o then .no ⟨"SameOwner",[]⟩ else qp c o b.sd.g<|Bw o (kY b.sd.ear (firstM c o b.sd.g)) (gM c k b.sd.g) (roomOf c b.sd.g) (.ok (aK (kY b.sd.ear (firstM c o b.sd.g))) (Df (iG c (k-1).toNat (.sold o (kY b.sd.ear (firstM c o b.sd.g)))) k o b.sd.g))
 |.move k g=>markB c k λb e=>yP c g<|if b.sd.g=g then .no ⟨"SameGround",[]⟩ else qp c b.sd.o g<|Bw b.sd.o e (gM c 0 g) (roomOf c g) (.ok (.int b.sd.g) (Df (iG c (k-1).toNat (.moved g)) k b.sd.o g))
 |.die k=>yE c k λ_=>.ok .none (iG c (k-1).toNat .died)
 |.yK x y=>yP c y<|yP c x<|if y∈bJ c x then .no ⟨"Together",[]⟩ else match oF (cA (Jz c x y)) (wZ c x y) with
  |p::_=>.no (HW p.1.1 p.1.2 p.2)
  |[]=>.ok (lI (sortI (bJ c x++bJ c y))) { c with ci:=encl c.ci (sortI (bJ c x++bJ c y)) }
 |.part x=>yP c x<|if uG c x=[] then .no ⟨"Alone",[]⟩ else .ok (lI (uG c x)) { c with ci:=encl (encl c.ci [x]) (uG c x) }
 |.pass e h=>uR c e<|uR c h<|if e=h then .no ⟨"SameOwner",[]⟩ else .ok (lI (Ub c e)) { qG (λb=>(b.sd.o==e)&&b.sd.al) (.passed h) c with own:=c.own.filter (λo=>!(o==e)),held:=handed c e h }
 | .heir e g x=>uR c e<|yP c g<|if 1<=x/\x<=3 then qp c e g (match (Qx (firstM c e g) x).find? (CK (cA (gM c 0 g)) (roomOf c g)) with
  |some mk=>.ok (.tuple [.int (c.count+1),aK mk]) { c with count:=c.count+1,own:=c.own++[c.count+1],held:=c.held++[(c.count+1,g,mk)] }
  |none=>.no ⟨"NoneFree",[]⟩) else .no ⟨"BadExtra",[]⟩
structure Inv(n s:Nat)(c:aV):Prop where
 gr:dJ c
 al:c.al.length<=n
 cnt:0<=c.count/\c.count<=n
 own:∀o∈c.own,1<=o/\o<=c.count
 Qa:c.own.Nodup
 ownL:c.own.length<=n
 held:c.held.Nodup
 hL:c.held.length+c.bs.length<=s
 hE:∀r∈c.held,r.1∈c.own/\Vg c r.2.1/\cY r.2.2=true
 ear:∀b∈c.bs,cY b.sd.ear=true
 due:∀b∈c.bs,∀e,b.sd.due=some e->cY e=true
 en:∀b∈c.bs,b.en.length<=2*n
 rt:∀b∈c.bs,b.sd.al=true->∃m,(b.sd.o,b.sd.g,m)∈c.held
theorem jd{x:List Int}(h:cY x=true):x.length=6:=by unfold cY at h;simp at h;exact h.1
theorem Ek{α:Type}[BEq α][LawfulBEq α]:∀{l S:List α},l.Nodup->(∀x∈l,x∈S)->l.length<=S.length
 |[],_,_,_=>by simp
 |x::l,S,nd,h=>by
  rw[atO]at nd;have hx:=h x asC;have:=Ek (l:=l) (S:=S.erase x) nd.2 λy hy=>by
   have:y≠x:=λz=>nd.1 (z ▸ hy);exact(List.mem_erase_of_ne this).mpr (h y (asB _ hy))
  rw[List.length_erase_of_mem hx]at this;have:=List.length_pos_of_mem hx;rw[asQ];omega
def Oi(c:aV):List Rw:=c.held.map (λr=>(r.1,r.2.2))++c.bs.map λb=>(b.sd.o,b.sd.due.getD [])
theorem abx{c:aV}{near:List Int}{r:Rw}(h:r∈inR c near):∃g,(r.1,g,r.2)∈c.held/\g∈near:=by unfold inR at h;obtain⟨x,h1,rfl⟩:=asJ.mp h;obtain⟨h2,h3⟩:=as3.mp h1;exact⟨x.2.1,h2,by simpa using h3⟩
theorem aax{c:aV}{lo:Int}{near:List Int}{r:Rw}(h:r∈acI c lo near):∃(i:Nat) (b:gR),c.bs[i]?=some b/\b.sd.o=r.1/\b.sd.due=some r.2/\b.sd.al=true/\b.sd.g∈near/\(i:Int)+1≠lo:=by
 unfold acI at h;obtain⟨x,h1,rfl⟩:=asJ.mp h;obtain⟨h2,h3⟩:=as3.mp h1;obtain⟨i,hi,rfl⟩:=List.mem_mapIdx.mp h2;simp only[asw,atY,asO,beq_eq_false_iff_ne]at h3;obtain⟨⟨h4,h5⟩,h6,h7⟩:=h3;refine⟨i,c.bs[i],asz hi,rfl,?_,h7,h6,h5⟩;cases hd:c.bs[i].sd.due with
 |none=>simp[hd]at h4
 |some e=>rfl
theorem rK{c:aV}{lo x:Int}{r:Rw}(h:r∈gM c lo x):r∈Oi c:=by
 unfold Oi;rcases asR.mp h with h|h
 .obtain⟨g,h1,_⟩:=abx h;exact atf _ (asJ.mpr ⟨_,h1,rfl⟩)
 .obtain⟨i,b,h1,h2,h3,_⟩:=aax h;refine atD _ (asJ.mpr ⟨b,asH h1,?_⟩);rw[h2,h3];rfl
section
variable{n s:Nat}{c:aV}(I:Inv n s c)
include I
theorem Inv.few{R:List Rw}(h:∀r∈R,r∈Oi c):R.eraseDups.length<=s:=by
 have h1:=Ek (l:=cA R) (S:=Oi c) (agG (Zj R)) λr hr=>h r (ou.mp hr);rw[uU]at h1;have:(Oi c).length=c.held.length+c.bs.length:=by simp[Oi]
 have:=I.hL;omega
theorem Inv.Q5{lo x:Int}:vK (gM c lo x):=λr hr=>by
 rcases asR.mp hr with h|h
 .obtain⟨g,h1,_⟩:=abx h;exact jd (I.hE _ h1).2.2
 .obtain⟨i,b,h1,h2,h3,_⟩:=aax h;exact jd (I.due b (asH h1) _ h3)
theorem Inv.bi:Oa (2*n) c:=⟨λb hb=>jd (I.ear b hb),I.en⟩
theorem Inv.mk1{o g:Int}(h:bT c o g≠[]):∃r,bT c o g=firstM c o g::r/\cY (firstM c o g)=true:=by
 cases hm:bT c o g with
 |nil=>exact absurd hm h
 |cons m r=>
  refine⟨r,by simp[firstM,hm],?_⟩;have:m∈bT c o g:=by rw[hm];exact asC
  unfold bT at this;obtain⟨x,h1,rfl⟩:=asJ.mp this;have e:firstM c o g=x.2.2:=by simp[firstM,hm]
  rw[e];exact(I.hE x (as3.mp h1).1).2.2
end
theorem Fp{c:aV}{o g:Int}{m:List Int}:m∈bT c o g↔(o,g,m)∈c.held:=by
 unfold bT;rw[asJ];constructor
 .rintro⟨⟨x,y,z⟩,h,rfl⟩;obtain⟨h1,h2⟩:=as3.mp h;simp at h2;obtain⟨rfl,rfl⟩:=h2;exact h1
 .intro h;exact⟨_,as3.mpr ⟨h,by simp⟩,rfl⟩
theorem zJ{c:aV}{o g:Int}:bT c o g≠[]↔∃m,(o,g,m)∈c.held:=by
 constructor
 .intro h;obtain⟨m,hm⟩:=List.exists_mem_of_ne_nil _ h;exact⟨m,Fp.mp hm⟩
 .rintro⟨m,hm⟩ z;have:=Fp.mpr hm;rw[z]at this;cases this
theorem GD{x y:List Int}(hx:cY x=true)(hy:cY y=true):cY (kY x y)=true:=by
 have lx:=jd hx;have ly:=jd hy;unfold cY at *;simp only[asw,atY,asV]at *;refine⟨by simp[kY];omega,λd hd=>?_⟩;unfold kY at hd;obtain⟨p,hp,rfl⟩:=asJ.mp hd;have h1:=hx.2 p.1 (List.of_mem_zip hp).1;have h2:=hy.2 p.2 (List.of_mem_zip hp).2
 split<;>omega
theorem Ja(n:Nat)(x:List Int):okd (n+1) (aK x)=true:=by show okd (n+1) (.tuple (x.map PyData.int))=true;rw[okd];exact Xb n x
theorem ah4(x y:List Int):bH (aK x) (aK y)=.ok (.bool (decide (x=y))):=by
 show(Out.when (okd 12 (aK x)&&okd 12 (aK y)) (.ok (PyData.eqv (aK x) (aK y)))).bind _=_
 rw[Ja 11,Ja 11,ZR,Ag];rfl
theorem aib(neg:Bool)(m:List Int)(ms:List (List Int)):inD neg (aK m) (.list (ms.map aK))=.ok (.bool (neg ^^ decide (m∈ms))):=by
 have h1:nH 12 (ms.map aK)=true:=Ec.mpr λd hd=>by
  obtain⟨x,_,rfl⟩:=asJ.mp hd;exact Ja 11 x
 have h2:((ms.map aK).any λz=>PyData.eqv z (aK m))=decide (m∈ms):=by
  induction ms with
  |nil=>simp
  |cons x ms ih=>
   have h1':nH 12 (ms.map aK)=true:=Ec.mpr λd hd=>by
    obtain⟨x,_,rfl⟩:=asJ.mp hd;exact Ja 11 x
   rw[asy,aty,ih h1',ZR,Ag];by_cases h:x=m
   .simp[h]
   .have:¬m=x:=λz=>h z.symm;simp[h,this]
 show(Out.when (okd 12 (aK m)&&nH 12 (ms.map aK)) (.ok ((ms.map aK).any λz=>PyData.eqv z (aK m)))).bind _=_
 rw[h1,h2,Ja 11];rfl
def Sp(M:Mo)(L:Lay)(o:bx Dat):Res->Prop
 |.ok d c'=>∃M' bs,o=.ok d M'/\At M' { L with bs:=bs } c'
 |.no x=>o=.exc x M
section
variable{M:Mo}{L:Lay}{c:aV}(a:At M L c){n s:Nat}(I:Inv n s c)(hs:s<=76)(hn:n<=199)
include a I hn
theorem ach:Sp M L (gK M [ob L.c]) (cP c .owner):=by obtain⟨M',h1,h2⟩:=Lz a (λo ho=>(I.own o ho).2) (by have:=I.ownL;omega);exact⟨M',L.bs,h1,h2⟩
theorem Zq(x:Int):Sp M L (fZ M [ob L.c,.int x]) (cP c (.ground x)):=by
 have hc:=a.hc;obtain⟨n,m,hg⟩:=a.hg;have hl:=I.al;have h1:=XJ a I.gr (by omega) x;simp only[cP];by_cases h:0<=x/\x<=9
 .rw[at5 h]at h1 |-
  obtain⟨M',h1,h2⟩:=h1;exact⟨M',L.bs,by simp[fZ,nO,hc,aM,hg,dH,mJ,h1],h2⟩
 .rw[at6 h]at h1 |-
  show _=_;simp[fZ,nO,hc,aM,hg,dH,mJ,h1]
include hs
omit hn
theorem aaj(o x:Int)(e:List Int)(he:e.length=6)(hv:Vg c x):iV M [ob L.c,.int o,aK e,.int x]=match BL o e (cA (gM c 0 x)) (roomOf c x) with
  |[]=>.ok .none
  |r::_=>.exc (HW o e r):=by
 have h1:=I.hL;have h76:=I.few (R:=gM c 0 x) λr hr=>rK hr;have:=X3 a I.gr (by omega) (by omega) o x e he hv (by rw[lC a];omega) (by rw[lC a];exact I.Q5);rw[lC a]at this;exact this
theorem ab5(o g:Int)(m:List Int)(hm:m.length<=1000):Sp M L (dU M [ob L.c,.int o,.int g,aK m]) (cP c (.enrol o g m)):=by
 have hc:=a.hc;have hr:=a.hr;obtain⟨n1,m1,hg⟩:=a.hg;have hL:=I.hL;have h1:=mZ a o;have h2:=xQ a g;have h3:=Pj M m hm;have h4:=Ke a (by omega) o g;simp only[cP,uR,yP,Lr,Bw];by_cases e1:o∈c.own;rotate_left
 .rw[at6 e1]at h1 |-
  show _=_;simp[dU,gQ,hc,aM,aD,h1]
 rw[at5 e1]at h1 |-
 by_cases e2:Vg c g;rotate_left
 .rw[at6 e2]at h2 |-
  show _=_;simp[dU,gQ,hc,aM,aD,h1,hg,dH,aG,h2]
 rw[at5 e2]at h2 |-
 by_cases e3:cY m=true;rotate_left
 .rw[at6 e3]at h3 |-
  show _=_;simp[dU,gQ,hc,aM,aD,h1,hg,dH,aG,h2,h3]
 rw[at5 e3]at h3 |-
 have h5:bH (.tuple (m.map PyData.int)) (.tuple [.int 0,.int 0,.int 0,.int 0,.int 0,.int 0])=_:=ah4 m [0,0,0,0,0,0];by_cases e4:m=[0,0,0,0,0,0]
 .rw[at5 e4];rw[decide_eq_true e4]at h5;show _=_;simp[dU,gQ,hc,aM,aD,h1,hg,dH,aG,h2,h3,jX];simp[h5]
 rw[at6 e4];rw[decide_eq_false e4]at h5;have h6:=aib false m (bT c o g);by_cases e5:m∈bT c o g
 .rw[at5 e5];rw[decide_eq_true e5]at h6;simp at h6;show _=_;simp[dU,gQ,hc,aM,aD,h1,hg,dH,aG,h2,h3,jX,h5,hr,pA,cQ,h4,h6]
 rw[at6 e5];rw[decide_eq_false e5]at h6;simp at h6;have h7:=aaj a I hs o g m (jd e3) e2;cases e6:BL o m (cA (gM c 0 g)) (roomOf c g) with
 |cons r rs=>
  rw[e6]at h7;show _=_;simp[dU,gQ,hc,aM,aD,h1,hg,dH,aG,h2,h3,jX,h5,hr,pA,cQ,h4,h6,bW,h7]
 |nil=>
  rw[e6]at h7;have h8:=Nq a (by omega) o g m;rw[at6 λz=>e5 (Fp.mpr z)]at h8;obtain⟨M',h8,h9⟩:=h8;refine⟨M',L.bs,?_,h9⟩;simp[dU,gQ,hc,aM,aD,h1,hg,dH,aG,h2,h3,jX,h5,hr,pA,cQ,h4,h6,bW,h7,jm,h8]
end
@[simp]theorem asr (n:Nat) (b:gR):List.lookup ("owner" : Str) (iB n b).fs=some (.dat (.int b.sd.o)):=by simp[iB]
@[simp]theorem asq (n:Nat) (b:gR):List.lookup ("ground" : Str) (iB n b).fs=some (.dat (.int b.sd.g)):=by simp[iB]
@[simp]theorem aso (n:Nat) (b:gR):List.lookup ("due" : Str) (iB n b).fs=some (.dat (vU b.sd.due)):=by simp[iB]
@[simp]theorem asp (n:Nat) (b:gR):List.lookup ("ear" : Str) (iB n b).fs=some (.dat (aK b.sd.ear)):=by simp[iB]
@[simp]theorem ar8 (n:Nat) (b:gR):List.lookup ("alive" : Str) (iB n b).fs=some (.dat (.bool b.sd.al)):=by simp[iB]
section
variable{M:Mo}{L:Lay}{c:aV}(a:At M L c){n s:Nat}(I:Inv n s c)(hs:s<=76)
include a I hs
theorem ab8(o g:Int):Sp M L (fQ M [ob L.c,.int o,.int g]) (cP c (.leave o g)):=by
 have hc:=a.hc;have hr:=a.hr;obtain⟨n1,m1,hg⟩:=a.hg;obtain⟨n2,hh⟩:=a.hh;have hL:=I.hL;have h1:=mZ a o;have h2:=xQ a g;have h3:=sU a (by omega) o g;simp only[cP,uR,yP,qp];by_cases e1:o∈c.own;rotate_left
 .rw[at6 e1]at h1 |-
  show _=_;simp[fQ,jR,hc,aM,aD,h1]
 rw[at5 e1]at h1 |-
 by_cases e2:Vg c g;rotate_left
 .rw[at6 e2]at h2 |-
  show _=_;simp[fQ,jR,hc,aM,aD,h1,hg,dH,aG,h2]
 rw[at5 e2]at h2 |-
 by_cases e3:bT c o g=[]
 .rw[at5 e3]at h3 |-
  show _=_;simp[fQ,jR,hc,aM,aD,h1,hg,dH,aG,h2,aO,h3]
 rw[at6 e3]at h3 |-
 have h4:qW M [ob L.h,.list [.int g]]=_:=Ry a (by omega) [g];have key:=gJ (tg:=bF [3,4]) (te:=aA bH (bM "owner" (ao 4)) (ao 1)) (M:=M) (Z:=[some (.dat (ob L.c)),some (.dat (.int o)),some (.dat (.int g)),none,none]) nb (λx=>.bool (x.2.2.sd.o==o)) ((cD L c).filter λx=>decide (x.2.2.sd.g∈[g])&&x.2.2.sd.al) λx hx=>⟨[some (.dat (ob L.c)),some (.dat (.int o)),some (.dat (.int g)),some (.dat (.int ((x.1:Int)+1))),some (.dat (ob x.2.1))],by simp[nb],by
  obtain⟨n,hb⟩:=a.hb' (as3.mp hx).1;simp[hb,iB]⟩
 have hl:((cD L c).filter λx=>decide (x.2.2.sd.g∈[g])&&x.2.2.sd.al).length<=50000:=as9 (asW _ _) (by rw[a.len'];omega);have h5:QD (.list (((cD L c).filter λx=>decide (x.2.2.sd.g∈[g])&&x.2.2.sd.al).map λx=>PyData.bool (x.2.2.sd.o==o)))=.ok (.bool (c.bs.any (X7 o g))):=by
  have e:(((cD L c).filter λx=>decide (x.2.2.sd.g∈[g])&&x.2.2.sd.al).map λx=>PyData.bool (x.2.2.sd.o==o))=(((cD L c).filter λx=>decide (x.2.2.sd.g∈[g])&&x.2.2.sd.al).map λx=>(x.2.2.sd.o==o)).map PyData.bool:=by rw[atd];rfl
  rw[e,Y5,atJ,List.any_filter];have e2:=NT a;have e3:(cD L c).map (λx=>x.2.2)=c.bs:=by
   have:(cD L c).map (λx=>x.2.2)=((cD L c).map (λx=>(x.1,x.2.2))).map (·.2):=by rw[atd];rfl
   rw[this,e2];apply ata;intro i;simp;cases c.bs[i]?<;>rfl
  conv=>rhs;rw[<-e3]
  rw[atJ];rfl
 cases e4:c.bs.any (X7 o g) with
 |true=>
  rw[e4]at h5;show _=_;simp[fQ,jR,hc,aM,aD,h1,hg,dH,aG,h2,aO,h3,hh,eG,jO];simp at h4 key h5 hl;simp[h4,key,hl,h5]
 |false=>
  rw[e4]at h5;have h6:=ahW a (by omega) I.held o g;rw[at6 e3]at h6;obtain⟨M',h6,h7⟩:=h6;refine⟨M',L.bs,?_,h7⟩;simp[fQ,jR,hc,aM,aD,h1,hg,dH,aG,h2,aO,h3,hh,eG,jO];simp at h4 key h5 hl;simp[h4,key,hl,h5,hc,aM,hr,pA,zE,h6]
theorem abd(o g:Int)(m:List Int)(hm:m.length<=1000):Sp M L (fP M [ob L.c,.int o,.int g,aK m]) (cP c (.bring o g m)):=by
 have hc:=a.hc;have hr:=a.hr;obtain⟨n1,m1,hg⟩:=a.hg;obtain⟨n2,hh⟩:=a.hh;have hL:=I.hL;have h1:=mZ a o;have h2:=xQ a g;have h3:=Pj M m hm;have h4:=sU a (by omega) o g;simp only[cP,uR,yP,Lr,qp];by_cases e1:o∈c.own;rotate_left
 .rw[at6 e1]at h1 |-
  show _=_;simp[fP,jV,hc,aM,aD,h1]
 rw[at5 e1]at h1 |-
 by_cases e2:Vg c g;rotate_left
 .rw[at6 e2]at h2 |-
  show _=_;simp[fP,jV,hc,aM,aD,h1,hg,dH,aG,h2]
 rw[at5 e2]at h2 |-
 by_cases e3:cY m=true;rotate_left
 .rw[at6 e3]at h3 |-
  show _=_;simp[fP,jV,hc,aM,aD,h1,hg,dH,aG,h2,h3]
 rw[at5 e3]at h3 |-
 by_cases e4:bT c o g=[]
 .rw[at5 e4]at h4 |-
  show _=_;simp[fP,jV,hc,aM,aD,h1,hg,dH,aG,h2,h3,aO,h4]
 rw[at6 e4]at h4 |-
 obtain⟨M',h,h5,h6⟩:=Oc a (by omega) (.brought o g m) (by omega);refine⟨M',L.bs++[h],?_,h6⟩;simp[Fi.dat]at h5;simp[fP,jV,hc,aM,aD,h1,hg,dH,aG,h2,h3,aO,h4,hh,eG,jZ,h5]
theorem adI(k:Int):Sp M L (iT M [ob L.c,.int k]) (cP c (.bear k)):=by
 have hc:=a.hc;obtain⟨n2,hh⟩:=a.hh;have hL:=I.hL;have h1:=Nf a (by omega) k;simp only[cP,markB,yE];cases hk:bk c k with
 |none=>
  rw[hk]at h1;show _=_;simp[iT,oH,hc,aM,hh,eG,bD,h1]
 |some b=>
  rw[hk]at h1;obtain⟨_,_,_,_,n3,hb⟩:=tL a hk;show Sp M L _ (if b.sd.al=true then _ else _);cases e1:b.sd.al with
  |false=>
   simp[e1]at h1;show _=_;simp[iT,oH,hc,aM,hh,eG,bD,h1]
  |true=>
   simp[e1]at h1;cases e2:b.sd.due with
   |none=>
    simp[e2]at h1;show _=_;simp[iT,oH,hc,aM,hh,eG,bD,h1]
   |some e=>
    simp[e2]at h1;simp only[if_true];obtain⟨M',h,h5,h6⟩:=Oc a (by omega) (.born k b.sd.o b.sd.g) (by omega);refine⟨M',L.bs++[h],?_,h6⟩;simp[Fi.dat]at h5;simp[iT,oH,hc,aM,hh,eG,bD,h1,hb,iB,jZ,h5]
theorem ahC(k:Int)(hn:n<=1000):Sp M L (j7 M [ob L.c,.int k]) (cP c (.die k)):=by
 have hc:=a.hc;obtain⟨n2,hh⟩:=a.hh;have hL:=I.hL;have h1:=FP a (by omega) k;simp only[cP,yE];cases hk:bk c k with
 |none=>
  rw[hk]at h1;show _=_;simp[j7,sW,hc,aM,hh,eG,bL,h1]
 |some b=>
  rw[hk]at h1;obtain⟨_,_,h3,h4,n3,hb⟩:=tL a hk;show Sp M L _ (if b.sd.al=true then _ else _);cases e1:b.sd.al with
  |false=>
   simp[e1]at h1;show _=_;simp[j7,sW,hc,aM,hh,eG,bL,h1]
  |true=>
   simp[e1]at h1;have mem:=asH h4;simp only[if_true];have h5:=uH hb .died (by rw[jd (I.ear b mem)];decide) (by have:=I.en b mem;omega);refine⟨_,L.bs,?_,zH (n:=n3) (e:=.died) a h3 h4⟩;simp[En.dat]at h5;simp[j7,sW,hc,aM,hh,eG,bL,h1,hb,bO,h5,tD]
theorem ae3(k p:Int)(hn:n<=1000):Sp M L (fM M [ob L.c,.int k,.int p]) (cP c (.tear k p)):=by
 have hc:=a.hc;obtain⟨n2,hh⟩:=a.hh;have hL:=I.hL;have h1:=FP a (by omega) k;simp only[cP,yE];cases hk:bk c k with
 |none=>
  rw[hk]at h1;show _=_;simp[fM,jD,hc,aM,hh,eG,bL,h1]
 |some b=>
  rw[hk]at h1;obtain⟨_,_,h3,h4,n3,hb⟩:=tL a hk;show Sp M L _ (if b.sd.al=true then _ else _);cases e1:b.sd.al with
  |false=>
   simp[e1]at h1;show _=_;simp[fM,jD,hc,aM,hh,eG,bL,h1]
  |true=>
   simp[e1]at h1;have mem:=asH h4;have h6:=jd (I.ear b mem);simp only[if_true];by_cases e2:0<=p/\p<6
   .rw[at5 e2];obtain⟨q,rfl⟩:∃q:Nat,p=q:=⟨p.toNat,by omega⟩;have hq:q<6:=by omega
    have hq2:q<b.sd.ear.length:=by omega
    have hq3:(q:Int)<6:=by omega
    have h7:b.sd.ear[q]?.getD 0=b.sd.ear[q]:=by simp[hq2]
    simp only[Int.toNat_natCast,List.getD_eq_getElem?_getD,h7];have h5:=uH hb (.torn q) (by omega) (by have:=I.en b mem;omega);by_cases e3:9<=b.sd.ear[q]
    .rw[at5 e3];show _=_;simp[fM,jD,hc,aM,hh,eG,bL,h1,hb,iB,eE,hq3,cX,hq2,e3]
    .rw[at6 e3];refine⟨_,L.bs,?_,zH (n:=n3) (e:=.torn q) a h3 h4⟩;simp[En.dat]at h5;have hl:∀i,(M.set (Pr.hk L k) i)[Pr.hk L k]?=some i:=λi=>by rw[bK hb,at5 rfl]
     simp[fM,jD,hc,aM,hh,eG,bL,h1,hb,eE,hq3,cX,bO,h5,hl,hq2,e3,tD,go]
   .rw[at6 e2];show _=_;by_cases e3:0<=p
    .have e4:¬p<6:=λz=>e2 ⟨e3,z⟩;simp[fM,jD,hc,aM,hh,eG,bL,h1,eE,e3,e4]
    .simp[fM,jD,hc,aM,hh,eG,bL,h1,eE,e3]
end
theorem Inv.alive{n s:Nat}{c:aV}(I:Inv n s c){b:gR}(h:b∈c.bs)(h2:b.sd.al=true):bT c b.sd.o b.sd.g≠[]/\Vg c b.sd.g/\b.sd.o∈c.own:=by obtain⟨m,hm⟩:=I.rt b h h2;exact⟨zJ.mpr ⟨m,hm⟩,(I.hE _ hm).2.1,(I.hE _ hm).1⟩
section
variable{M:Mo}{L:Lay}{c:aV}(a:At M L c){n s:Nat}(I:Inv n s c)(hs:s<=76)(hn:n<=1000)
include a I hs hn
theorem ahM(k:Int):Sp M L (jx M [ob L.c,.int k]) (cP c (.cut k)):=by
 have hc:=a.hc;obtain⟨n2,hh⟩:=a.hh;have hL:=I.hL;have h1:=FP a (by omega) k;simp only[cP,yE,Bw];cases hk:bk c k with
 |none=>
  rw[hk]at h1;show _=_;simp[jx,pH,hc,aM,hh,eG,bL,h1]
 |some b=>
  rw[hk]at h1;obtain⟨_,_,h3,h4,n3,hb⟩:=tL a hk;show Sp M L _ (if b.sd.al=true then _ else _);cases e1:b.sd.al with
  |false=>
   simp[e1]at h1;show _=_;simp[jx,pH,hc,aM,hh,eG,bL,h1]
  |true=>
   simp[e1]at h1;simp only[if_true];have mem:=asH h4;obtain⟨q1,q2,q3⟩:=I.alive mem e1;obtain⟨r,q4,q5⟩:=I.mk1 q1;have h6:=jd (I.ear b mem);have h7:=Ce a (by omega) _ _ q4;have h8:=Kf M b.sd.ear (firstM c b.sd.o b.sd.g) (by omega);have q6:=jd (GD (I.ear b mem) q5);generalize kY b.sd.ear (firstM c b.sd.o b.sd.g)=e at h8 q6 |-
   have h9:=aaj a I hs b.sd.o b.sd.g e q6 q2;cases e2:BL b.sd.o e (cA (gM c 0 b.sd.g)) (roomOf c b.sd.g) with
   |cons r rs=>
    rw[e2]at h9;show _=_;simp[jx,pH,hc,aM,hh,eG,bL,h1,hb,iB,bY,h7,h8,bW,h9]
   |nil=>
    rw[e2]at h9;have h5:=uH hb (.cut e) (by omega) (by have:=I.en b mem;omega);refine⟨_,L.bs,?_,zH (n:=n3) (e:=.cut e) a h3 h4⟩;simp[En.dat]at h5;simp[jx,pH,hc,aM,hh,eG,bL,h1,hb,bY,bO,h5,bW,h7,h8,h9,tD]
theorem aeO(x:Int):Sp M L (iy M [ob L.c,.int x]) (cP c (.part x)):=by
 have hc:=a.hc;obtain⟨n1,m1,hg⟩:=a.hg;have h1:=adC a I.gr x;have e0:(bJ c x).filter (λy=>!(y==x))=uG c x:=rfl;rw[e0]at h1;simp only[cP,yP];by_cases e1:Vg c x
 .rw[at5 e1]at h1 |-
  by_cases e2:uG c x=[]
  .rw[at5 e2]at h1 |-
   show _=_;simp[iy,qT,hc,aM,hg,dH,qb,h1]
  .rw[at6 e2]at h1 |-
   obtain⟨M',h1,h2⟩:=h1;refine⟨M',L.bs,?_,h2⟩;simp[iy,qT,hc,aM,hg,dH,qb,h1]
 .rw[at6 e1]at h1 |-
  show _=_;simp[iy,qT,hc,aM,hg,dH,qb,h1]
theorem ah2(x y:Int)(hx:Vg c x)(hy:Vg c y):lY M [ob L.c,.int x,.int y]=.ok (.list ((oF (cA (Jz c x y)) (wZ c x y)).map pairD)):=by
 have h1:=I.hL;have f1:=I.few (R:=gM c 0 x) λr hr=>rK hr;have f2:=I.few (R:=gM c 0 y) λr hr=>rK hr;have f3:=I.few (R:=Jz c x y) λr hr=>by
  rcases asR.mp hr with h|h
  .exact rK (ou.mp h)
  .exact rK (ou.mp h)
 have e:JQ L c x y=Jz c x y:=by unfold JQ Jz;rw[lC a,lC a]
 have:=aaX a I.gr (by omega) (by omega) x y hx hy (by rw[lC a];omega) (by rw[lC a];omega) (by rw[e];omega) (by rw[lC a];exact I.Q5) (by rw[lC a];exact I.Q5);rw[e]at this;exact this
theorem ace(x y:Int):Sp M L (eX M [ob L.c,.int x,.int y]) (cP c (.yK x y)):=by
 have hc:=a.hc;obtain⟨n1,m1,hg⟩:=a.hg;have h1:=xQ a y;have h2:=BX a I.gr x;simp only[cP,yP];by_cases e1:Vg c y;rotate_left
 .rw[at6 e1]at h1 |-
  show _=_;simp[eX,jU,hc,aM,hg,dH,aG,h1]
 rw[at5 e1]at h1 |-
 by_cases e2:Vg c x;rotate_left
 .rw[at6 e2]at h2 |-
  show _=_;simp[eX,jU,hc,aM,hg,dH,aG,h1,bV,h2]
 rw[at5 e2]at h2 |-
 have h3:=Jf false y (bJ c x);have h4:=adw a I.gr x y e2 e1;by_cases e3:y∈bJ c x
 .rw[at5 e3];rw[decide_eq_true e3]at h3;show _=_;simp[eX,jU,hc,aM,hg,dH,aG,h1,bV,h2,h3]
 rw[at6 e3]at h4 |-
 rw[decide_eq_false e3]at h3;have h5:=ah2 a I hs hn x y e2 e1;have h6:∀p∈oF (cA (Jz c x y)) (wZ c x y),p.1.2.length=6:=λp hp=>by
  unfold oF at hp;obtain⟨q,hq,hp⟩:=List.mem_flatMap.mp hp;obtain⟨r,_,rfl⟩:=asJ.mp hp;obtain⟨i,hi,rfl⟩:=List.mem_mapIdx.mp hq;have hm:=ou.mp (atm hi);rcases asR.mp hm with h|h
  .exact I.Q5 _ (ou.mp h)
  .exact I.Q5 _ (ou.mp h)
 cases e4:oF (cA (Jz c x y)) (wZ c x y) with
 |cons p ps=>
  rw[e4]at h5 h6;have h7:=Kf M p.1.2 p.2.2 (by have:=h6 p asC;omega);show _=_;simp[eX,jU,hc,aM,hg,dH,aG,h1,bV,h2,h3,o7,h5];simp[pairD,Ear.rD,Ear.dT,h7,HW]
 |nil=>
  rw[e4]at h5;obtain⟨M',h4,h7⟩:=h4;refine⟨M',L.bs,?_,h7⟩;simp[eX,jU,hc,aM,hg,dH,aG,h1,bV,h2,h3,o7,h5,xq,h4]
theorem afu(e g x:Int):Sp M L (cU M [ob L.c,.int e,.int g,.int x]) (cP c (.heir e g x)):=by
 have hc:=a.hc;have hr:=a.hr;obtain⟨n1,m1,hg⟩:=a.hg;have hL:=I.hL;have h1:=mZ a e;have h2:=xQ a g;have h3:=sU a (by omega) e g;simp only[cP,uR,yP,qp];by_cases e1:e∈c.own;rotate_left
 .rw[at6 e1]at h1 |-
  show _=_;simp[cU,eU,hc,aM,aD,h1]
 rw[at5 e1]at h1 |-
 by_cases e2:Vg c g;rotate_left
 .rw[at6 e2]at h2 |-
  show _=_;simp[cU,eU,hc,aM,aD,h1,hg,dH,aG,h2]
 rw[at5 e2]at h2 |-
 by_cases e3:1<=x/\x<=3;rotate_left
 .rw[at6 e3];show _=_;by_cases e4:1<=x
  .have e5:¬x<=3:=λz=>e3 ⟨e4,z⟩;simp[cU,eU,hc,aM,aD,h1,hg,dH,aG,h2,jE,mD,e4,e5]
  .simp[cU,eU,hc,aM,aD,h1,hg,dH,aG,h2,jE,mD,e4]
 rw[at5 e3];obtain⟨e4,e5⟩:=e3;by_cases e6:bT c e g=[]
 .rw[at5 e6]at h3 |-
  show _=_;simp[cU,eU,hc,aM,aD,h1,hg,dH,aG,h2,jE,mD,e4,e5,aO,h3]
 rw[at6 e6]at h3 |-
 obtain⟨r,q4,q5⟩:=I.mk1 e6;have h7:=Ce a (by omega) _ _ q4;have f1:=I.few (R:=gM c 0 g) λr hr=>rK hr;have h8:=Ae a I.gr (by omega) (by omega) g (by rw[lC a];omega);rw[at5 e2,lC a]at h8;have h9:=Bb a I.gr g;rw[at5 e2]at h9;have h10:=Xu M (firstM c e g) x (cA (gM c 0 g)) (roomOf c g) q5 ⟨by omega,e5⟩ (Bg I.Q5) (by rw[uU];omega);cases e7:(Qx (firstM c e g) x).find? (CK (cA (gM c 0 g)) (roomOf c g)) with
 |none=>
  rw[e7]at h10;show _=_;simp[cU,eU,hc,aM,aD,h1,hg,dH,aG,h2,jE,mD,e4,e5,aO,h3,bY,h7,cO,h8,cI,h9,h10]
 |some mk=>
  rw[e7]at h10;obtain⟨M1,k1,a1⟩:=Lz a (λo ho=>(I.own o ho).2) (by have:=I.ownL;omega);have k2:=Nq a1 (by show c.held.length<=50000;omega) (c.count+1) g mk;rw[at6 (λz=>by
   have:=(I.own _ (I.hE _ z).1).2;simp at this
   omega)]at k2
  obtain⟨M2,k2,a2⟩:=k2;have hc1:=a1.hc;have hr1:=a1.hr;refine⟨M2,L.bs,?_,a2⟩;simp[cU,eU,hc,aM,aD,h1,hg,dH,aG,h2,jE,mD,e4,e5,aO,h3,bY,h7,cO,h8,cI,h9,h10,dI,k1];simp[hc1,aM,hr1,pA,jm,k2]
end
section
variable{M:Mo}{L:Lay}{c:aV}(a:At M L c){n s:Nat}(I:Inv n s c)(hs:s<=76)(hn:n<=1000)
include a I hs hn
theorem adV(k o:Int):Sp M L (dO M [ob L.c,.int k,.int o]) (cP c (.sell k o)):=by
 have hc:=a.hc;obtain⟨n2,hh⟩:=a.hh;have hL:=I.hL;have h1:=Nf a (by omega) k;have h2:=mZ a o;simp only[cP,markB,yE,Bw,uR,qp];cases hk:bk c k with
 |none=>
  rw[hk]at h1;show _=_;simp[dO,gG,hc,aM,hh,eG,bD,h1]
 |some b=>
  rw[hk]at h1;obtain⟨k1,k2,h3,h4,n3,hb⟩:=tL a hk;show Sp M L _ (if b.sd.al=true then _ else _);cases e1:b.sd.al with
  |false=>
   simp[e1]at h1;show _=_;simp[dO,gG,hc,aM,hh,eG,bD,h1]
  |true=>
   simp[e1]at h1;simp only[if_true];cases e2:b.sd.due with
   |none=>
    simp[e2]at h1;show _=_;simp[dO,gG,hc,aM,hh,eG,bD,h1]
   |some e0=>
    simp[e2]at h1;show Sp M L _ (if o∈c.own then _ else _);by_cases e3:o∈c.own;rotate_left
    .rw[at6 e3]at h2 |-
     show _=_;simp[dO,gG,hc,aM,hh,eG,bD,h1,aD,h2]
    rw[at5 e3]at h2 |-
    by_cases e4:b.sd.o=o
    .rw[at5 e4];show _=_;simp[dO,gG,hc,aM,hh,eG,bD,h1,aD,h2,hb,e4]
    rw[at6 e4];have h5:=sU a (by omega) o b.sd.g;by_cases e5:bT c o b.sd.g=[]
    .rw[at5 e5]at h5 |-
     show _=_;simp[dO,gG,hc,aM,hh,eG,bD,h1,aD,h2,hb,e4,aO,h5]
    rw[at6 e5]at h5 |-
    have mem:=asH h4;obtain⟨q1,q2,q3⟩:=I.alive mem e1;obtain⟨r,q4,q5⟩:=I.mk1 e5;have h6:=jd (I.ear b mem);have h7:=Ce a (by omega) _ _ q4;have h8:=Kf M b.sd.ear (firstM c o b.sd.g) (by omega);have q6:=jd (GD (I.ear b mem) q5);generalize kY b.sd.ear (firstM c o b.sd.g)=e at h8 q6 |-
    have f1:=I.few (R:=gM c k b.sd.g) λr hr=>rK hr;have h9:=Gi a I.gr (by omega) (by omega) k b.sd.g (by rw[lC a];omega);rw[at5 q2,lC a]at h9;have h10:=Bb a I.gr b.sd.g;rw[at5 q2]at h10;have h11:=Pq M o e (cA (gM c k b.sd.g)) (roomOf c b.sd.g) q6 (Bg I.Q5) (aai (by omega));cases e6:BL o e (cA (gM c k b.sd.g)) (roomOf c b.sd.g) with
    |cons r rs=>
     rw[e6]at h11;show _=_;simp[dO,gG,hc,aM,hh,eG,bD,h1,aD,h2,hb,e4,aO,h5,bY,h7,h8,dD,h9,cI,h10,h11,HW]
    |nil=>
     rw[e6]at h11;have h12:=uH hb (.sold o e) (by omega) (by have:=I.en b mem;omega);have a1:=zH (n:=n3) (e:=.sold o e) a h3 h4;have hk2:bk (iG c (k-1).toNat (.sold o e)) k=some (tD b (.sold o e)):=by unfold bk;rw[at5 ⟨k1,by simpa [iG] using k2⟩,zF,at5 rfl,h4];rfl
     obtain⟨M',h13,a2⟩:=Il a1 (by simp[iG];omega) (I.bi.step _ _ q6) (by omega) k hk2;have hc1:=a1.hc;obtain⟨n4,hh1⟩:=a1.hh;refine⟨M',L.bs,?_,a2⟩;simp[En.dat]at h12;simp only[tD]at h13 hc1 hh1;simp[dO,gG,hc,aM,hh,eG,bD,h1,aD,h2,hb,e4,aO,h5,bY,h7,h8,dD,h9,cI,h10,h11,bO,h12];simp[hc1,aM,hh1,eG,jk,h13]
theorem afQ(k g:Int):Sp M L (dN M [ob L.c,.int k,.int g]) (cP c (.move k g)):=by
 have hc:=a.hc;obtain⟨n2,hh⟩:=a.hh;obtain⟨n5,m5,hg⟩:=a.hg;have hL:=I.hL;have h1:=Nf a (by omega) k;have h2:=xQ a g;simp only[cP,markB,yE,Bw,yP,qp];cases hk:bk c k with
 |none=>
  rw[hk]at h1;show _=_;simp[dN,gD,hc,aM,hh,eG,bD,h1]
 |some b=>
  rw[hk]at h1;obtain⟨k1,k2,h3,h4,n3,hb⟩:=tL a hk;show Sp M L _ (if b.sd.al=true then _ else _);cases e1:b.sd.al with
  |false=>
   simp[e1]at h1;show _=_;simp[dN,gD,hc,aM,hh,eG,bD,h1]
  |true=>
   simp[e1]at h1;simp only[if_true];cases e2:b.sd.due with
   |none=>
    simp[e2]at h1;show _=_;simp[dN,gD,hc,aM,hh,eG,bD,h1]
   |some e=>
    simp[e2]at h1;show Sp M L _ (if Vg c g then _ else _);by_cases e3:Vg c g;rotate_left
    .rw[at6 e3]at h2 |-
     show _=_;simp[dN,gD,hc,aM,hh,eG,bD,h1,hg,dH,aG,h2]
    rw[at5 e3]at h2 |-
    by_cases e4:b.sd.g=g
    .rw[at5 e4];show _=_;simp[dN,gD,hc,aM,hh,eG,bD,h1,hg,dH,aG,h2,hb,e4]
    rw[at6 e4];have h5:=sU a (by omega) b.sd.o g;by_cases e5:bT c b.sd.o g=[]
    .rw[at5 e5]at h5 |-
     show _=_;simp[dN,gD,hc,aM,hh,eG,bD,h1,hg,dH,aG,h2,hb,e4,aO,h5]
    rw[at6 e5]at h5 |-
    have mem:=asH h4;have h6:=jd (I.ear b mem);have q6:=jd (I.due b mem e e2);have h11:=aaj a I hs b.sd.o g e q6 e3;cases e6:BL b.sd.o e (cA (gM c 0 g)) (roomOf c g) with
    |cons r rs=>
     rw[e6]at h11;show _=_;simp[dN,gD,hc,aM,hh,eG,bD,h1,hg,dH,aG,h2,hb,e4,aO,h5,e2,vU,bW,h11]
    |nil=>
     rw[e6]at h11;have h12:=uH hb (.moved g) (by omega) (by have:=I.en b mem;omega);have a1:=zH (n:=n3) (e:=.moved g) a h3 h4;have hk2:bk (iG c (k-1).toNat (.moved g)) k=some (tD b (.moved g)):=by unfold bk;rw[at5 ⟨k1,by simpa [iG] using k2⟩,zF,at5 rfl,h4];rfl
     obtain⟨M',h13,a2⟩:=Il a1 (by simp[iG];omega) (I.bi.step _ _ atV) (by omega) k hk2;have hc1:=a1.hc;obtain⟨n4,hh1⟩:=a1.hh;refine⟨M',L.bs,?_,a2⟩;simp[En.dat]at h12;simp only[tD]at h13 hc1 hh1;simp[dN,gD,hc,aM,hh,eG,bD,h1,hg,dH,aG,h2,hb,e4,aO,h5,e2,vU,bW,h11,bO,h12];simp[hc1,aM,hh1,eG,jk,h13]
theorem aeL(e h:Int):Sp M L (fB M [ob L.c,.int e,.int h]) (cP c (.pass e h)):=by
 have hc:=a.hc;have hr:=a.hr;have hL:=I.hL;have h1:=mZ a e;have h2:=mZ a h;simp only[cP,uR];by_cases e1:e∈c.own;rotate_left
 .rw[at6 e1]at h1 |-
  show _=_;simp[fB,j5,hc,aM,aD,h1]
 rw[at5 e1]at h1 |-
 by_cases e2:h∈c.own;rotate_left
 .rw[at6 e2]at h2 |-
  show _=_;simp[fB,j5,hc,aM,aD,h1,h2]
 rw[at5 e2]at h2 |-
 by_cases e3:e=h
 .rw[at5 e3];show _=_;simp[fB,j5,hc,aM,aD,h1,h2,e3]
 rw[at6 e3];obtain⟨M1,h3,a1⟩:=Zd a (by omega) e h;have hc1:=a1.hc;obtain⟨n1,hh1⟩:=a1.hh;have h4:=agu a1 (by show c.bs.length<=50000;omega) e;have ehd:cD L { c with held:=handed c e h }=cD L c:=rfl;rw[ehd]at h4;generalize hX:((cD L c).filter λx=>(x.2.2.sd.o==e)&&x.2.2.sd.al)=X at h4;have hXl:X.length<=1000:=by rw[<-hX];exact as9 (asW _ _) (by rw[a.len'];omega)
 have bi1:Oa (2*n) { c with held:=handed c e h }:=⟨I.bi.ear,I.bi.en⟩;obtain⟨Z',M2,g1,g2,g3⟩:=Ri (tg:=bF [4,5]) (body:=tZ) (λZ=>∃x y,Z=[some (.dat (ob L.c)),some (.dat (.int e)),some (.dat (.int h)),some (.dat (.list (X.map nb))),x,y])
  (λi c1=>Oa (2*n+i) c1/\c1.bs.length=c.bs.length) (.passed h) L 1000 X M1 { c with held:=handed c e h } [some (.dat (ob L.c)),some (.dat (.int e)),some (.dat (.int h)),some (.dat (.list (X.map nb))),none,none] 0 (by omega) a1 ⟨bi1,rfl⟩ ⟨none,none,rfl⟩ (λM1 c1 Z x i hi a1 p1 q1 hx=>by
   obtain⟨bi1,l1⟩:=p1;obtain⟨x0,y0,rfl⟩:=q1;rw[<-hX]at hx;obtain⟨z1,z2⟩:=Gu (as3.mp hx).1;have hl:x.1<c1.bs.length:=by rw[l1];exact(asx.mp z2).1
   have z3:=asz hl;obtain⟨nx,hx1⟩:=a1.hb _ _ _ z1 z3;have mem:=atm hl;have hb:=uH hx1 (.passed h) (by rw[bi1.ear _ mem];decide) (by have:=bi1.en _ mem;omega);refine⟨[some (.dat (ob L.c)),some (.dat (.int e)),some (.dat (.int h)),some (.dat (.list (X.map nb))),some (.dat (.int ((x.1:Int)+1))),some (.dat (ob x.2.1))],[some (.dat (ob L.c)),some (.dat (.int e)),some (.dat (.int h)),some (.dat (.list (X.map nb))),some (.dat (.int ((x.1:Int)+1))),some (.dat (ob x.2.1))],_,by simp[nb],?_,⟨_,_,rfl⟩,zH (n:=nx) a1 z1 z3,bi1.step _ _ atV,by simp[iG,l1]⟩;have hb:oA M1 [ob x.2.1,.tuple [.str "passed",.int h]]=_:=hb
   simp[tZ,hx1,bO,hb,tD])
 obtain⟨x0,y0,rfl⟩:=g2;have g4:wC X (.passed h) { c with held:=handed c e h }=qG (λx=>(x.sd.o==e)&&x.sd.al) (.passed h) { c with held:=handed c e h }:=by rw[<-hX];exact Xp a1 (λx=>(x.sd.o==e)&&x.sd.al) (.passed h)
 rw[g4]at g3;have hc2:=g3.hc;have hl:∀i,(M2.set L.c i)[L.c]?=some i:=λi=>by rw[bK hc2,at5 rfl]
 have hk:=any_keys e c.own;rw[decide_eq_true e1]at hk;have hf:((c.own.map λo=>(PyData.int o,PyData.bool true)).filter λp=>!PyData.eqv p.1 (.int e))=(c.own.filter λo=>!(o==e)).map λo=>(PyData.int o,PyData.bool true):=by rw[List.filter_map];congr 1
 have a3:=g3.setC (n:=c.count) (own:=c.own.filter λo=>!(o==e));refine⟨_,L.bs,?_,a3⟩;have key:=gJ (tg:=bF [4,5]) (te:=aq 4) (M:=M2.set L.c (aM L { qG (λx=>(x.sd.o==e)&&x.sd.al) (.passed h) { c with held:=handed c e h } with count:=c.count,own:=c.own.filter λo=>!(o==e) })) (Z:=[some (.dat (ob L.c)),some (.dat (.int e)),some (.dat (.int h)),some (.dat (.list (X.map nb))),none,none]) nb (λx=>.int ((x.1:Int)+1)) X λx _=>⟨[some (.dat (ob L.c)),some (.dat (.int e)),some (.dat (.int h)),some (.dat (.list (X.map nb))),some (.dat (.int ((x.1:Int)+1))),some (.dat (ob x.2.1))],by simp[nb],by simp⟩;have eo:(Ub c e).map PyData.int=X.map λx=>.int ((x.1:Int)+1):=by unfold Ub;rw[<-NT a,List.filter_map,atd,atd,<-hX];rfl
 have eo:lI (Ub c e)=.list (X.map λx=>.int ((x.1:Int)+1)):=congrArg PyData.list eo;have hX2:X.length<=50000:=by omega
 have f2:c.own.length<=100000:=by have:=I.ownL;omega
 rw[eo];simp[fB,j5,hc,aM,aD,h1,h2,e3,hr,pA,tV,h3];simp[hc1,aM,hh1,eG,Cd,h4,g1];simp only[qG]at hc2 key |-
 have hk':(c.own.any ((λp=>PyData.eqv p.1 (.int e)) ∘ λo=>(PyData.int o,PyData.bool true)))=true:=by rw[<-atJ];exact hk
 simp[hc2,aM,f2];rw[hk',hf];simp only[aM]at key;simp[key,hX2]
end
theorem dJ.same{c c':aV}(i:dJ c)(h1:c'.al=c.al)(h2:c'.ci=c.ci):dJ c':=by cases c;cases c';simp at h1 h2;subst h1 h2;exact⟨i.len,i.few,i.al,i.mem,i.own,i.up,i.one⟩
theorem dJ.lt{c:aV}(i:dJ c){k:Nat}{l:List Int}(h:c.ci[k]?=some l):k<c.al.length:=by rw[<-i.len];exact(asx.mp h).1
theorem dJ.add{c:aV}(i:dJ c)(hf:c.al.length<200){x:Int}(hx:0<=x/\x<=9):dJ { c with al:=c.al++[x],ci:=c.ci++[[(c.al.length:Int)+1]] }:=by
 have key:∀(k:Nat) (l:List Int),(c.ci++[[(c.al.length:Int)+1]])[k]?=some l->(c.ci[k]?=some l/\k<c.al.length)\/(k=c.al.length/\l=[(c.al.length:Int)+1]):=λk l h=>by
  by_cases hk:k<c.ci.length
  .rw[asM hk]at h;exact .inl ⟨h,i.lt h⟩
  .rw[asU (by omega)]at h;have hk2:k-c.ci.length=0:=by
    have:=(asx.mp h).1;simp at this;omega
   rw[hk2]at h;simp at h;exact .inr ⟨by have:=i.len;omega,h.symm⟩
 refine⟨by simp[i.len],by simp;omega,λy hy=>?_,λk l h y hy=>?_,λk l h=>?_,λk l h=>?_,λk j l h hj=>?_⟩
 .rcases asR.mp hy with hy|hy
  .exact i.al y hy
  .rw[asF.mp hy];exact hx
 .show 1<=y/\y<=((c.al++[x]).length:Int);rw[ati,List.length_singleton];rcases key k l h with⟨h,_⟩|⟨_,rfl⟩
  .have:=i.mem k l h y hy;omega
  .rw[asF.mp hy];omega
 .rcases key k l h with⟨h,_⟩|⟨rfl,rfl⟩
  .exact i.own k l h
  .simp
 .rcases key k l h with⟨h,_⟩|⟨rfl,rfl⟩
  .exact i.up k l h
  .simp
 .show(c.ci++[[(c.al.length:Int)+1]])[j]?=some l
  rcases key k l h with⟨h,_⟩|⟨rfl,rfl⟩
  .have h2:=i.one k j l h hj;rw[asM (asx.mp h2).1];exact h2
  .have:j=c.al.length:=by
    rw[asF]at hj;omega
   rw[this,<-i.len];simp
theorem Z6(l:List Int):∀(s:List Int) (ci:List (List Int)) (k:Nat),(∀y∈s,1<=y)->(s.foldl (λs y=>s.set (y-1).toNat l) ci)[k]?=if ((k:Int)+1∈s)/\k<ci.length then some l else ci[k]?
 |[],ci,k,_=>by simp
 |y::s,ci,k,h=>by
  rw[atG,Z6 l s _ k λz hz=>h z (asB _ hz),as5];have hy:=h y asC;by_cases h1:(k:Int)+1∈s/\k<ci.length
  .rw[at5 h1,at5 ⟨asB _ h1.1,h1.2⟩]
  .rw[at6 h1,atx];by_cases h2:(y-1).toNat=k
   .rw[at5 h2];have e:(k:Int)+1=y:=by omega
    by_cases h3:k<ci.length
    .rw[at5 (by omega),at5 ⟨by rw[e];exact asC,h3⟩]
    .rw[at6 (by omega),at6 (λz=>h3 z.2),atb (by omega)]
   .rw[at6 h2,at6];rintro⟨z,h3⟩;rcases asN.mp z with z|z
    .omega
    .exact h1 ⟨z,h3⟩
theorem QL(ci:List (List Int))(l:List Int)(k:Nat)(h:∀y∈l,1<=y):(encl ci l)[k]?=if ((k:Int)+1∈l)/\k<ci.length then some l else ci[k]?:=Z6 l l ci k h
theorem dJ.again{c:aV}(i:dJ c){ci:List (List Int)}(hl:ci.length=c.ci.length)(P:List Int->Prop)
  (h1:∀(k:Nat) (l:List Int),ci[k]?=some l->(P l/\(k:Int)+1∈l)\/c.ci[k]?=some l)
  (h2:∀l,P l->l.Pairwise (· < ·)/\∀y∈l,Vg c y/\ci[(y-1).toNat]?=some l)
  (h3:∀(k j:Nat) (l:List Int),ci[k]?=some l->c.ci[k]?=some l->c.ci[j]?=some l->(k:Int)+1∈l->¬P l->ci[j]?=some l):dJ { c with ci:=ci }:=by
 refine⟨by show ci.length=_;rw[hl,i.len],i.few,i.al,λk l h y hy=>?_,λk l h=>?_,λk l h=>?_,λk j l h hj=>?_⟩
 .rcases h1 k l h with⟨p,_⟩|h
  .exact((h2 l p).2 y hy).1
  .exact i.mem k l h y hy
 .rcases h1 k l h with⟨_,p⟩|h
  .exact p
  .exact i.own k l h
 .rcases h1 k l h with⟨p,_⟩|h
  .exact(h2 l p).1
  .exact i.up k l h
 .show ci[j]?=some l;have pj:P l->ci[j]?=some l:=λp=>by
   have:=((h2 l p).2 _ hj).2
   rwa [show((j:Int)+1-1).toNat=j by omega]at this
  rcases h1 k l h with⟨p,_⟩|h'
  .exact pj p
  .by_cases p:P l
   .exact pj p
   .exact h3 k j l h h' (i.one k j l h' hj) (i.own k l h') p
theorem dJ.at{c:aV}(i:dJ c){x:Int}(h:Vg c x):c.ci[(x-1).toNat]?=some (bJ c x):=by
 obtain⟨k,hk,rfl⟩:=El h;have hk':k<c.ci.length:=by rw[i.len];exact hk
 simp[bJ,hk']
theorem dJ.self{c:aV}(i:dJ c){x:Int}(h:Vg c x):x∈bJ c x:=by
 have:=i.own _ _ (i.at h)
 rwa [show(((x-1).toNat:Nat):Int)+1=x by omega]at this
theorem dJ.eq{c:aV}(i:dJ c){x y:Int}(h:Vg c x)(hy:y∈bJ c x):bJ c y=bJ c x:=by have v:=i.mem _ _ (i.at h) y hy;have:=i.one _ (y-1).toNat _ (i.at h) (by rw[show(((y-1).toNat:Nat):Int)+1=y by omega];exact hy);rw[i.at v]at this;exact asZ this
theorem adT{l:List Int}{i:Int}:i∈sortI l↔i∈l:=by unfold sortI;rw[List.mem_mergeSort]
theorem agI{l:List Int}(h:l.Nodup):(sortI l).Pairwise (· < ·):=by unfold sortI;have srt:=List.pairwise_mergeSort (le:=λa b:Int=>decide (a<=b)) (λa b c k1 k2=>by rw[atY]at *;omega) (λa b=>by rw[atQ,atY,atY];omega) l;have nd:(l.mergeSort λa b=>decide (a<=b)).Nodup:=(List.mergeSort_perm _ _).nodup_iff.mpr h;refine List.Pairwise.imp₂ (λa b h1 h2=>?_) srt nd;rw[atY]at h1;have:a≠b:=h2;omega
theorem dJ.yK{c:aV}(i:dJ c){x y:Int}(hx:Vg c x)(hy:Vg c y)(hn:y∉bJ c x):dJ { c with ci:=encl c.ci (sortI (bJ c x++bJ c y)) }:=by
 generalize hS:sortI (bJ c x++bJ c y)=S;have mem:∀z,z∈S↔z∈bJ c x\/z∈bJ c y:=λz=>by rw[<-hS,adT,asR]
 have vg:∀z∈S,Vg c z:=λz hz=>by
  rcases(mem z).mp hz with h|h
  .exact i.mem _ _ (i.at hx) z h
  .exact i.mem _ _ (i.at hy) z h
 have up:S.Pairwise (· < ·):=by
  rw[<-hS];refine agI ?_;rw[ato];have nd:∀{l:List Int},l.Pairwise (· < ·)->l.Nodup:=λh=>h.imp λ{a b} z e=>by omega
  refine⟨nd (i.up _ _ (i.at hx)),nd (i.up _ _ (i.at hy)),λa ha b hb e=>?_⟩;subst e;have e1:=i.eq hx ha;have e2:=i.eq hy hb;rw[e1]at e2;exact hn (e2 ▸ i.self hy)
 have get:=λk=>QL c.ci S k λz hz=>(vg z hz).1;refine i.again (P:=λl=>l=S) (by unfold encl;rw[zu]) (λk l h=>?_) (λl hl=>?_) (λk j l h h' hj hk np=>?_)
 .rw[get]at h;split at h
  .next z=>
   cases h;exact .inl ⟨rfl,z.1⟩
  .exact .inr h
 .subst hl;refine⟨up,λz hz=>⟨vg z hz,?_⟩⟩;have v:=vg z hz;have e:(((z-1).toNat:Nat):Int)+1=z:=by omega
  rw[get,e,at5 ⟨hz,by rw[i.len];omega⟩]
 .rw[get];by_cases z:(j:Int)+1∈S/\j<c.ci.length
  .exfalso;have v:=vg _ z.1;have ej:bJ c ((j:Int)+1)=l:=by
    have:=i.at v;rw[show((j:Int)+1-1).toNat=j by omega,hj]at this;exact(asZ this).symm
   have hk2:(k:Int)+1∈S:=by
    rw[mem];rcases(mem _).mp z.1 with q|q
    .exact .inl (by rw[<-i.eq hx q,ej];exact hk)
    .exact .inr (by rw[<-i.eq hy q,ej];exact hk)
   rw[get,at5 ⟨hk2,(asx.mp h').1⟩]at h;exact np (asZ h).symm
  .rw[at6 z];exact hj
theorem dJ.part{c:aV}(i:dJ c){x:Int}(hx:Vg c x):dJ { c with ci:=encl (encl c.ci [x]) (uG c x) }:=by
 have mem:∀z,z∈uG c x↔z∈bJ c x/\z≠x:=λz=>by
  unfold uG;rw[as3];simp
 have vg:∀z∈uG c x,Vg c z:=λz hz=>i.mem _ _ (i.at hx) z ((mem z).mp hz).1;have l1:(encl c.ci [x]).length=c.ci.length:=by unfold encl;rw[zu]
 have get:∀k:Nat,(encl (encl c.ci [x]) (uG c x))[k]?=if ((k:Int)+1∈uG c x)/\k<c.ci.length then some (uG c x) else if ((k:Int)+1=x)/\k<c.ci.length then some [x] else c.ci[k]?:=λk=>by
  rw[QL _ _ _ λz hz=>(vg z hz).1,l1,QL _ _ _ λz hz=>by rw[asF.mp hz];exact hx.1];simp only[asF]
 refine i.again (P:=λl=>l=uG c x/\l≠[]\/l=[x]) (by unfold encl;rw[zu,zu]) (λk l h=>?_) (λl hl=>?_) (λk j l h h' hj hk np=>?_)
 .rw[get]at h;split at h
  .next z=>
   cases h;exact .inl ⟨.inl ⟨rfl,List.ne_nil_of_mem z.1⟩,z.1⟩
  .split at h
   .next z=>
    cases h;exact .inl ⟨.inr rfl,by rw[z.1];simp⟩
   .exact .inr h
 .rcases hl with⟨rfl,_⟩|rfl
  .refine⟨(i.up _ _ (i.at hx)).filter _,λz hz=>⟨vg z hz,?_⟩⟩;have v:=vg z hz;have e:(((z-1).toNat:Nat):Int)+1=z:=by omega
   rw[get,e,at5 ⟨hz,by rw[i.len];omega⟩]
  .refine⟨by simp,λz hz=>?_⟩;rw[asF.mp hz];refine⟨hx,?_⟩;have e:(((x-1).toNat:Nat):Int)+1=x:=by omega
   rw[get,e,at6 (λz=>((mem x).mp z.1).2 rfl),at5 ⟨rfl,by rw[i.len];omega⟩]
 .have key:∀m:Nat,c.ci[m]?=some l->(m:Int)+1∈bJ c x->l=bJ c x:=λm hm q=>by
   have v:=i.mem _ _ (i.at hx) _ q;have:=i.at v;rw[show((m:Int)+1-1).toNat=m by omega,hm,i.eq hx q]at this;exact asZ this
  have out:(k:Int)+1∉bJ c x:=λq=>by
   rw[get]at h;by_cases e:(k:Int)+1=x
   .rw[at6 (λz=>((mem _).mp z.1).2 e),at5 ⟨e,(asx.mp h').1⟩]at h;exact np (.inr (asZ h).symm)
   .rw[at5 ⟨(mem _).mpr ⟨q,e⟩,(asx.mp h').1⟩]at h;have e2:=(asZ h).symm;exact np (.inl ⟨e2,λz=>by rw[z]at hk;cases hk⟩)
  have outj:(j:Int)+1∉bJ c x:=λq=>out (key j hj q ▸ hk);have o1:¬((j:Int)+1∈uG c x/\j<c.ci.length):=λz=>outj ((mem _).mp z.1).1;have o2:¬((j:Int)+1=x/\j<c.ci.length):=λz=>outj (by rw[z.1];exact i.self hx);rw[get,at6 o1,at6 o2];exact hj
def Good(held:List Row3)(s:Sd):Prop:=cY s.ear=true/\(∀e,s.due=some e->cY e=true)/\(s.al=true->∃m,(s.o,s.g,m)∈held)
structure T7(m:Nat)(c:aV):Prop where
 g:∀b∈c.bs,Good c.held b.sd
 en:∀b∈c.bs,b.en.length<=m
theorem Inv.Zk{n s:Nat}{c:aV}(I:Inv n s c):T7 (2*n) c:=⟨λb hb=>⟨I.ear b hb,I.due b hb,I.rt b hb⟩,I.en⟩
theorem Zz{c:aV}{i:Nat}{e:En}{b:gR}(h:b∈(iG c i e).bs):b∈c.bs\/∃b0,c.bs[i]?=some b0/\b=tD b0 e:=by
 obtain⟨j,hj⟩:=List.mem_iff_getElem?.mp h;rw[zF]at hj;split at hj
 .next z=>
  subst z;obtain⟨b0,h3,h4⟩:=atr.mp hj;exact .inr ⟨b0,h3,h4.symm⟩
 .exact .inl (asH hj)
theorem T7.one{m:Nat}{c:aV}(B:T7 m c){i:Nat}{e:En}(h:∀b,c.bs[i]?=some b->Good c.held (go b.sd e)):T7 (m+1) (iG c i e):=by
 refine⟨λb hb=>?_,λb hb=>?_⟩
 .rcases Zz hb with h1|⟨b0,h1,rfl⟩
  .exact B.g b h1
  .exact h b0 h1
 .rcases Zz hb with h1|⟨b0,h1,rfl⟩
  .have:=B.en b h1;omega
  .have:=B.en b0 (asH h1);simp[tD];omega
theorem T7.many{m:Nat}{c:aV}(B:T7 m c){p:gR->Bool}{e:En}(h:∀b∈c.bs,p b=true->Good c.held (go b.sd e)):T7 (m+1) (qG p e c):=by
 refine⟨λb hb=>?_,λb hb=>?_⟩
 .obtain⟨b0,h1,rfl⟩:=asJ.mp hb;cases hp:p b0 with
  |true=>
   rw[at5 rfl];exact h b0 h1 hp
  |false=>
   rw[at6 (by simp)];exact B.g b0 h1
 .obtain⟨b0,h1,rfl⟩:=asJ.mp hb;have:=B.en b0 h1;cases hp:p b0<;>simp[tD]<;>omega
theorem Good.mono{held held':List Row3}{s:Sd}(g:Good held s)(h:∀r∈held,r∈held'):Good held' s:=⟨g.1,g.2.1,λz=>by
 obtain⟨m,hm⟩:=g.2.2 z;exact⟨m,h _ hm⟩⟩
theorem Inv.of{n s n' s':Nat}{c c':aV}(I:Inv n s c)(hn:n<=n')(gr:dJ c')(hal:c'.al.length<=n')(ec:c'.count=c.count)(eo:c'.own=c.own)(hd:c'.held.Nodup)(hL:c'.held.length+c'.bs.length<=s')(hE:∀r∈c'.held,r.1∈c'.own/\Vg c' r.2.1/\cY r.2.2=true)(B:T7 (2*n') c'):Inv n' s' c':=
 ⟨gr,hal,by have:=I.cnt;rw[ec];omega,by rw[ec,eo];exact I.own,by rw[eo];exact I.Qa,by have:=I.ownL;rw[eo];omega,hd,hL,hE,λb hb=>(B.g b hb).1,λb hb=>(B.g b hb).2.1,B.en,λb hb=>(B.g b hb).2.2⟩
theorem adp{x:List Int}{p:Nat}(h:cY x=true)(h9:¬9<=x.getD p 0):cY (yg x p)=true:=by
 unfold cY at *;simp only[asw,atY,asV]at *;refine⟨by rw[acv];exact h.1,λd hd=>?_⟩;unfold yg at hd;obtain⟨i,hi,rfl⟩:=List.mem_mapIdx.mp hd;have:=h.2 _ (atm hi);split
 .next e=>
  subst e;have:x.getD i 0=x[i]:=by simp[hi]
  omega
 .exact this
theorem Qv{r:Row3}:∀(l acc:List Row3),r∈l.foldl Hh acc↔r∈acc\/r∈l
 |[],acc=>by simp
 |x::l,acc=>by
  rw[atG,Qv l];unfold Hh;split
  .next h=>
   constructor
   .rintro(z|z)
    .exact .inl z
    .exact .inr (asB _ z)
   .rintro(z|z)
    .exact .inl z
    .rcases asN.mp z with rfl|z
     .exact .inl h
     .exact .inr z
  .simp[or_assoc]
theorem TJ:∀(l acc:List Row3),acc.Nodup->(l.foldl Hh acc).Nodup
 |[],acc,h=>h
 |x::l,acc,h=>by
  rw[atG];refine TJ l _ ?_;unfold Hh;split
  .exact h
  .next z=>
   rw[ato];exact⟨h,by simp,λa ha b hb e=>z (by rw[asF.mp hb]at e;exact e ▸ ha)⟩
theorem aap:∀(l acc:List Row3),(l.foldl Hh acc).length<=acc.length+l.length
 |[],acc=>by simp
 |x::l,acc=>by
  rw[atG];refine as9 (aap l _) ?_;unfold Hh
  split<;>simp<;>omega
def cost:bf->Nat
 |.enrol ..=>1
 |.bring ..=>1
 |.bear ..=>1
 |.heir ..=>1
 |_=>0
theorem Ot{o room:Int}{e:List Int}{R:List Rw}{x:Res}{d:Dat}{c':aV}(h:Bw o e R room x=.ok d c'):x=.ok d c':=by
 unfold Bw at h;split at h
 .exact h
 .cases h
theorem zM{c:aV}{o:Int}{x:Res}{d:Dat}{c':aV}(h:uR c o x=.ok d c'):o∈c.own/\x=.ok d c':=by
 unfold uR at h;split at h
 .next z=>exact⟨z,h⟩
 .cases h
theorem Bp{c:aV}{g:Int}{x:Res}{d:Dat}{c':aV}(h:yP c g x=.ok d c'):Vg c g/\x=.ok d c':=by
 unfold yP at h;split at h
 .next z=>exact⟨z,h⟩
 .cases h
theorem abr{e:List Int}{x:Res}{d:Dat}{c':aV}(h:Lr e x=.ok d c'):cY e=true/\x=.ok d c':=by
 unfold Lr at h;split at h
 .next z=>exact⟨z,h⟩
 .cases h
theorem Bv{c:aV}{o g:Int}{x:Res}{d:Dat}{c':aV}(h:qp c o g x=.ok d c'):bT c o g≠[]/\x=.ok d c':=by
 unfold qp at h;split at h
 .cases h
 .next z=>exact⟨z,h⟩
theorem Oz{c:aV}{k:Int}{f:gR->Res}{d:Dat}{c':aV}(h:yE c k f=.ok d c'):∃b,bk c k=some b/\b.sd.al=true/\f b=.ok d c':=by
 unfold yE at h;split at h
 .cases h
 .next b hb=>
  split at h
  .next z=>exact⟨b,hb,z,h⟩
  .cases h
theorem QH{c:aV}{k:Int}{f:gR->List Int->Res}{d:Dat}{c':aV}(h:markB c k f=.ok d c'):∃b e,bk c k=some b/\b.sd.al=true/\b.sd.due=some e/\f b e=.ok d c':=by
 obtain⟨b,h1,h2,h3⟩:=Oz h;split at h3
 .cases h3
 .next e he=>exact⟨b,e,h1,h2,he,h3⟩
theorem yJ{p:Prop}[Decidable p]{x:dX}{y:Res}{d:Dat}{c':aV}(h:(if p then .no x else y)=Res.ok d c'):¬p/\y=.ok d c':=by
 split at h
 .cases h
 .next z=>exact⟨z,h⟩
theorem VL{p:Prop}[Decidable p]{x:dX}{y:Res}{d:Dat}{c':aV}(h:(if p then y else .no x)=Res.ok d c'):p/\y=.ok d c':=by
 split at h
 .next z=>exact⟨z,h⟩
 .cases h
theorem uX{c:aV}{k:Int}{b:gR}(h:bk c k=some b):c.bs[(k-1).toNat]?=some b/\1<=k/\k<=c.bs.length:=by
 unfold bk at h;split at h
 .next z=>exact⟨h,z⟩
 .cases h
theorem R7(c:aV)(k o g:Int):(Df c k o g).bs.length=c.bs.length:=by simp[Df,qG]
theorem DG(c:aV)(i:Nat)(e:En):(iG c i e).bs.length=c.bs.length:=by simp[iG]
theorem aa2{n s:Nat}{c c':aV}{d:bf}{r:Dat}(I:Inv n s c)(hn:c.al.length<=199)(h:cP c d=.ok r c'):Inv (n+1) (s+cost d) c':=by
 have L0:=I.hL;have A0:=I.al;have C0:=I.cnt;have O0:=I.ownL;have up:T7 (2*(n+1)) c:=⟨I.Zk.g,λb hb=>by have:=I.en b hb;omega⟩;cases d with
 |owner=>
  cases h;refine⟨I.gr.same rfl rfl,by show c.al.length<=_;omega,⟨by show 0<=c.count+1;omega,by show c.count+1<=((n+1:Nat):Int);omega⟩,λo ho=>?_,?_,by simp;omega,I.held,by simp[cost];omega,λr hr=>?_,I.ear,I.due,up.en,I.rt⟩
  .show 1<=o/\o<=c.count+1;rcases asR.mp ho with ho|ho
   .have:=I.own o ho;omega
   .rw[asF.mp ho];omega
  .rw[ato];refine⟨I.Qa,by simp,λa ha b hb e=>?_⟩;rw[asF.mp hb]at e;have:=I.own a ha;omega
  .obtain⟨h1,h2,h3⟩:=I.hE r hr;exact⟨atf _ h1,h2,h3⟩
 |ground x=>
  obtain⟨hx,h⟩:=VL h;cases h;refine I.of (by omega) (I.gr.add (by omega) hx) (by simp;omega) rfl rfl I.held (by simp[cost];omega) (λr hr=>?_) ⟨up.g,up.en⟩;obtain⟨h1,h2,h3⟩:=I.hE r hr;refine⟨h1,?_,h3⟩;show 1<=_/\_<=((c.al++[x]).length:Int);rw[ati];have:=h2.2;exact⟨h2.1,by omega⟩
 |enrol o g m=>
  obtain⟨h1,h⟩:=zM h;obtain⟨h2,h⟩:=Bp h;obtain⟨h3,h⟩:=abr h;obtain⟨h4,h⟩:=yJ h;obtain⟨h5,h⟩:=yJ h;have h:=Ot h;cases h;refine I.of (by omega) (I.gr.same rfl rfl) (by show c.al.length<=_;omega) rfl rfl ?_ (by simp[cost];omega) (λr hr=>?_) ⟨λb hb=>(up.g b hb).mono λr hr=>atf _ hr,up.en⟩
  .rw[ato];refine⟨I.held,by simp,λa ha b hb e=>?_⟩;rw[asF.mp hb]at e;exact h5 (Fp.mpr (e ▸ ha))
  .rcases asR.mp hr with hr|hr
   .exact I.hE r hr
   .rw[asF.mp hr];exact⟨h1,h2,h3⟩
 |leave o g=>
  obtain⟨h1,h⟩:=zM h;obtain⟨h2,h⟩:=Bp h;obtain⟨h3,h⟩:=Bv h;obtain⟨h4,h⟩:=yJ h;cases h;have sub:∀r∈dropped c o g,r∈c.held:=λr hr=>(as3.mp hr).1;have ln:(dropped c o g).length<=c.held.length:=asW _ _;refine I.of (by omega) (I.gr.same rfl rfl) (by show c.al.length<=_;omega) rfl rfl (I.held.filter _) (by simp[cost];omega) (λr hr=>I.hE r (sub r hr)) ⟨λb hb=>⟨(up.g b hb).1,(up.g b hb).2.1,λhal=>?_⟩,up.en⟩;obtain⟨m,hm⟩:=(up.g b hb).2.2 hal;refine⟨m,as3.mpr ⟨hm,?_⟩⟩;simp only[asO,Bool.and_eq_false_iff,beq_eq_false_iff_ne];by_cases e:b.sd.o=o/\b.sd.g=g
  .exfalso;refine h4 (List.any_eq_true.mpr ⟨b,hb,?_⟩);simp[X7,hal,e.1,e.2]
  .by_cases e1:b.sd.o=o
   .exact .inr λz=>e ⟨e1,z⟩
   .exact .inl e1
 |bring o g e=>
  obtain⟨h1,h⟩:=zM h;obtain⟨h2,h⟩:=Bp h;obtain⟨h3,h⟩:=abr h;obtain⟨h4,h⟩:=Bv h;cases h;refine I.of (by omega) (I.gr.same rfl rfl) (by show c.al.length<=_;omega) rfl rfl I.held (by simp[cost];omega) I.hE ⟨λb hb=>?_,λb hb=>?_⟩
  .rcases asR.mp hb with hb|hb
   .exact up.g b hb
   .rw[asF.mp hb];exact⟨h3,λe z=>(by cases z),λ_=>zJ.mp h4⟩
  .rcases asR.mp hb with hb|hb
   .exact up.en b hb
   .rw[asF.mp hb];simp[GX]
 |bear k=>
  obtain⟨b0,e0,h1,h2,h3,h⟩:=QH h;cases h;refine I.of (by omega) (I.gr.same rfl rfl) (by show c.al.length<=_;omega) rfl rfl I.held (by simp[cost];omega) I.hE ⟨λb hb=>?_,λb hb=>?_⟩
  .rcases asR.mp hb with hb|hb
   .exact up.g b hb
   .rw[asF.mp hb];exact⟨(by decide:cY [0,0,0,0,0,0]=true),λe z=>(by cases z),λ_=>(up.g b0 (asH (uX h1).1)).2.2 h2⟩
  .rcases asR.mp hb with hb|hb
   .exact up.en b hb
   .rw[asF.mp hb];simp[GX]
 |cut k=>
  obtain⟨b0,h1,h2,h⟩:=Oz h;have h:=Ot h;cases h;have hm:=asH (uX h1).1;obtain⟨r,q4,q5⟩:=I.mk1 (I.alive hm h2).1;have je:=GD (I.ear b0 hm) q5;generalize kY b0.sd.ear (firstM c b0.sd.o b0.sd.g)=e at je |-
  have B:=I.Zk.one (i:=(k-1).toNat) (e:=.cut e) λb hb=>by
   rw[(uX h1).1]at hb;cases hb;exact⟨je,λe z=>(by cases z;exact je),λ_=>I.rt b0 hm h2⟩
  exact I.of (by omega) (I.gr.same rfl rfl) (by show c.al.length<=_;omega) rfl rfl I.held (by rw[DG];simp[cost,iG];omega) I.hE ⟨B.g,λb hb=>by have:=B.en b hb;omega⟩
 |tear k p=>
  obtain⟨b0,h1,h2,h⟩:=Oz h;obtain⟨h3,h⟩:=VL h;obtain⟨h4,h⟩:=yJ h;cases h;have hm:=asH (uX h1).1;have B:=I.Zk.one (i:=(k-1).toNat) (e:=.torn p.toNat) λb hb=>by
   rw[(uX h1).1]at hb;cases hb;exact⟨adp (I.ear b0 hm) h4,I.due b0 hm,I.rt b0 hm⟩
  exact I.of (by omega) (I.gr.same rfl rfl) (by show c.al.length<=_;omega) rfl rfl I.held (by rw[DG];simp[cost,iG];omega) I.hE ⟨B.g,λb hb=>by have:=B.en b hb;omega⟩
 |die k=>
  obtain⟨b0,h1,h2,h⟩:=Oz h;cases h;have hm:=asH (uX h1).1;have B:=I.Zk.one (i:=(k-1).toNat) (e:=.died) λb hb=>by
   rw[(uX h1).1]at hb;cases hb;exact⟨I.ear b0 hm,I.due b0 hm,λz=>by cases z⟩
  exact I.of (by omega) (I.gr.same rfl rfl) (by show c.al.length<=_;omega) rfl rfl I.held (by rw[DG];simp[cost,iG];omega) I.hE ⟨B.g,λb hb=>by have:=B.en b hb;omega⟩
 |sell k o=>
  obtain⟨b0,e0,h1,h2,h3,h⟩:=QH h;obtain⟨h4,h⟩:=zM h;obtain⟨h5,h⟩:=yJ h;obtain⟨h6,h⟩:=Bv h;have h:=Ot h;cases h;have hm:=asH (uX h1).1;obtain⟨r,q4,q5⟩:=I.mk1 h6;have je:=GD (I.ear b0 hm) q5;generalize kY b0.sd.ear (firstM c o b0.sd.g)=e at je |-
  have B:=I.Zk.one (i:=(k-1).toNat) (e:=.sold o e) λb hb=>by
   rw[(uX h1).1]at hb;cases hb;exact⟨je,λe z=>(by cases z;exact je),λ_=>zJ.mp h6⟩
  have B2:=B.many (p:=λx=>Ad k x&&x.sd.al) (e:=.followed o b0.sd.g) λb hb _=>⟨(B.g b hb).1,(B.g b hb).2.1,λ_=>zJ.mp h6⟩;exact I.of (by omega) (I.gr.same rfl rfl) (by show c.al.length<=_;omega) rfl rfl I.held (by rw[R7,DG];simp[cost,iG,Df,qG];omega) I.hE ⟨B2.g,λb hb=>by have:=B2.en b hb;omega⟩
 |move k g=>
  obtain⟨b0,e0,h1,h2,h3,h⟩:=QH h;obtain⟨h4,h⟩:=Bp h;obtain⟨h5,h⟩:=yJ h;obtain⟨h6,h⟩:=Bv h;have h:=Ot h;cases h;have hm:=asH (uX h1).1;have B:=I.Zk.one (i:=(k-1).toNat) (e:=.moved g) λb hb=>by
   rw[(uX h1).1]at hb;cases hb;exact⟨I.ear b0 hm,I.due b0 hm,λ_=>zJ.mp h6⟩
  have B2:=B.many (p:=λx=>Ad k x&&x.sd.al) (e:=.followed b0.sd.o g) λb hb _=>⟨(B.g b hb).1,(B.g b hb).2.1,λ_=>zJ.mp h6⟩;exact I.of (by omega) (I.gr.same rfl rfl) (by show c.al.length<=_;omega) rfl rfl I.held (by rw[R7,DG];simp[cost,iG,Df,qG];omega) I.hE ⟨B2.g,λb hb=>by have:=B2.en b hb;omega⟩
 |yK x y=>
  obtain⟨h1,h⟩:=Bp h;obtain⟨h2,h⟩:=Bp h;obtain⟨h3,h⟩:=yJ h;split at h
  .cases h
  .cases h;exact I.of (by omega) (I.gr.yK h2 h1 h3) (by show c.al.length<=_;omega) rfl rfl I.held (by show c.held.length+c.bs.length<=_;omega) I.hE ⟨up.g,up.en⟩
 |part x=>
  obtain⟨h1,h⟩:=Bp h;obtain⟨h3,h⟩:=yJ h;cases h;exact I.of (by omega) (I.gr.part h1) (by show c.al.length<=_;omega) rfl rfl I.held (by show c.held.length+c.bs.length<=_;omega) I.hE ⟨up.g,up.en⟩
 |pass e h'=>
  obtain⟨h1,h⟩:=zM h;obtain⟨h2,h⟩:=zM h;obtain⟨h3,h⟩:=yJ h;cases h;have hin:∀r∈c.held,CG e h' r∈handed c e h':=λr hr=>(Qv _ _).mpr (.inr (asJ.mpr ⟨r,hr,rfl⟩));have hout:∀r∈handed c e h',∃r0∈c.held,CG e h' r0=r:=λr hr=>by
   rcases(Qv _ _).mp hr with z|z
   .cases z
   .obtain⟨r0,z1,z2⟩:=asJ.mp z;exact⟨r0,z1,z2⟩
  have hl:(handed c e h').length<=c.held.length:=by have:=aap (c.held.map (CG e h')) [];simpa [handed] using this
  have ow:∀o,o∈c.own.filter (λo=>!(o==e))↔o∈c.own/\o≠e:=λo=>by
   rw[as3];simp
  have g:∀b∈(qG (λb=>(b.sd.o==e)&&b.sd.al) (.passed h') c).bs,Good (handed c e h') b.sd:=λb hb=>by
   obtain⟨b0,hb0,rfl⟩:=asJ.mp hb;have G:=up.g b0 hb0;cases hp:((b0.sd.o==e)&&b0.sd.al) with
   |true=>
    simp only[hp,if_true];refine⟨G.1,G.2.1,λhal=>?_⟩;obtain⟨m,hm⟩:=G.2.2 hal;have:=hin _ hm;simp at hp;rw[hp.1]at this;exact⟨m,by simpa [CG,tD,go] using this⟩
   |false=>
    simp only[hp];refine⟨G.1,G.2.1,λhal=>?_⟩;obtain⟨m,hm⟩:=G.2.2 hal;have:=hin _ hm;have hal:b0.sd.al=true:=hal;rw[hal]at hp;simp at hp;exact⟨m,by simpa [CG,hp] using this⟩
  have en:∀b∈(qG (λb=>(b.sd.o==e)&&b.sd.al) (.passed h') c).bs,b.en.length<=2*(n+1):=λb hb=>by
   obtain⟨b0,hb0,rfl⟩:=asJ.mp hb;have:=I.en b0 hb0
   dsimp only
   split
   .simp[tD];omega
   .omega
  refine⟨I.gr.same rfl rfl,by show c.al.length<=_;omega,⟨C0.1,by show c.count<=_;omega⟩,λo ho=>I.own o ((ow o).mp ho).1,I.Qa.filter _,?_,TJ _ _ (by simp),?_,λr hr=>?_,λb hb=>(g b hb).1,λb hb=>(g b hb).2.1,en,λb hb=>(g b hb).2.2⟩
  .show(c.own.filter _).length<=_
   have:=asW (λo=>!(o==e)) c.own;omega
  .show(handed c e h').length+(qG _ _ c).bs.length<=_
   simp[qG];omega
  .obtain⟨r0,z1,rfl⟩:=hout r hr;obtain⟨q1,q2,q3⟩:=I.hE r0 z1;refine⟨(ow _).mpr ?_,q2,q3⟩;unfold CG;by_cases z:r0.1=e
   .simp only[z,if_true];exact⟨h2,λq=>h3 q.symm⟩
   .simp only[z,if_false];exact⟨q1,z⟩
 |heir e g x=>
  obtain⟨h1,h⟩:=zM h;obtain⟨h2,h⟩:=Bp h;obtain⟨h3,h⟩:=VL h;obtain⟨h4,h⟩:=Bv h;split at h
  .next mk hmk=>
   cases h;obtain⟨r,q4,q5⟩:=I.mk1 h4;have hme:cY mk=true:=Wj q5 ⟨by omega,h3.2⟩ (as3.mp (List.mem_of_find?_eq_some hmk)).1;refine⟨I.gr.same rfl rfl,by show c.al.length<=_;omega,⟨by show 0<=c.count+1;omega,by show c.count+1<=((n+1:Nat):Int);omega⟩,λo ho=>?_,?_,by simp;omega,?_,by simp[cost];omega,λr hr=>?_,I.ear,I.due,up.en,λb hb hal=>?_⟩
   .show 1<=o/\o<=c.count+1;rcases asR.mp ho with ho|ho
    .have:=I.own o ho;omega
    .rw[asF.mp ho];omega
   .rw[ato];refine⟨I.Qa,by simp,λa ha b hb e=>?_⟩;rw[asF.mp hb]at e;have:=I.own a ha;omega
   .rw[ato];refine⟨I.held,by simp,λa ha b hb e=>?_⟩;rw[asF.mp hb]at e;have:=I.own _ (I.hE a ha).1;rw[e]at this;simp at this;omega
   .rcases asR.mp hr with hr|hr
    .obtain⟨z1,z2,z3⟩:=I.hE r hr;exact⟨atf _ z1,z2,z3⟩
    .rw[asF.mp hr];exact⟨atD _ (by simp),h2,hme⟩
   .obtain⟨m,hm⟩:=I.rt b hb hal;exact⟨m,atf _ hm⟩
  .cases h
theorem ag6{n s:Nat}{c c':aV}{d:bf}{r:Dat}(I:Inv n s c)(hn:n<=199)(h:cP c d=.ok r c'):Inv (n+1) (s+cost d) c':=aa2 I (as9 I.al hn) h
def nB(x:Int):Bool:=decide (0<=x)&&decide (x<=999999999)
def plB(x:Int):Bool:=decide (0<=x)&&decide (x<=5)
theorem oN(M:Mo)(x:Int):cJ M [.str "number",.int x]=.ok (.bool (nB x)):=by by_cases h:0<=x<;>simp[cJ,fO,dR,eE,iK,j9,h,nB]
theorem jy(M:Mo)(x:Int):cJ M [.str "place",.int x]=.ok (.bool (plB x)):=by by_cases h:0<=x<;>simp[cJ,fO,dR,eE,iK,j9,h,plB]
theorem aeg(M:Mo)(x:List Int)(h:x.length<=1000):cJ M [.str "ear",aK x]=.ok (.bool (cY x)):=by have:=Mu M x h;simp[cJ,fO,iK,j9,this]
def nM:bf->Bool
 |.owner=>true
 |.ground x=>nB x
 |.enrol o g m=>nB o&&nB g&&cY m
 |.leave o g=>nB o&&nB g
 |.bring o g m=>nB o&&nB g&&cY m
 |.bear k=>nB k
 |.cut k=>nB k
 |.tear k p=>nB k&&plB p
 |.sell k o=>nB k&&nB o
 |.move k g=>nB k&&nB g
 |.die k=>nB k
 |.yK x y=>nB x&&nB y
 |.part x=>nB x
 |.pass e h=>nB e&&nB h
 |.heir e g x=>nB e&&nB g&&nB x
def Cz:bf->Prop
 |.enrol _ _ m=>m.length<=1000
 |.bring _ _ m=>m.length<=1000
 |_=>True
theorem jA(M:Mo)(w:Str)(T:List (Str×Dat×Bool))(hk:(wL uQ).lookup w=some (.tuple (T.map λt=>.str t.1)))(hl:T.length<=10)(hp:∀t∈T,cJ M [.str t.1,t.2.1]=.ok (.bool t.2.2)):qZ M [.tuple (.str w::T.map λt=>t.2.1)]=.ok (.bool (T.all λt=>t.2.2)):=by
 have hs:Rf.cutD (PyData.str w::T.map λt=>t.2.1) (some 1) none=T.map λt=>t.2.1:=xK _ 1;have hz:pB (T.map λt=>PyData.str t.1) (T.map λt=>t.2.1)=T.map λt=>.tuple [.str t.1,t.2.1]:=by unfold pB;rw[List.zipWith_map_left,List.zipWith_map_right,List.zipWith_self]
 have key:=gJ (tg:=bF [3,4]) (te:=aU cJ (ak (aq 3) (ak (aq 4) au))) (M:=M) (Z:=[some (.dat (.tuple (.str w::T.map λt=>t.2.1))),some (.dat (.tuple (T.map λt=>.str t.1))),some (.dat (.tuple (T.map λt=>t.2.1))),none,none]) (λ(t:Str×Dat×Bool)=>PyData.tuple [.str t.1,t.2.1]) (λt=>.bool t.2.2) T λt ht=>⟨[some (.dat (.tuple (.str w::T.map λt=>t.2.1))),some (.dat (.tuple (T.map λt=>.str t.1))),some (.dat (.tuple (T.map λt=>t.2.1))),some (.dat (.str t.1)),some (.dat t.2.1)],by simp,by simp[hp t ht]⟩;have ha:M4 (.list (T.map λt=>PyData.bool t.2.2))=.ok (.bool (T.all λt=>t.2.2)):=by
  have e:(T.map λt=>PyData.bool t.2.2)=(T.map λt=>t.2.2).map PyData.bool:=by rw[atd];rfl
  rw[e]
  show(match uD _ with
   |some bs=>Out.ok (PyData.bool (bs.all id))
   |none=>.bad)=_
  rw[Bh];simp[List.all_map,as4]
 have hl2:T.length<=50000:=by omega
 have hne:¬(T.length:Int)+1=0:=by omega
 simp[qZ,yL,hk,hs,hz,key,hl2,ha,hne]
theorem ajw(M:Mo)(d:bf)(hd:Cz d):qZ M [d.dat]=.ok (.bool (nM d)):=by
 cases d with
 |owner=>simpa [nM,bf.dat,Bool.and_assoc] using jA M "owner" [] (by rfl) (by simp) (by simp[oN,jy])
 |ground x=>simpa [nM,bf.dat,Bool.and_assoc] using jA M "ground" [("number",.int x,nB x)] (by rfl) (by simp) (by simp[oN,jy])
 |enrol o g m=>simpa [nM,bf.dat,Bool.and_assoc] using jA M "enrol" [("number",.int o,nB o),("number",.int g,nB g),("ear",aK m,cY m)] (by rfl) (by simp) (by simp[oN,jy,aeg M m hd])
 |leave o g=>simpa [nM,bf.dat,Bool.and_assoc] using jA M "leave" [("number",.int o,nB o),("number",.int g,nB g)] (by rfl) (by simp) (by simp[oN,jy])
 |bring o g m=>simpa [nM,bf.dat,Bool.and_assoc] using jA M "bring" [("number",.int o,nB o),("number",.int g,nB g),("ear",aK m,cY m)] (by rfl) (by simp) (by simp[oN,jy,aeg M m hd])
 |bear k=>simpa [nM,bf.dat,Bool.and_assoc] using jA M "bear" [("number",.int k,nB k)] (by rfl) (by simp) (by simp[oN,jy])
 |cut k=>simpa [nM,bf.dat,Bool.and_assoc] using jA M "cut" [("number",.int k,nB k)] (by rfl) (by simp) (by simp[oN,jy])
 |tear k p=>simpa [nM,bf.dat,Bool.and_assoc] using jA M "tear" [("number",.int k,nB k),("place",.int p,plB p)] (by rfl) (by simp) (by simp[oN,jy])
 |sell k o=>simpa [nM,bf.dat,Bool.and_assoc] using jA M "sell" [("number",.int k,nB k),("number",.int o,nB o)] (by rfl) (by simp) (by simp[oN,jy])
 |move k g=>simpa [nM,bf.dat,Bool.and_assoc] using jA M "move" [("number",.int k,nB k),("number",.int g,nB g)] (by rfl) (by simp) (by simp[oN,jy])
 |die k=>simpa [nM,bf.dat,Bool.and_assoc] using jA M "die" [("number",.int k,nB k)] (by rfl) (by simp) (by simp[oN,jy])
 |yK x y=>simpa [nM,bf.dat,Bool.and_assoc] using jA M "unite" [("number",.int x,nB x),("number",.int y,nB y)] (by rfl) (by simp) (by simp[oN,jy])
 |part x=>simpa [nM,bf.dat,Bool.and_assoc] using jA M "part" [("number",.int x,nB x)] (by rfl) (by simp) (by simp[oN,jy])
 |pass e h=>simpa [nM,bf.dat,Bool.and_assoc] using jA M "pass" [("number",.int e,nB e),("number",.int h,nB h)] (by rfl) (by simp) (by simp[oN,jy])
 |heir e g x=>simpa [nM,bf.dat,Bool.and_assoc] using jA M "heir" [("number",.int e,nB e),("number",.int g,nB g),("number",.int x,nB x)] (by rfl) (by simp) (by simp[oN,jy])
theorem cZ{M:Mo}{L:Lay}{o o':bx Dat}{r:Res}(h:Sp M L o r)(e:o'=o):Sp M L o' r:=e ▸ h
section
variable{M:Mo}{L:Lay}{c:aV}(a:At M L c){n s:Nat}(I:Inv n s c)(hs:s<=76)(hn:n<=199)
include a I hs hn
theorem anG(d:bf)(hd:Cz d)(hf:nM d=true):Sp M L (bU M [ob L.c,d.dat]) (cP c d):=by
 have hc:=a.hc;have h0:=ajw M d hd;rw[hf]at h0;cases d with
 |owner=>
  simp only[bf.dat]at h0 |-
  refine cZ (ach a I hn) ?_;simp[bU,cW,h0,hc,aM,dI];cases gK M _<;>rfl
 |ground x=>
  simp only[bf.dat]at h0 |-
  refine cZ (Zq a I hn x) ?_;simp[bU,cW,h0,hc,aM,gY];cases fZ M _<;>rfl
 |enrol o g m=>
  simp only[bf.dat]at h0 |-
  refine cZ (ab5 a I hs o g m hd) ?_;simp[bU,cW,h0,hc,aM,lA];cases dU M _<;>rfl
 |leave o g=>
  simp only[bf.dat]at h0 |-
  refine cZ (ab8 a I hs o g) ?_;simp[bU,cW,h0,hc,aM,lg];cases fQ M _<;>rfl
 |bring o g m=>
  simp only[bf.dat]at h0 |-
  refine cZ (abd a I hs o g m hd) ?_;simp[bU,cW,h0,hc,aM,lB];cases fP M _<;>rfl
 |bear k=>
  simp only[bf.dat]at h0 |-
  refine cZ (adI a I hs k) ?_;simp[bU,cW,h0,hc,aM,mH];cases iT M _<;>rfl
 |cut k=>
  simp only[bf.dat]at h0 |-
  refine cZ (ahM a I hs (by omega) k) ?_;simp[bU,cW,h0,hc,aM,oK];cases jx M _<;>rfl
 |tear k p=>
  simp only[bf.dat]at h0 |-
  refine cZ (ae3 a I hs k p (by omega)) ?_;simp[bU,cW,h0,hc,aM,mO];cases fM M _<;>rfl
 |sell k o=>
  simp only[bf.dat]at h0 |-
  refine cZ (adV a I hs (by omega) k o) ?_;simp[bU,cW,h0,hc,aM,mW];cases dO M _<;>rfl
 |move k g=>
  simp only[bf.dat]at h0 |-
  refine cZ (afQ a I hs (by omega) k g) ?_;simp[bU,cW,h0,hc,aM,mV];cases dN M _<;>rfl
 |die k=>
  simp only[bf.dat]at h0 |-
  refine cZ (ahC a I hs k (by omega)) ?_;simp[bU,cW,h0,hc,aM,oE];cases j7 M _<;>rfl
 |yK x y=>
  simp only[bf.dat]at h0 |-
  refine cZ (ace a I hs (by omega) x y) ?_;simp[bU,cW,h0,hc,aM,xJ];cases eX M _<;>rfl
 |part x=>
  simp only[bf.dat]at h0 |-
  refine cZ (aeO a I hs (by omega) x) ?_;simp[bU,cW,h0,hc,aM,yQ];cases iy M _<;>rfl
 |pass e h=>
  simp only[bf.dat]at h0 |-
  refine cZ (aeL a I hs (by omega) e h) ?_;simp[bU,cW,h0,hc,aM,jC];cases fB M _<;>rfl
 |heir e g x=>
  simp only[bf.dat]at h0 |-
  refine cZ (afu a I hs (by omega) e g x) ?_;simp[bU,cW,h0,hc,aM,ji];cases cU M _<;>rfl
end
theorem Ql{c:aV}{d:bf}{x:dX}(h:cP c d=.no x):jJ.lookup x.cls=some true:=by cases d<;>simp only[cP,uR,yP,Lr,qp,Bw,yE,markB,HW]at h<;>(repeat' split at h)<;>cases h<;>simp[jJ]
def Oe(f:Int):Int:=if f=9 then -1 else if f=8 then 3 else if f=7 then 2 else if f=6 then 1 else if f=5 then 1 else 0
def Oo(d f:Int):Int:=Qp 0 (if d+Oe f<9 then d+Oe f else 9)
def R3(x f:List Int):List Int:=(x.zip f).map λp=>Oo p.1 p.2
theorem aeE(M:Mo)(x0 x1:Option Cell)(acc:List Dat)(d f:Int)(x5:Option Cell)(hf:0<=f/\f<10)(hl:acc.length<1000):∃x5',Q7 M [x0,x1,some (.mut acc),some (.dat (.int d)),some (.dat (.int f)),x5]=.next [x0,x1,some (.mut (acc++[.int (Oo d f)])),some (.dat (.int d)),some (.dat (.int f)),x5'] M:=by
 have hl2:acc.length<100000:=by omega
 have key:∀k:Nat,k<10->([0,0,0,0,0,1,1,2,3,-1]:List Int)[k]?=some (Oe k):=by decide
 obtain⟨k,rfl⟩:∃k:Nat,f=k:=⟨f.toNat,by omega⟩;have hk:=key k (by omega);have h2:atI (([0,0,0,0,0,1,1,2,3,-1]:List Int).map PyData.int) (k:Int)=some (.int (Oe k)):=atI_nat (by rw[asS,hk];rfl);refine⟨some (.dat (.int (Oe k))),?_⟩;have h3:aR (aF 5) (gOf (aA aY (bA (ak (qC (.int 0)) (ak (qC (.int 0)) (ak (qC (.int 0)) (ak (qC (.int 0)) (ak (qC (.int 0)) (ak (qC (.int 1)) (ak (qC (.int 1)) (ak (qC (.int 2)) (ak (qC (.int 3)) (ak (fj U4 (qC (.int 1))) au))))))))))) (ao 4))) M [x0,x1,some (.mut acc),some (.dat (.int d)),some (.dat (.int k)),x5]=.next [x0,x1,some (.mut acc),some (.dat (.int d)),some (.dat (.int k)),some (.dat (.int (Oe k)))] M:=by
  show(((match atI (([0,0,0,0,0,1,1,2,3,-1]:List Int).map PyData.int) (k:Int) with
   |some d=>Out.ok d
   |none=>.bad).at M).then _ λd M'=>_)=_
  rw[h2];rfl
 show aC _ _ _ _=_;rw[adz,h3];simp[hl2,Oo,Qp]
theorem V6(M:Mo)(x0 x1:Option Cell):∀(ps:List (Int×Int)) (acc:List Dat) (x3 x4 x5:Option Cell),(∀p∈ps,0<=p.2/\p.2<10)->acc.length+ps.length<=500->∃x3' x4' x5',eO (bF [3,4]) Q7 (ps.map pD) M [x0,x1,some (.mut acc),x3,x4,x5]=.next [x0,x1,some (.mut (acc++ps.map λp=>.int (Oo p.1 p.2))),x3',x4',x5'] M
 |[],acc,x3,x4,x5,_,_=>⟨x3,x4,x5,by simp[eO]⟩
 |p::ps,acc,x3,x4,x5,h,hl=>by
  rw[asQ]at hl;obtain⟨x5',e⟩:=aeE M x0 x1 acc p.1 p.2 x5 (h p asC) (by omega);obtain⟨y3,y4,y5,ih⟩:=V6 M x0 x1 ps (acc++[.int (Oo p.1 p.2)]) (some (.dat (.int p.1))) (some (.dat (.int p.2))) x5' (λq hq=>h q (asB _ hq)) (by simp;omega);refine⟨y3,y4,y5,?_⟩;rw[asy,jh (Z1:=[x0,x1,some (.mut acc),some (.dat (.int p.1)),some (.dat (.int p.2)),x5]) (by simp[pD]) e,ih];simp
theorem aiP(M:Mo)(x f:List Int)(hx:x.length<=100)(hf:∀d∈f,0<=d/\d<10):MF M [aK x,lI f]=.ok (aK (R3 x f)):=by obtain⟨y3,y4,y5,e⟩:=V6 M (some (.dat (aK x))) (some (.dat (lI f))) (x.zip f) [] none none none (λp hp=>hf _ (List.of_mem_zip hp).2) (by simp;omega);simp[MF,aae,J8,e,R3]
def Ik(f:List Int)(m:Int)(x:List Int):List Int:=if m<4 then R3 x f else z8 f m
theorem adg(M:Mo)(x f:List Int)(m:Int)(hx:x.length<=100)(hl:f.length<=1000)(hf:∀d∈f,0<=d/\d<10):xP M [lI f,.int m,aK x]=.ok (aK (Ik f m x)):=by have h1:=aiP M x f hx hf;have h2:=Wu M f m hl;unfold Ik;by_cases h:m<4<;>simp[xP,N6,h,h1,h2]
theorem aeI{x f:List Int}(hx:x.length=6)(hf:f.length=6):cY (R3 x f)=true:=by
 refine U0 (by simp[R3];omega) λd hd=>?_;obtain⟨p,hp,rfl⟩:=asJ.mp hd;unfold Oo Qp
 split<;>split<;>omega
theorem acQ{f x:List Int}{m:Int}(hx:x.length=6)(hl:f.length=6)(hf:∀d∈f,0<=d/\d<10):cY (Ik f m x)=true:=by
 unfold Ik;split
 .exact aeI hx hl
 .refine U0 ?_ (Zh hf);unfold z8;split
  .simpa using hl
  .split
   .simpa using hl
   .exact hl
def lW(f many:Int)(sure:Bool):Int:=if sure then 1+f%(if many>1 then many else 1) else f%(many+2)
theorem ZK(M:Mo)(f many:Int)(sure:Bool)(hm:0<=many):kh M [.int f,.int many,.bool sure]=.ok (.int (lW f many sure)):=by
 have h2:0<many+2:=by omega
 have h3:0<(if 1<many then many else 1):=by split<;>omega
 cases sure
 .simp[kh,Yj,lW,h2]
 .simp[kh,Yj,lW,h3]
theorem Dj{f many:Int}{sure:Bool}(hf:0<=f/\f<=1000)(hm:0<=many):nB (lW f many sure)=true:=by
 unfold lW nB;have key:∀m:Int,0<m->0<=f%m/\f%m<=f:=λm h=>⟨Int.emod_nonneg _ (by omega),by
  have h1:=Int.mul_ediv_add_emod f m;have h2:=Int.mul_nonneg (by omega:0<=m) (Int.ediv_nonneg hf.1 (by omega:0<=m))
  omega⟩
 simp only[asw,atY];cases sure
 .have:=key (many+2) (by omega);simp;omega
 .have:=key (if many>1 then many else 1) (by split<;>omega);simp only[if_true];omega
abbrev dd(M:Mo)(w:Str)(one two:Int)(p base:List Int)(n0 n1 n2:Int):Out Dat:=gW M [.str w,.int one,.int two,lI p,.tuple [.int n0,.int n1,.int n2],aK base]
def fu(p:List Int):Bool:=!(p.getD 6 0==9)
def JT(p base:List Int):List Int:=Ik (p.drop 8) (p.getD 7 0) base
def grT(f:Int):Int:=if f=9 then 8 else if f=8 then 7 else if f=7 then 6 else if f=6 then 5 else if f=5 then 1 else if f=4 then 0 else f
def Ip(p base:List Int):List Int:=if p.getD 7 0<6 then[0,0,0,0,0,0] else JT p base
structure Pts(p base:List Int):Prop where
 len:p.length=14
 dig:∀d∈p,0<=d/\d<10
 base:base.length=6
theorem anu{p:List Int}(h:p.length=14):∃a b c d e f g i j k l m n o:Int,p=[a,b,c,d,e,f,g,i,j,k,l,m,n,o]:=by
 match p,h with
 |[a,b,c,d,e,f,g,i,j,k,l,m,n,o],_=>exact⟨a,b,c,d,e,f,g,i,j,k,l,m,n,o,rfl⟩
theorem Pts.mark{p base:List Int}(P:Pts p base):cY (JT p base)=true:=acQ P.base (by rw[atL,P.len]) λd hd=>P.dig d (List.mem_of_mem_drop hd)
theorem Pts.bring{p base:List Int}(P:Pts p base):cY (Ip p base)=true:=by
 unfold Ip;split
 .decide
 .exact P.mark
section
variable(M:Mo){p base:List Int}(P:Pts p base)(one two n0 n1 n2:Int)(h0:0<=n0)(h1:0<=n1)(h2:0<=n2)
include P h0 h1 h2
theorem aga :
  dd M "owner" one two p base n0 n1 n2=.ok (bf.dat (.owner))/\
  dd M "ground" one two p base n0 n1 n2=.ok (bf.dat (.ground (grT (p.getD 7 0)+4*(if fu p then 0 else 1))))/\
  dd M "enrol" one two p base n0 n1 n2=.ok (bf.dat (.enrol (lW one n0 (fu p)) (lW two n1 (fu p)) (JT p base)))/\
  dd M "bring" one two p base n0 n1 n2=.ok (bf.dat (.bring (lW one n0 (fu p)) (lW two n1 (fu p)) (Ip p base)))/\
  dd M "leave" one two p base n0 n1 n2=.ok (bf.dat (.leave (lW one n0 (fu p)) (lW two n1 (fu p))))/\
  dd M "heir" one two p base n0 n1 n2=.ok (bf.dat (.heir (lW one n0 (fu p)) (lW two n1 (fu p)) (p.getD 7 0%4)))/\
  dd M "pass" one two p base n0 n1 n2=.ok (bf.dat (.pass (lW one n0 (fu p)) (lW two n0 (fu p))))/\
  dd M "unite" one two p base n0 n1 n2=.ok (bf.dat (.yK (lW one n1 (fu p)) (lW two n1 (fu p))))/\
  dd M "part" one two p base n0 n1 n2=.ok (bf.dat (.part (lW one n1 (fu p))))/\
  dd M "tear" one two p base n0 n1 n2=.ok (bf.dat (.tear (lW one n2 (fu p)) (p.getD 7 0%6)))/\
  dd M "sell" one two p base n0 n1 n2=.ok (bf.dat (.sell (lW one n2 (fu p)) (lW two n0 (fu p))))/\
  dd M "move" one two p base n0 n1 n2=.ok (bf.dat (.move (lW one n2 (fu p)) (lW two n1 (fu p))))/\
  dd M "bear" one two p base n0 n1 n2=.ok (bf.dat (.bear (lW one n2 (fu p))))/\
  dd M "cut" one two p base n0 n1 n2=.ok (bf.dat (.cut (lW one n2 (fu p))))/\
  dd M "die" one two p base n0 n1 n2=.ok (bf.dat (.die (lW one n2 (fu p)))):=by
 have hm:=adg M base (p.drop 8) (p.getD 7 0) (by rw[P.base];decide) (by rw[atL,P.len];decide) λd hd=>P.dig d (List.mem_of_mem_drop hd);have hr0:=λf=>ZK M f n0 (fu p) h0;have hr1:=λf=>ZK M f n1 (fu p) h1;have hr2:=λf=>ZK M f n2 (fu p) h2;have hd:=P.dig;have hbr:Ip p base=if p.getD 7 0<6 then[0,0,0,0,0,0] else JT p base:=rfl
 have hmp:JT p base=Ik (p.drop 8) (p.getD 7 0) base:=rfl;have hsb:fu p=!(p.getD 6 0==9):=rfl;obtain⟨x0,x1,x2,x3,x4,x5,x6,x7,x8,x9,x10,x11,x12,x13,rfl⟩:=anu P.len;generalize hp:[x0,x1,x2,x3,x4,x5,x6,x7,x8,x9,x10,x11,x12,x13]=p at *;have h6:p.getD 6 0=x6:=by rw[<-hp];rfl
 have h7:p.getD 7 0=x7:=by rw[<-hp];rfl
 have h8:p.drop 8=[x8,x9,x10,x11,x12,x13]:=by rw[<-hp];rfl
 have hx7:=hd x7 (by rw[<-hp];simp);rw[h7,h8]at hm hmp;rw[h7]at hbr;rw[h6]at hsb;simp only[h7];generalize fu p=su at *;generalize JT p base=mk at *;generalize Ip p base=br at *;have c1:Rf.cutD (p.map PyData.int) (some 8) (some 14)=[PyData.int x8,.int x9,.int x10,.int x11,.int x12,.int x13]:=by rw[<-hp];rfl
 have c2:atI (p.map PyData.int) 7=some (.int x7):=by rw[<-hp];rfl
 have c3:atI (p.map PyData.int) 6=some (.int x6):=by rw[<-hp];rfl
 have hm:xP M [.list [PyData.int x8,.int x9,.int x10,.int x11,.int x12,.int x13],.int x7,aK base]=.ok (aK mk):=by rw[hmp];exact hm
 have key:∀k:Nat,k<10->([0,1,2,3,0,1,5,6,7,8]:List Int)[k]?=some (grT k):=by decide
 have hk:atI (([0,1,2,3,0,1,5,6,7,8]:List Int).map PyData.int) x7=some (.int (grT x7)):=by obtain⟨k,rfl⟩:∃k:Nat,x7=k:=⟨x7.toNat,by omega⟩;exact atI_nat (by rw[asS,key k (by omega)];rfl)
 simp at hk;have hm4:∀z,decide (CMul 4 z)=true:=λz=>ahN (by decide);clear hp hd P;refine⟨?_,?_,?_,?_,?_,?_,?_,?_,?_,?_,?_,?_,?_,?_,?_⟩
 .simp[dd,gW,kZ,c1,c2,c3,hm,<-hsb,hr0,hr1,hr2,bf.dat]
 .cases su<;>simp[dd,gW,kZ,c1,c2,c3,hm,<-hsb,hk,hm4,Rf.intD,bf.dat]
 .simp[dd,gW,kZ,c1,c2,c3,hm,<-hsb,hr0,hr1,hr2,bf.dat]
 .by_cases h76:x7<6
  .rw[at5 h76]at hbr;simp[dd,gW,kZ,c1,c2,c3,hm,<-hsb,hr0,hr1,hr2,bf.dat,h76,hbr]
  .rw[at6 h76]at hbr;simp[dd,gW,kZ,c1,c2,c3,hm,<-hsb,hr0,hr1,hr2,bf.dat,h76,hbr]
 .simp[dd,gW,kZ,c1,c2,c3,hm,<-hsb,hr0,hr1,hr2,bf.dat]
 .simp[dd,gW,kZ,c1,c2,c3,hm,<-hsb,hr0,hr1,hr2,bf.dat]
 .simp[dd,gW,kZ,c1,c2,c3,hm,<-hsb,hr0,hr1,hr2,bf.dat]
 .simp[dd,gW,kZ,c1,c2,c3,hm,<-hsb,hr0,hr1,hr2,bf.dat]
 .simp[dd,gW,kZ,c1,c2,c3,hm,<-hsb,hr0,hr1,hr2,bf.dat]
 .simp[dd,gW,kZ,c1,c2,c3,hm,<-hsb,hr0,hr1,hr2,bf.dat]
 .simp[dd,gW,kZ,c1,c2,c3,hm,<-hsb,hr0,hr1,hr2,bf.dat]
 .simp[dd,gW,kZ,c1,c2,c3,hm,<-hsb,hr0,hr1,hr2,bf.dat]
 .simp[dd,gW,kZ,c1,c2,c3,hm,<-hsb,hr0,hr1,hr2,bf.dat]
 .simp[dd,gW,kZ,c1,c2,c3,hm,<-hsb,hr0,hr1,hr2,bf.dat]
 .simp[dd,gW,kZ,c1,c2,c3,hm,<-hsb,hr0,hr1,hr2,bf.dat]
theorem YW{w:Str}(hw:w∈(["owner","ground","enrol","bring","leave","heir","pass","unite","part","tear","sell","move","bear","cut","die"]:List Str))(ho:0<=one/\one<=1000)(ht:0<=two/\two<=1000):∃d:bf,gW M [.str w,.int one,.int two,lI p,.tuple [.int n0,.int n1,.int n2],aK base]=.ok d.dat/\nM d=true/\Cz d:=by
 have r10:=Dj (f:=one) (sure:=fu p) ho h0;have r11:=Dj (f:=one) (sure:=fu p) ho h1;have r12:=Dj (f:=one) (sure:=fu p) ho h2;have r20:=Dj (f:=two) (sure:=fu p) ht h0;have r21:=Dj (f:=two) (sure:=fu p) ht h1;have r22:=Dj (f:=two) (sure:=fu p) ht h2;have m1:=P.mark;have m2:=P.bring;have l1:(JT p base).length<=1000:=by rw[jd m1];decide
 have l2:(Ip p base).length<=1000:=by rw[jd m2];decide
 have h7:0<=p.getD 7 0/\p.getD 7 0<10:=P.dig _ (by
  have:=P.len;rw[List.getD_eq_getElem?_getD,asz (by omega)];exact atm _)
 have q4:nB (p.getD 7 0%4)=true:=by unfold nB;simp only[asw,atY];omega
 have q6:plB (p.getD 7 0%6)=true:=by unfold plB;simp only[asw,atY];omega
 have qg:nB (grT (p.getD 7 0)+4*(if fu p then 0 else 1))=true:=by
  unfold nB grT;simp only[asw,atY]
  split<;>(repeat' split)<;>omega
 simp only[asN,ate,or_false]at hw;obtain⟨d0,d1,d2,d3,d4,d5,d6,d7,d8,d9,d10,d11,d12,d13,d14⟩:=aga M P one two n0 n1 n2 h0 h1 h2;rcases hw with rfl|rfl|rfl|rfl|rfl|rfl|rfl|rfl|rfl|rfl|rfl|rfl|rfl|rfl|rfl
 all_goals first
  | exact⟨_,d1,qg,by first | trivial | assumption⟩
  | exact⟨_,by first | exact d0 | exact d2 | exact d3 | exact d4 | exact d5 | exact d6 | exact d7 | exact d8 | exact d9 | exact d10 | exact d11 | exact d12 | exact d13 | exact d14,by simp[nM,r10,r11,r12,r20,r21,r22,m1,m2,q4,q6,-List.getD_eq_getElem?_getD],by first | trivial | assumption⟩
end
abbrev words:List Str:=["owner","ground","enrol","bring","leave","heir","pass","unite","part","tear","sell","move","bear","cut","die"]
def Wh:List Str:=["tear","cut","bring","sell","move","enrol","bear","tear","cut","sell","move","unite","part","heir","pass","die","leave","ground","owner","enrol","tear","sell","bring","bear","cut"]
theorem ajx(M:Mo)(f:Int):∃w∈words,xO M [.int f]=.ok (.str w):=by
 have h1:0<=f%25/\f%25<25:=by omega
 obtain⟨k,hk⟩:∃k:Nat,f%25=k:=⟨(f%25).toNat,by omega⟩;have hl:k<Wh.length:=by show k<25;omega
 have h2:atI (Wh.map PyData.str) (k:Int)=some (.str Wh[k]):=atI_nat (by rw[asS,asz hl];rfl);have h3:∀w∈Wh,w∈words:=by simp[Wh]
 refine⟨Wh[k],h3 _ (atm hl),?_⟩;generalize Wh[k]=z at h2;simp[Wh]at h2;simp[xO,M8,hk,h2]
def yH(h:Int):List (Str×Int×Int):=if h%8=7 then[] else[("ground",0,0),("owner",0,0),("owner",0,0),("enrol",0,0),("enrol",1,0),("bring",0,0),("cut",0,0),("bring",1,0),("cut",1,0),("ground",0,0),("enrol",0,1)]
def Jr(r:Str×Int×Int):Dat:=.tuple [.str r.1,.int r.2.1,.int r.2.2]
theorem ae2(M:Mo)(h:Int):wA M [.int h]=.ok (.list ((yH h).map Jr)):=by unfold yH;by_cases e:h%8=7<;>simp[wA,Hl,e,Jr]
theorem ajg{h:Int}:∀r∈yH h,r.1∈words/\(0<=r.2.1/\r.2.1<=1000)/\0<=r.2.2/\r.2.2<=1000:=by
 unfold yH;split
 .simp
 .simp
theorem Inv.mono{n s n' s':Nat}{c:aV}(I:Inv n s c)(h1:n<=n')(h2:s<=s'):Inv n' s' c:=
 I.of h1 I.gr (as9 I.al h1) rfl rfl I.held (as9 I.hL h2) I.hE ⟨I.Zk.g,λb hb=>by have:=I.en b hb;omega⟩
theorem ajz(d:bf):cost d<=1:=by cases d<;>simp[cost]
theorem aoH:Inv 0 0 ⟨0,[],[],[],[],[]⟩:=⟨⟨rfl,by simp,by simp,by simp,by simp,by simp,by simp⟩,by simp,by simp,by simp,by simp,by simp,by simp,by simp,by simp,by simp,by simp,by simp,by simp⟩
theorem aif(x:Int){base:List Int}(h:base.length=6):Pts (rowOf x 14 10) base:=⟨V2 ..,N5 (by decide) _ _,h⟩
theorem Jl(x:Int)(k:Nat)(h:k<14):atI ((rowOf x 14 10).map PyData.int) (k:Int)=some (.int ((rowOf x 14 10).getD k 0))/\0<=(rowOf x 14 10).getD k 0/\(rowOf x 14 10).getD k 0<=9:=by
 have hl:k<(rowOf x 14 10).length:=by rw[V2];exact h
 refine⟨ZF _ k hl,?_⟩;rw[List.getD_eq_getElem?_getD,asz hl];have:=N5 (by decide) x 14 _ (atm hl);simp;omega
def agf:aV:=⟨0,[],[],[],[],[]⟩
def L0:Lay:=⟨0,2,5,7,[],[]⟩
theorem YL(n:Nat)(x:List Int):lk (n+1) (aK x)=true:=by show lk (n+1) (.tuple (x.map PyData.int))=true;rw[lk];exact ZW n x
theorem al6(n:Nat)(x:Option (List Int)):lk (n+1) (vU x)=true:=by
 cases x with
 |none=>rw[vU,lk]
 |some e=>exact YL n e
theorem amP(n:Nat)(f:Fi):lk (n+2) f.dat=true:=by cases f<;>simp[Fi.dat,lk,uJ]
theorem anb(n:Nat)(e:En):lk (n+2) e.dat=true:=by cases e<;>simp[En.dat,lk,uJ]
theorem ai3(n:Nat)(b:gR):lk (n+4) (Cy b)=true:=by
 have h1:uJ (n+2) (b.en.map En.dat)=true:=tM.mpr λd hd=>by
  obtain⟨e,_,rfl⟩:=asJ.mp hd;exact anb n e
 have h2:=amP n b.fi;have h3:=al6 (n+2) b.sd.due;simp[Cy,lk,uJ,h1,h2,h3]
theorem ajd(c:aV):lk 9 (CZ c)=true:=by
 have h1:∀n,uJ (n+2) ((List.range c.al.length).map (grD c))=true:=λn=>tM.mpr λd hd=>by
  obtain⟨e,_,rfl⟩:=asJ.mp hd;simp[grD,lk,uJ]
 have h2:∀n,uJ (n+2) (c.held.map jo)=true:=λn=>tM.mpr λd hd=>by
  obtain⟨e,_,rfl⟩:=asJ.mp hd;simp[jo,lk,uJ]
 have h3:∀n,uJ (n+4) (c.bs.map Cy)=true:=λn=>tM.mpr λd hd=>by
  obtain⟨e,_,rfl⟩:=asJ.mp hd;exact ai3 n e
 simp[CZ,lk,uJ,h1,h2,h3]
theorem V8(M:Mo)(c:aV):oU 10 M [CZ c,CZ c]=.ok (.bool true):=abI M 9 _ (ajd c)
theorem Vq{M:Mo}{L:Lay}{c:aV}{n s:Nat}(a:At M L c)(I:Inv n s c)(hs:s<=1000):oJ M [ob L.c]=.ok (CZ c):=by have:=I.hL;exact ah7 a I.gr (by omega) (by omega)
theorem ajo(l:List Int)(lo hi:Option Int):Rf.cutD (l.map PyData.int) lo hi=(Rf.cutD l lo hi).map PyData.int:=by unfold Rf.cutD;rw[asK,List.map_take,List.map_drop]
theorem aiK{α:Type}(l:List α)(a b:Nat)(h:a<=b):(Rf.cutD l (some (a:Int)) (some (b:Int))).length<=b-a:=by unfold Rf.cutD;rw[HT.sIx_nat,HT.sIx_nat,List.length_take];omega
section
variable{M:Mo}{L:Lay}{c:aV}(a:At M L c){n s:Nat}(I:Inv n s c)(hs:s<=76)(hn:n<=199)
include a I hs hn
theorem aaw(d:bf)(hd:Cz d):Sp M L (fG M [ob L.c,d.dat]) (cP c d):=by
 have hc:=a.hc;cases d with
 |owner=>
  refine cZ (ach a I hn) ?_;simp only[bf.dat];simp[fG,jG,hc,aM,dI];cases gK M _<;>rfl
 |ground x=>
  refine cZ (Zq a I hn x) ?_;simp only[bf.dat];simp[fG,jG,hc,aM,gY];cases fZ M _<;>rfl
 |enrol o g m=>
  refine cZ (ab5 a I hs o g m hd) ?_;simp only[bf.dat];simp[fG,jG,hc,aM,lA];cases dU M _<;>rfl
 |leave o g=>
  refine cZ (ab8 a I hs o g) ?_;simp only[bf.dat];simp[fG,jG,hc,aM,lg];cases fQ M _<;>rfl
 |bring o g m=>
  refine cZ (abd a I hs o g m hd) ?_;simp only[bf.dat];simp[fG,jG,hc,aM,lB];cases fP M _<;>rfl
 |bear k=>
  refine cZ (adI a I hs k) ?_;simp only[bf.dat];simp[fG,jG,hc,aM,mH];cases iT M _<;>rfl
 |cut k=>
  refine cZ (ahM a I hs (by omega) k) ?_;simp only[bf.dat];simp[fG,jG,hc,aM,oK];cases jx M _<;>rfl
 |tear k p=>
  refine cZ (ae3 a I hs k p (by omega)) ?_;simp only[bf.dat];simp[fG,jG,hc,aM,mO];cases fM M _<;>rfl
 |sell k o=>
  refine cZ (adV a I hs (by omega) k o) ?_;simp only[bf.dat];simp[fG,jG,hc,aM,mW];cases dO M _<;>rfl
 |move k g=>
  refine cZ (afQ a I hs (by omega) k g) ?_;simp only[bf.dat];simp[fG,jG,hc,aM,mV];cases dN M _<;>rfl
 |die k=>
  refine cZ (ahC a I hs k (by omega)) ?_;simp only[bf.dat];simp[fG,jG,hc,aM,oE];cases j7 M _<;>rfl
 |yK x y=>
  refine cZ (ace a I hs (by omega) x y) ?_;simp only[bf.dat];simp[fG,jG,hc,aM,oO];cases eX M _<;>rfl
 |part x=>
  refine cZ (aeO a I hs (by omega) x) ?_;simp only[bf.dat];simp[fG,jG,hc,aM,pF];cases iy M _<;>rfl
 |pass e h=>
  refine cZ (aeL a I hs (by omega) e h) ?_;simp only[bf.dat];simp[fG,jG,hc,aM,jC];cases fB M _<;>rfl
 |heir e g x=>
  refine cZ (afu a I hs (by omega) e g x) ?_;simp only[bf.dat];simp[fG,jG,hc,aM,ji];cases cU M _<;>rfl
end
theorem Yp(M:Mo)(x:Int):∃y,wN M [.int x]=.ok (.int y):=by
 have hp:decide (CPow 10 30)=true:=decide_eq_true ⟨by decide,by decide,by decide⟩;by_cases h:x<0
 .exact⟨_,by simp[wN,Yb,hp,h];rfl⟩
 .exact⟨_,by simp[wN,Yb,hp,h];rfl⟩
theorem abN(M:Mo)(x0:Option Cell):∀(l:List Int) (x1:Option Cell),if l.all (λd=>decide (0<=d)&&decide (d<=9))=true then ∃y1,eO (aF 1) oM (l.map PyData.int) M [x0,x1]=.next [x0,y1] M else eO (aF 1) oM (l.map PyData.int) M [x0,x1]=.ret (.bool false) M
 |[],x1=>by
  rw[at5 (by simp)];exact⟨x1,rfl⟩
 |d::l,x1=>by
  have hw:=Lg M d;have ih:=abN M x0 l (some (.dat (.int d)));by_cases h0:0<=d
  .by_cases h9:d<=9
   .have hb:oM M [x0,some (.dat (.int d))]=.next [x0,some (.dat (.int d))] M:=by simp[oM,hw,h0,h9]
    have e:(d::l).all (λd=>decide (0<=d)&&decide (d<=9))=l.all (λd=>decide (0<=d)&&decide (d<=9)):=by simp[h0,h9]
    rw[e,asy,jh (Z1:=[x0,some (.dat (.int d))]) (by simp) hb];exact ih
   .rw[at6 (by simp[h0,h9]),asy,eO];simp[oM,hw,h0,h9]
  .rw[at6 (by simp[h0]),asy,eO];simp[oM,hw,h0]
theorem aa1(M:Mo)(x:List Int)(hx:x.length<=1000):lG M [aK x]=.ok (.bool (cY x)):=by
 have k:=abN M (some (.dat (aK x))) x none;unfold cY;by_cases h6:x.length=6
 .have h6':((x.length:Int)==6)=true:=by simp[h6]
  cases e:x.all (λd=>decide (0<=d)&&decide (d<=9)) with
  |true=>
   rw[e,at5 rfl]at k;obtain⟨y1,k⟩:=k;simp[lG,rM,iK,j9,h6,k]
  |false=>
   rw[e,at6 (by simp)]at k;simp[lG,rM,iK,j9,h6,k]
 .have h6':¬(x.length:Int)=6:=by omega
  simp[lG,rM,iK,j9,h6,h6']
theorem aej(M:Mo)(m:List Int)(hm:m.length=6)(x:Int):∃e:List Int,e.length<=1000/\mX M [aK m,.int x]=.ok (aK e):=by
 obtain⟨y,hy⟩:=Yp M x;have c5:Rf.cutD (m.map PyData.int) none (some 5)=(m.take 5).map PyData.int:=by rw[show(5:Int)=((5:Nat):Int) from rfl,Km,List.map_take]
 have c3:Rf.cutD (m.map PyData.int) none (some 3)=(m.take 3).map PyData.int:=by rw[show(3:Int)=((3:Nat):Int) from rfl,Km,List.map_take]
 have c4:Rf.cutD (m.map PyData.int) (some 4) none=(m.drop 4).map PyData.int:=by rw[show(4:Int)=((4:Nat):Int) from rfl,xK,List.map_drop]
 have c1:Rf.cutD (m.map PyData.int) (some 1) none=(m.drop 1).map PyData.int:=by rw[show(1:Int)=((1:Nat):Int) from rfl,xK,List.map_drop]
 by_cases h0:x%17=0
 .exact⟨m.take 5,by simp;omega,by simp[mX,qu,h0,c5]⟩
 by_cases h1:x%17=1
 .exact⟨m++[0],by simp[hm],by simp[mX,qu,h1,hm]⟩
 by_cases h2:x%17=2
 .exact⟨m.take 3++[10]++m.drop 4,by simp;omega,by simp[mX,qu,h2,c3,c4,hm]⟩
 by_cases h3:x%17=3
 .exact⟨[-1]++m.drop 1,by simp;omega,by simp[mX,qu,h3,c1,hm]⟩
 by_cases h4:x%17=4
 .exact⟨[0,0,0,0,0,0],by simp,by simp[mX,qu,h4]⟩
 by_cases h5:x%17=5
 .exact⟨[],by simp,by simp[mX,qu,h5]⟩
 by_cases h6:x%17=6
 .exact⟨m.take 5++[y],by simp;omega,by simp[mX,qu,h6,c5,hy,hm]⟩
 .exact⟨m,by omega,by simp[mX,qu,h0,h1,h2,h3,h4,h5,h6]⟩
inductive Pt where
 |n (i:Int)|e (l:List Int)|s (x:Str)
def Pt.dat:Pt->Dat
 |.n i=>.int i
 |.e l=>aK l
 |.s x=>.str x
def Pt.fine:Pt->Prop
 |.n _=>True
 |.e l=>l.length<=1000
 |.s x=>PyData.strOk x=true
inductive Kn where
 |n|e|p
def Kn.S:Kn->Str
 |.n=>"number"
 |.e=>"ear"
 |.p=>"place"
def Kn.c:Kn->Nat
 |.n=>110
 |.e=>101
 |.p=>112
def Kn.C(k:Kn):Str:=⟨#[k.c]⟩
def lZ:Pt->Kn->Bool
 |.e l,.e=>cY l
 |.n i,.n=>decide (0<=i)&&decide (i<=999999999)
 |.n i,.p=>decide (0<=i)&&decide (i<=5)
 |_,_=>false
def gA:List (Str×List Kn):=[("owner",[]),("ground",[.n]),("enrol",[.n,.n,.e]),("leave",[.n,.n]),("bring",[.n,.n,.e]),("bear",[.n]),("cut",[.n]),("tear",[.n,.p]),("sell",[.n,.n]),("move",[.n,.n]),("die",[.n]),("unite",[.n,.n]),("part",[.n]),("pass",[.n,.n]),("heir",[.n,.n,.n])]
def m9(ks:List Kn):Str:=⟨(ks.map Kn.c).toArray⟩
def DN(ps:List Pt)(ks:List Kn):Bool:=(ps.zip ks).all λx=>lZ x.1 x.2
def nZ:List Pt->Bool
 |.s w::ps=>match gA.lookup w with
  |some ks=>decide (ps.length=ks.length)&&DN ps ks
  |none=>false
 |_=>false
theorem ais(M:Mo)(k:Kn)(p:Pt)(h:p.fine):cJ M [.str k.S,p.dat]=.ok (.bool (lZ p k)):=by
 have tt:∀l,iK .tuple (aK l)=.ok (.bool true):=λ_=>rfl;have ti:∀l,iK .int (aK l)=.ok (.bool false):=λ_=>rfl;cases k<;>cases p
 .next i=>by_cases h0:0<=i<;>simp[cJ,fO,Kn.S,Pt.dat,lZ,dR,eE,iK,j9,h0]
 .next l=>simp[cJ,fO,Kn.S,Pt.dat,lZ,dR,eE,ti]
 .next x=>simp[cJ,fO,Kn.S,Pt.dat,lZ,dR,eE,iK,j9]
 .next i=>simp[cJ,fO,Kn.S,Pt.dat,lZ,dR,eE,iK,j9]
 .next l=>
  have h1:=Mu M l h;simp[cJ,fO,Kn.S,Pt.dat,lZ,tt,h1]
 .next x=>simp[cJ,fO,Kn.S,Pt.dat,lZ,iK,j9]
 .next i=>by_cases h0:0<=i<;>simp[cJ,fO,Kn.S,Pt.dat,lZ,dR,eE,iK,j9,h0]
 .next l=>simp[cJ,fO,Kn.S,Pt.dat,lZ,dR,eE,ti]
 .next x=>simp[cJ,fO,Kn.S,Pt.dat,lZ,dR,eE,iK,j9]
theorem Rq{α β:Type}(f:α->β)(w:Str):∀l:List (Str×α),(l.map λp=>(p.1,f p.2)).lookup w=(l.lookup w).map f
 |[]=>rfl
 |p::l=>by
  rw[asy,asY,asY];cases w==p.1
  .exact Rq f w l
  .rfl
def shD(ks:List Kn):Dat:=.tuple (ks.map λk=>.str k.S)
theorem afI(w:Str):(wL uQ).lookup w=(gA.lookup w).map shD:=by rw[<-Rq];rfl
theorem zip_parts:∀(ks:List Kn) (ps:List Pt),pB (ks.map λk=>PyData.str k.S) (ps.map Pt.dat)=(ps.zip ks).map λx=>PyData.tuple [.str x.2.S,x.1.dat]
 |[],ps=>by cases ps<;>simp[pB]
 |_::_,[]=>by simp[pB]
 |k::ks,p::ps=>by
  have:=zip_parts ks ps;unfold pB at this |-
  rw[asy,asy,List.zipWith_cons_cons,this,atj,asy]
theorem ahR:∀l:List Int,rW (l.map PyData.int)=some (l.map NestedKey.num)
 |[]=>rfl
 |i::l=>by rw[asy,rW,ahR l];rfl
theorem Y0:∀l:List Int,NestedKey.depthAll (l.map NestedKey.num)=0
 |[]=>rfl
 |i::l=>by rw[asy,NestedKey.depthAll,Y0 l];rfl
theorem ajp(l:List Int):(NestedKey.tup (l.map NestedKey.num)).depth<=8:=by rw[NestedKey.depth,Y0];decide
theorem agD(M:Mo)(ps:List Pt)(hl:ps.length<=100)(h:∀p∈ps,p.fine):qZ M [.tuple (ps.map Pt.dat)]=.ok (.bool (nZ ps)):=by
 cases ps with
 |nil=>simp[qZ,yL,nZ]
 |cons p ps=>
  have hne:¬(ps.length:Int)+1=0:=by omega
  cases p with
  |n i=>simp[qZ,yL,nZ,Pt.dat,hne]
  |e l=>
   have h1:=ajp l;simp[qZ,yL,nZ,Pt.dat,hne,ahR,h1]
  |s w=>
   rw[asQ]at hl;have h0:=afI w;cases hk:gA.lookup w with
   |none=>
    rw[hk]at h0;simp[qZ,yL,nZ,Pt.dat,hne,h0,hk]
   |some ks=>
    rw[hk]at h0;have h0:(wL uQ).lookup w=some (.tuple (ks.map λk=>.str k.S)):=h0;have hs:Rf.cutD (PyData.str w::ps.map Pt.dat) (some 1) none=ps.map Pt.dat:=xK _ 1;have key:=gJ (tg:=bF [3,4]) (te:=aU cJ (ak (aq 3) (ak (aq 4) au))) (M:=M) (Z:=[some (.dat (.tuple (.str w::ps.map Pt.dat))),some (.dat (.tuple (ks.map λk=>.str k.S))),some (.dat (.tuple (ps.map Pt.dat))),none,none]) (λ(x:Pt×Kn)=>PyData.tuple [.str x.2.S,x.1.dat]) (λx=>.bool (lZ x.1 x.2)) (ps.zip ks) λx hx=>⟨[some (.dat (.tuple (.str w::ps.map Pt.dat))),some (.dat (.tuple (ks.map λk=>.str k.S))),some (.dat (.tuple (ps.map Pt.dat))),some (.dat (.str x.2.S)),some (.dat x.1.dat)],by simp,by
     have:=ais M x.2 x.1 (h x.1 (asB _ (List.of_mem_zip hx).1));simp[this]⟩
    have ha:M4 (.list ((ps.zip ks).map λx=>PyData.bool (lZ x.1 x.2)))=.ok (.bool (DN ps ks)):=by
     have e:((ps.zip ks).map λx=>PyData.bool (lZ x.1 x.2))=((ps.zip ks).map λx=>lZ x.1 x.2).map PyData.bool:=by rw[atd];rfl
     rw[e]
     show(match uD _ with
      |some bs=>Out.ok (PyData.bool (bs.all id))
      |none=>.bad)=_
     rw[Bh];simp[DN,List.all_map,as4]
    have hz:=zip_parts ks ps;have hlz:(ps.zip ks).length<=50000:=by rw[List.length_zip];omega
    by_cases hq:ps.length=ks.length
    .have hne2:¬(ks.length:Int)+1=0:=by omega
     have hk5:ks.length<=50000:=by omega
     have ds:(Pt.s w).dat=.str w:=rfl;simp[qZ,yL,nZ,ds,hne,hne2,h0,hk,hs,hq,hz];simp[key,hk5,ha]
    .have hq2:¬(ps.length:Int)=ks.length:=by omega
     simp[qZ,yL,nZ,Pt.dat,hne,h0,hk,hs,hq,hq2]
def sV:List Dat:=gA.map λp=>.str p.1
def OJ:List Dat:=gA.map λp=>.str (m9 p.2)
theorem Eb:([.str "owner",.str "ground",.str "enrol",.str "leave",.str "bring",.str "bear",.str "cut",.str "tear",.str "sell",.str "move",.str "die",.str "unite",.str "part",.str "pass",.str "heir"]:List Dat)=sV:=by rfl
theorem Jh:([.str "",.str "n",.str "nne",.str "nn",.str "nne",.str "n",.str "n",.str "np",.str "nn",.str "nn",.str "n",.str "nn",.str "n",.str "nn",.str "nnn"]:List Dat)=OJ:=by rfl
theorem Bt:sV.length<=100000:=by decide
theorem DY:OJ.length<=100000:=by decide
theorem akg(k:Kn):(k.C==("e" : Str))=decide (k.c=101):=by cases k<;>decide +kernel
theorem alK(k:Kn):(k.C==("p" : Str))=decide (k.c=112):=by cases k<;>decide +kernel
theorem aoK(k:Kn):(k.C==("n" : Str))=decide (k.c=110):=by cases k<;>decide +kernel
theorem Rv(ks:List Kn):Dt (m9 ks)=ks.map λk=>.str k.C:=by simp[Dt,m9,Kn.C]
theorem ae9(k:Int)(d:Dat)(ds:List Dat):mU k (d::ds)=.tuple [.int k,d]::mU (k+1) ds:=by
 unfold mU;rw[List.mapIdx_cons];congr 1
 .simp
 .apply List.ext_getElem
  .simp
  .intro n h1 h2;simp;omega
def u6(c:Int):Kn->Pt
 |.e=>.e (CP c)
 |.p=>.n (c%6)
 |.n=>if c%5=4 then .n (c/5%1000000000) else .n (c/5%12)
def partsOf(ns:List Int):Nat->List Kn->List Pt
 |_,[]=>[]
 |j,k::ks=>u6 (ns.getD (1+j) 0) k::partsOf ns (j+1) ks
theorem tup_loop(M:Mo)(ns:List Int)(x1 x2 x3:Option Cell):∀(ks:List Kn) (j:Nat) (acc:List Dat) (x5 x6 x7:Option Cell),acc.length+ks.length<100000->∃y5 y6 y7,eO (bF [5,6]) xV (mU (j:Int) (ks.map λk=>.str k.C)) M [some (.dat (lI ns)),x1,x2,x3,some (.mut acc),x5,x6,x7]=.next [some (.dat (lI ns)),x1,x2,x3,some (.mut (acc++(partsOf ns j ks).map Pt.dat)),y5,y6,y7] M
 |[],j,acc,x5,x6,x7,_=>⟨x5,x6,x7,by simp[mU,eO,partsOf]⟩
 |k::ks,j,acc,x5,x6,x7,hl=>by
  have hc:jQ M [lI ns,.int (1+(j:Int))]=.ok (.int (ns.getD (1+j) 0)):=by have:=Dh M ns (1+j);rw[show((1+j:Nat):Int)=1+(j:Int) by omega]at this;exact this
  have hd:∀z,decide (CDiv z 5)=true:=λz=>decide_eq_true ⟨by decide,by decide⟩;have he:=aam M (ns.getD (1+j) 0);have ih:=tup_loop M ns x1 x2 x3 ks (j+1) (acc++[(u6 (ns.getD (1+j) 0) k).dat]) (some (.dat (.int j))) (some (.dat (.str k.C))) (some (.dat (.int (ns.getD (1+j) 0)))) (by simp at hl |-;omega);obtain⟨y5,y6,y7,ih⟩:=ih;refine⟨y5,y6,y7,?_⟩;have hl2:acc.length<100000:=by simp at hl;omega
  rw[asy,ae9,jh (Z1:=[some (.dat (lI ns)),x1,x2,x3,some (.mut acc),some (.dat (.int j)),some (.dat (.str k.C)),x7]) (by simp) (Z2:=[some (.dat (lI ns)),x1,x2,x3,some (.mut (acc++[(u6 (ns.getD (1+j) 0) k).dat])),some (.dat (.int j)),some (.dat (.str k.C)),some (.dat (.int (ns.getD (1+j) 0)))]) (M2:=M) (by
   generalize ns.getD (1+j) 0=c at hc he;have h1:=akg k;have h2:=alK k;cases k with
   |n=>by_cases h4:c%5=4<;>simp[xV,hc,h1,h2,Kn.c,hd,h4,hl2,u6,Pt.dat]
   |e=>simp[xV,hc,h1,h2,Kn.c,he,hl2,u6,Pt.dat]
   |p=>simp[xV,hc,h1,h2,Kn.c,hl2,u6,Pt.dat])]
  rw[show((j:Int)+1)=((j+1:Nat):Int) by omega,ih];simp[partsOf]
theorem Np(ns:List Int):∀(ks:List Kn) (j:Nat),(partsOf ns j ks).length=ks.length
 |[],_=>rfl
 |_::ks,j=>by simp[partsOf,Np ns ks (j+1)]
theorem acK(c:Int):cY (CP c)=true:=U0 (Gf c) (aha c)
theorem aij(c:Int)(k:Kn):lZ (u6 c k) k=true/\(u6 c k).fine:=by
 cases k with
 |n=>
  by_cases h4:c%5=4
  .rw[show u6 c .n=.n (c/5%1000000000) from at5 h4];exact⟨by simp[lZ];omega,atV⟩
  .rw[show u6 c .n=.n (c/5%12) from at6 h4];exact⟨by simp[lZ];omega,atV⟩
 |e=>exact⟨acK c,by show _<=_;rw[Gf];decide⟩
 |p=>exact⟨by simp[u6,lZ];omega,atV⟩
theorem QX(ns:List Int):∀(ks:List Kn) (j:Nat),DN (partsOf ns j ks) ks=true/\∀p∈partsOf ns j ks,p.fine
 |[],_=>⟨rfl,λ_ h=>nomatch h⟩
 |k::ks,j=>by
  have h1:=QX ns ks (j+1);have h2:=aij (ns.getD (1+j) 0) k;refine⟨?_,λp h=>?_⟩
  .have h3:=h1.1;unfold DN at h3 |-
   rw[partsOf,atj,atc,h3,h2.1];rfl
  .rcases asN.mp h with rfl|h
   .exact h2.2
   .exact h1.2 p h
theorem Uv{α β:Type}(l:List α)(f:α->β)(j:Nat)(p:α)(h:l[j]?=some p):atI (l.map f) (j:Int)=some (f p):=atI_nat (by simp[h])
theorem Aj:∀p∈gA,gA.lookup p.1=some p.2/\PyData.strOk p.1=true/\p.2.length<=3:=by intro p h;unfold gA at h;simp only[asN,ate,or_false]at h;rcases h with rfl|rfl|rfl|rfl|rfl|rfl|rfl|rfl|rfl|rfl|rfl|rfl|rfl|rfl|rfl<;>exact⟨by rfl,u5 _,by decide⟩
theorem Wd(M:Mo)(ns:List Int):∃p∈gA,zY M [lI ns]=.ok (.tuple ((Pt.s p.1::partsOf ns 0 p.2).map Pt.dat)):=by
 obtain⟨j,hj⟩:∃j:Nat,ns.getD 0 0%15=(j:Int):=⟨(ns.getD 0 0%15).toNat,by omega⟩;have hlt:j<15:=by omega
 obtain⟨p,hp⟩:∃p,gA[j]?=some p:=⟨_,asz (show j<gA.length from hlt)⟩;have hm:p∈gA:=asH hp;refine⟨p,hm,?_⟩;have h1:atI sV (j:Int)=some (.str p.1):=Uv gA (λp=>PyData.str p.1) j p hp;have h2:atI OJ (j:Int)=some (.str (m9 p.2)):=Uv gA (λp=>PyData.str (m9 p.2)) j p hp;have hc:jQ M [lI ns,.int 0]=.ok (.int (ns.getD 0 0)):=Dh M ns 0;have h3:=(Aj p hm).2.2;obtain⟨y5,y6,y7,h4⟩:=tup_loop M ns (some (.dat (.list sV))) (some (.dat (.list OJ))) (some (.dat (.int j))) p.2 0 [.str p.1] none none none (by simp;omega);have hi:kW (.str (m9 p.2))=.ok (Dt (m9 p.2)):=by
  unfold kW;have:(m9 p.2).length<=100000:=by show(List.toArray _).size<=_;simp;omega
  simp[this]
 rw[Rv]at hi;have h4':eO (bF [5,6]) xV (mU 0 (p.2.map λk=>.str k.C)) M _=_:=h4;have hpd:(Pt.s p.1).dat=.str p.1:=rfl;simp only[zY,Vi,am5,adz,ali,alb,aln];have hd0:ns[0]?.getD 0%15=(j:Int):=by simpa using hj
 simp[hd0,Eb,Jh,Bt,DY,hc,hj,h1,h2,hi,h4',hpd]
theorem W8(x y:Str)(hx:PyData.strOk x=true)(hy:PyData.strOk y=true):PyData.strOk (x++y)=true:=by
 unfold PyData.strOk at *
 show(x.cps++y.cps).all _=true
 rw[Array.all_append,hx,hy];rfl
theorem Tt:∀(ys:List Str),(∀y∈ys,PyData.strOk y=true)->PyData.strOk (Str.join "" ys)=true
 |[],_=>by decide +kernel
 |[y],h=>h y (by simp)
 |y::z::r,h=>by
  show PyData.strOk (y++""++Str.join "" (z::r))=true
  exact W8 _ _ (W8 _ _ (h y (by simp)) (u5 _)) (Tt (z::r) λx hx=>h x (asB _ hx))
theorem RD:∀l:List Str,strsOf (l.map PyData.str)=some l
 |[]=>rfl
 |x::l=>by
  rw[asy,strsOf,RD l];rfl
def Mx:Str:="abcdefghijklmnopqrstuvwxyz"
theorem aer:∀f:Nat,f<26->∃c,Mx.cps.toList[f]?=some c/\c<1000:=by decide +kernel
theorem agz(M:Mo)(c:Int):∃x,Ny M [.int c]=.ok (.str x)/\PyData.strOk x=true:=by
 obtain⟨n,hn⟩:∃n:Nat,3+(if c<0 then -c else c)%4=(n:Int):=⟨(3+(if c<0 then -c else c)%4).toNat,by omega⟩;have hn7:n<7:=by omega
 have hr:vq M [.int c,.int n,.int 26]=.ok (.list ((rowOf c n 26).map .int)):=aay M c n 26 (by decide) (by decide) (by omega)
 let lt:Int->Str:=λf=>⟨#[Mx.cps.toList.getD f.toNat 97]⟩
 have h1:∀f∈rowOf c n 26,aY (.str Mx) (.int f)=.ok (.str (lt f)):=by
  intro f hf;have hb:=N5 (b:=26) (by decide) c n f hf;obtain⟨j,rfl⟩:∃j:Nat,f=(j:Int):=⟨f.toNat,by omega⟩;obtain⟨x,hx,_⟩:=aer j (by omega);have hl:Mx.length<=100000:=by decide +kernel
  simp only[aY];rw[atI_nat hx];have hx':Mx.cps[j]?=some x:=by simpa using hx
  simp[hl,lt,hx']
 have h2:∀f∈rowOf c n 26,PyData.strOk (lt f)=true:=by intro f hf;have hb:=N5 (b:=26) (by decide) c n f hf;obtain⟨x,hx,hx2⟩:=aer f.toNat (by omega);simp[PyData.strOk,lt,List.getD,hx];omega
 have key:=gJ (tg:=aF 2) (te:=aA aY (ao 1) (ao 2)) (M:=M) (Z:=[some (.dat (.int c)),some (.dat (.str Mx)),none]) PyData.int (λf=>.str (lt f)) (rowOf c n 26) λf hf=>⟨[some (.dat (.int c)),some (.dat (.str Mx)),some (.dat (.int f))],by simp,by simp[h1 f hf]⟩;have e:((rowOf c n 26).map λf=>PyData.str (lt f))=((rowOf c n 26).map lt).map PyData.str:=by simp
 have hs:((((rowOf c n 26).map lt).map λy=>y.length).sum+((rowOf c n 26).map lt).length*("" : Str).length<=16777216):=by
  have h3:∀l:List Int,((l.map lt).map λy=>y.length).sum=l.length:=by
   intro l
   induction l with
   |nil=>rfl
   |cons a l ih=>
    rw[asy,asy,List.sum_cons,ih,show(lt a).length=1 from rfl,asQ];omega
  rw[h3,V2,show("" : Str).length=0 by decide +kernel]
  omega
 have hj:Ol "" (.list ((rowOf c n 26).map λf=>PyData.str (lt f)))=.ok (.str (Str.join "" ((rowOf c n 26).map lt))):=by
  rw[e];unfold Ol
  dsimp only
  rw[RD]
  dsimp only
  rw[decide_eq_true hs];show Out.ok (PyData.str (Txt.join _ _))=_;unfold Txt.join;rw[StrLaws.glued_eq_join]
 refine⟨Str.join "" ((rowOf c n 26).map lt),?_,Tt _ λy hy=>?_⟩
 .have ha:("abcdefghijklmnopqrstuvwxyz" : Str)=Mx:=rfl
  have hn5:n<=50000:=by omega
  simp[Ny,aal,hn,hr,ha,key,hj,hn5]
 .obtain⟨f,hf,rfl⟩:=asJ.mp hy;exact h2 f hf
theorem Wc(l:List Pt)(n:Nat):Rf.cutD (l.map Pt.dat) none (some (n:Int))=(l.take n).map Pt.dat:=by rw[Km,List.map_take]
theorem Wf(l:List Pt)(n:Nat):Rf.cutD (l.map Pt.dat) (some (n:Int)) none=(l.drop n).map Pt.dat:=by rw[xK,List.map_drop]
def Ov(ps:List Pt):Prop:=ps.length<=100/\∀p∈ps,p.fine
theorem acB(M:Mo)(ns:List Int):∃ps,Ov ps/\cV M [lI ns]=.ok (.tuple (ps.map Pt.dat)):=by
 obtain⟨p,hp,ht⟩:=Wd M ns;have hs:=Aj p hp;have hf:=(QX ns p.2 0).2;have hl:=Np ns p.2 0;generalize hL:(Pt.s p.1::partsOf ns 0 p.2)=L at ht;have hL1:1<=L.length:=by rw[<-hL];simp
 have hL2:L.length<=4:=by rw[<-hL];simp;omega
 have hLf:∀q∈L,q.fine:=by
  rw[<-hL];intro q hq;rcases asN.mp hq with rfl|hq
  .exact hs.2.1
  .exact hf q hq
 have h4:jQ M [lI ns,.int 4]=.ok (.int (ns.getD 4 0)):=Dh M ns 4;have h5:jQ M [lI ns,.int 5]=.ok (.int (ns.getD 5 0)):=Dh M ns 5;generalize ns.getD 4 0=a at h4;generalize ns.getD 5 0=c at h5;have hd:∀z,decide (CDiv z 9)=true:=λz=>decide_eq_true ⟨by decide,by decide⟩;have hd17:∀z,decide (CDiv z 17)=true:=λz=>decide_eq_true ⟨by decide,by decide⟩;have hlp:(0:Int)<L.length:=by omega
 have hlq:0<L.length:=by omega
 obtain⟨j,hj⟩:∃j:Nat,a/9%L.length=(j:Int):=by have:=Int.emod_nonneg (a/9) (show(L.length:Int)≠0 by omega);exact⟨(a/9%L.length).toNat,by omega⟩
 have hjl:j<L.length:=by have:=Int.emod_lt_of_pos (a/9) hlp;omega
 have c1:Rf.cutD (L.map Pt.dat) none (some (j:Int))=(L.take j).map Pt.dat:=Wc L j;have c2:Rf.cutD (L.map Pt.dat) (some ((j:Int)+1)) none=(L.drop (j+1)).map Pt.dat:=Wf L (j+1);have c3:Rf.cutD (L.map Pt.dat) none (some ((j:Int)+1))=(L.take (j+1)).map Pt.dat:=Wc L (j+1);have c4:Rf.cutD (L.map Pt.dat) (some 1) none=(L.drop 1).map Pt.dat:=Wf L 1;have ft:∀n,∀q∈L.take n,q.fine:=λn q hq=>hLf q (atn hq);have fd:∀n,∀q∈L.drop n,q.fine:=λn q hq=>hLf q (List.mem_of_mem_drop hq);have hw:0<=a%9/\a%9<9:=by omega
 have mk:∀(i n:Nat) (q:Pt),q.fine->Ov (L.take i++[q]++L.drop n):=by
  intro i n q hq;refine⟨by simp;omega,λr hr=>?_⟩;simp only[asR,asF]at hr;rcases hr with(hr|rfl)|hr
  .exact ft i r hr
  .exact hq
  .exact fd n r hr
 have mk1:∀(q:Pt),q.fine->Ov ([q]++L.drop 1):=by
  intro q hq;refine⟨by simp;omega,λr hr=>?_⟩;simp only[asR,asF]at hr;rcases hr with rfl|hr
  .exact hq
  .exact fd 1 r hr
 have l1:(L.take j).length<=100:=by simp;omega
 have l2:(L.drop (j+1)).length<=100:=by simp;omega
 obtain⟨y,hy⟩:=Yp M c;obtain⟨x,hx,hx2⟩:=agz M c;obtain⟨e,he,he2⟩:=aej M (CP (c/17)) (Gf _) c;have hear:=aam M (c/17);have g1:min j L.length+1<=100000:=by omega
 have g2:min j L.length+1+(L.length-(j+1))<=100000:=by omega
 have g3:min j L.length+(L.length-(j+1))<=100000:=by omega
 have g4:min (j+1) L.length+1<=100000:=by omega
 have g5:min (j+1) L.length+1+(L.length-(j+1))<=100000:=by omega
 have g6:1+(L.length-1)<=100000:=by omega
 have dn:∀i:Int,PyData.int i=(Pt.n i).dat:=λ_=>rfl;have hfold:Ov L:=⟨by omega,hLf⟩;have hfd:Ov (L.take j++L.drop (j+1)):=by
  refine⟨by simp;omega,λr hr=>?_⟩;rcases asR.mp hr with hr|hr
  .exact ft j r hr
  .exact fd (j+1) r hr
 have w:a%9=0\/a%9=1\/a%9=2\/a%9=3\/a%9=4\/a%9=5\/a%9=6\/a%9=7\/a%9=8:=by omega
 rcases w with w|w|w|w|w|w|w|w|w
 .exact⟨L,hfold,by simp[cV,dB,ht,h4,h5,hd,hlq,hj,w]⟩
 .exact⟨_,hfd,by simp[cV,dB,ht,h4,h5,hd,hlq,hj,w,c1,c2,g3]⟩
 .exact⟨_,mk (j+1) (j+1) (.n (c%12)) atV,by simp[cV,dB,ht,h4,h5,hd,hlq,hj,w,c1,c2,c3,g4,g5,Pt.dat]⟩
 .have w5:c%5=0\/c%5=1\/c%5=2\/c%5=3\/c%5=4:=by omega
  rcases w5 with w5|w5|w5|w5|w5
  .exact⟨_,mk1 (.s "") (u5 _),by simp[cV,dB,ht,h4,h5,hd,hlq,hj,w,c4,w5,g6,Pt.dat]⟩
  .exact⟨_,mk1 (.s "Cut") (u5 _),by simp[cV,dB,ht,h4,h5,hd,hlq,hj,w,c4,w5,g6,Pt.dat]⟩
  .exact⟨_,mk1 (.s "cut ") (u5 _),by simp[cV,dB,ht,h4,h5,hd,hlq,hj,w,c4,w5,g6,Pt.dat]⟩
  .exact⟨_,mk1 (.s "sale") (u5 _),by simp[cV,dB,ht,h4,h5,hd,hlq,hj,w,c4,w5,g6,Pt.dat]⟩
  .exact⟨_,mk1 (.s "owners") (u5 _),by simp[cV,dB,ht,h4,h5,hd,hlq,hj,w,c4,w5,g6,Pt.dat]⟩
 .exact⟨_,mk j (j+1) (.n y) atV,by simp[cV,dB,ht,h4,h5,hd,hlq,hj,w,c1,c2,g1,g2,hy,Pt.dat]⟩
 .exact⟨_,mk j (j+1) (.e e) he,by simp[cV,dB,ht,h4,h5,hd,hd17,hlq,hj,w,c1,c2,g1,g2,hear,he2,Pt.dat]⟩
 .exact⟨_,mk j (j+1) (.n (1000000000-c%2)) atV,by simp[cV,dB,ht,h4,h5,hd,hlq,hj,w,c1,c2,g1,g2,Pt.dat]⟩
 .exact⟨_,mk j (j+1) (.s "cut") (u5 _),by simp[cV,dB,ht,h4,h5,hd,hlq,hj,w,c1,c2,g1,g2,Pt.dat]⟩
 .exact⟨_,mk1 (.s x) hx2,by simp[cV,dB,ht,h4,h5,hd,hlq,hj,w,c4,g6,hx,Pt.dat]⟩
theorem aaQ(M:Mo)(p:Pt)(h:p.fine):lG M [p.dat]=.ok (.bool (lZ p .e)):=by
 cases p with
 |n i=>simp[lG,rM,Pt.dat,lZ,iK,j9]
 |e l=>exact aa1 M l h
 |s x=>simp[lG,rM,Pt.dat,lZ,iK,j9]
theorem agm(M:Mo)(p:Pt)(k:Kn)(h:p.fine)(x0 x1 x2 x3:Option Cell):mF M [x0,x1,x2,x3,some (.dat p.dat),some (.dat (.str k.C))]=if lZ p k=true then .next [x0,x1,x2,x3,some (.dat p.dat),some (.dat (.str k.C))] M else .ret (.bool true) M:=by
 have h1:=akg k;have h2:=alK k;have h3:=aoK k;have h4:=aaQ M p h;have ti:∀l,iK .int (aK l)=.ok (.bool false):=λ_=>rfl;cases k with
 |e=>cases hb:lZ p .e<;>rw[hb]at h4<;>simp[mF,h1,h2,h3,h4,Kn.c]
 |n=>
  cases p with
  |n i=>by_cases h0:0<=i<;>by_cases h9:i<=999999999<;>simp[mF,h1,h2,h3,Kn.c,Pt.dat,lZ,iK,j9,h0,h9]
  |e l=>simp[mF,h1,h2,h3,Kn.c,Pt.dat,lZ,ti]
  |s x=>simp[mF,h1,h2,h3,Kn.c,Pt.dat,lZ,iK,j9]
 |p=>
  cases p with
  |n i=>by_cases h0:0<=i<;>by_cases h9:i<=5<;>simp[mF,h1,h2,h3,Kn.c,Pt.dat,lZ,iK,j9,h0,h9]
  |e l=>simp[mF,h1,h2,h3,Kn.c,Pt.dat,lZ,ti]
  |s x=>simp[mF,h1,h2,h3,Kn.c,Pt.dat,lZ,iK,j9]
theorem Zo(M:Mo)(x0 x1 x2 x3:Option Cell):∀(l:List (Pt×Kn)) (x4 x5:Option Cell),(∀x∈l,x.1.fine)->if (l.all λx=>lZ x.1 x.2)=true then ∃y4 y5,eO (bF [4,5]) mF (l.map λx=>PyData.tuple [x.1.dat,.str x.2.C]) M [x0,x1,x2,x3,x4,x5]=.next [x0,x1,x2,x3,y4,y5] M else eO (bF [4,5]) mF (l.map λx=>PyData.tuple [x.1.dat,.str x.2.C]) M [x0,x1,x2,x3,x4,x5]=.ret (.bool true) M
 |[],x4,x5,_=>by
  rw[at5 (by simp)];exact⟨x4,x5,rfl⟩
 |x::l,x4,x5,h=>by
  have ih:=Zo M x0 x1 x2 x3 l (some (.dat x.1.dat)) (some (.dat (.str x.2.C))) λy hy=>h y (asB _ hy);have hs:=agm M x.1 x.2 (h x asC) x0 x1 x2 x3;rw[atc,asy];cases hb:lZ x.1 x.2 with
  |true=>
   rw[hb,at5 rfl]at hs;rw[Bool.true_and,jh (Z1:=[x0,x1,x2,x3,some (.dat x.1.dat),some (.dat (.str x.2.C))]) (by simp) hs];exact ih
  |false=>
   rw[hb,at6 (by simp)]at hs;rw[Bool.false_and,at6 (by simp),eO];simp[hs]
theorem in_words(w:Str):∀l:List (Str×List Kn),((l.map λp=>PyData.str p.1).any λz=>PyData.eqv z (.str w))=(l.lookup w).isSome
 |[]=>rfl
 |p::l=>by
  rw[asy,aty,in_words w l,aen,asY,BEq.comm];cases w==p.1<;>rfl
theorem W6(w:Str)(ks:List Kn):∀l:List (Str×List Kn),l.lookup w=some ks->∃j p,(l.map λp=>PyData.str p.1).findIdx? (λz=>PyData.eqv z (.str w))=some j/\l[j]?=some p/\p.2=ks
 |[],h=>nomatch h
 |p::l,h=>by
  rw[asY]at h;rw[asy,List.findIdx?_cons,aen,BEq.comm];cases hw:w==p.1 with
  |true=>
   rw[hw]at h;cases h;exact⟨0,p,rfl,rfl,rfl⟩
  |false=>
   rw[hw]at h;obtain⟨j,q,h1,h2,h3⟩:=W6 w ks l h;exact⟨j+1,q,by simp[h1],h2,h3⟩
theorem afl:nH 12 sV=true:=Ec.mpr λd hd=>by
 obtain⟨p,hp,rfl⟩:=asJ.mp hd;rw[okd];exact(Aj p hp).2.1
theorem afT:sV.all Im=true:=by rfl
theorem Zg:∀(ps:List Pt) (ks:List Kn),pB (ps.map Pt.dat) (ks.map λk=>PyData.str k.C)=(ps.zip ks).map λx=>PyData.tuple [x.1.dat,.str x.2.C]
 |[],ks=>by cases ks<;>simp[pB]
 |_::_,[]=>by simp[pB]
 |p::ps,k::ks=>by
  have:=Zg ps ks;unfold pB at this |-
  rw[asy,asy,List.zipWith_cons_cons,this,atj,asy]
theorem aes(M:Mo)(ps:List Pt)(hf:Ov ps):qJ M [.tuple (ps.map Pt.dat)]=.ok (.bool (!nZ ps)):=by
 cases ps with
 |nil=>simp[qJ,vO,nZ]
 |cons p ps=>
  have hl:=hf.1;rw[asQ]at hl;have hne:¬(ps.length:Int)+1=0:=by omega
  cases p with
  |n i=>simp[qJ,vO,nZ,Pt.dat,hne,iK,j9]
  |e l=>
   have ts:iK .str (aK l)=.ok (.bool false):=rfl;simp[qJ,vO,nZ,Pt.dat,hne,ts]
  |s w=>
   have hw:PyData.strOk w=true:=hf.2 _ asC;have ds:(Pt.s w).dat=.str w:=rfl;have h1:inD true (.str w) (.list sV)=.ok (.bool (!(gA.lookup w).isSome)):=by
    have h0:okd 12 (.str w)=true:=hw
    show(Out.when (okd 12 (.str w)&&nH 12 sV) _).bind _=_
    rw[h0,afl];show Out.ok (PyData.bool (true ^^ _))=_;rw[show sV=gA.map λp=>PyData.str p.1 from rfl,in_words,Bool.true_xor]
   have ts:iK .str (.str w)=.ok (.bool true):=rfl;cases hk:gA.lookup w with
   |none=>
    rw[hk]at h1;simp only[Option.isSome_none,Bool.not_false]at h1;simp[qJ,vO,nZ,ds,hne,Eb,Jh,Bt,DY,h1,hk,ts]
   |some ks=>
    rw[hk]at h1;simp only[Option.isSome_some,Bool.not_true]at h1;obtain⟨j,p,h2,h3,rfl⟩:=W6 w ks gA hk;have h4:Ay sV (.str w)=.ok (.int (j:Nat)):=by unfold Ay;rw[afT,show sV=gA.map λp=>PyData.str p.1 from rfl,h2];rfl
    have h5:atI OJ (j:Int)=some (.str (m9 p.2)):=Uv gA (λp=>PyData.str (m9 p.2)) j p h3;have h6:=(Aj p (asH h3)).2.2;have h7:(m9 p.2).length=p.2.length:=by
     show(List.toArray _).size=_
     simp
    have h8:j8 (.str (m9 p.2))=.ok (.int p.2.length):=by
     have h9:p.2.length<=100000:=by omega
     unfold j8;simp[h7,h9]
    have hi:kW (.str (m9 p.2))=.ok (Dt (m9 p.2)):=by
     unfold kW;have:(m9 p.2).length<=100000:=by omega
     simp[this]
    rw[Rv]at hi;have hs:Rf.cutD (PyData.str w::ps.map Pt.dat) (some 1) none=ps.map Pt.dat:=xK _ 1;have hz:=Zg ps p.2;have lp:=Zo M (some (.dat (.tuple (.str w::ps.map Pt.dat)))) (some (.dat (.list sV))) (some (.dat (.list OJ))) (some (.dat (.str (m9 p.2)))) (ps.zip p.2) none none λx hx=>hf.2 x.1 (asB _ (List.of_mem_zip hx).1);by_cases hq:ps.length=p.2.length
    .have hq1:((p.2.length:Int)==(ps.length:Int)+1-1)=true:=by simp;omega
     have hb:DN ps p.2=(ps.zip p.2).all λx=>lZ x.1 x.2:=rfl;have hne2:¬(p.2.length:Int)+1=0:=by omega
     cases hpb:(ps.zip p.2).all λx=>lZ x.1 x.2 with
     |true=>
      rw[hpb,at5 rfl]at lp;obtain⟨y4,y5,lp⟩:=lp;rw[hpb]at hb;simp[qJ,vO,nZ,ds,hne,hne2,Eb,Jh,Bt,DY,h1,hk,ts,h4,h5,h8,hq,hi,hs,hz,lp,hb]
     |false=>
      rw[hpb,at6 (by simp)]at lp;rw[hpb]at hb;simp[qJ,vO,nZ,ds,hne,hne2,Eb,Jh,Bt,DY,h1,hk,ts,h4,h5,h8,hq,hi,hs,hz,lp,hb]
    .have hq2:¬(p.2.length:Int)=ps.length:=by omega
     simp[qJ,vO,nZ,ds,hne,Eb,Jh,Bt,DY,h1,hk,ts,h4,h5,h8,hq,hq2]
def Lay.hs(L:Lay):List Nat:=L.c::L.g::L.r::L.h::L.bs
theorem At.keep{M M':Mo}{L:Lay}{c:aV}(a:At M L c)(h:∀x∈L.hs,M'[x]?=M[x]?):At M' { L with fr:=[] } c:=by
 have hb:∀x∈L.bs,M'[x]?=M[x]?:=λx hx=>h x (by simp[Lay.hs,hx]);obtain⟨n,m,hg⟩:=a.hg;obtain⟨k,hh⟩:=a.hh;exact⟨(h L.c (by simp[Lay.hs])).trans a.hc,⟨n,m,(h L.g (by simp[Lay.hs])).trans hg⟩,(h L.r (by simp[Lay.hs])).trans a.hr,⟨k,(h L.h (by simp[Lay.hs])).trans hh⟩,a.len,λi x b h1 h2=>by
  obtain⟨n,e⟩:=a.hb i x b h1 h2;exact⟨n,(hb x (asH h1)).trans e⟩,a.nd,λp hp=>nomatch hp⟩
theorem At.has{M:Mo}{L:Lay}{c:aV}(a:At M L c):∀x∈L.hs,∃i,M[x]?=some i:=λx hx=>by
 unfold Lay.hs at hx;simp only[asN]at hx;rcases hx with rfl|rfl|rfl|rfl|hx
 .exact⟨_,a.hc⟩
 .obtain⟨_,_,h⟩:=a.hg;exact⟨_,h⟩
 .exact⟨_,a.hr⟩
 .obtain⟨_,h⟩:=a.hh;exact⟨_,h⟩
 .obtain⟨i,hi⟩:=List.mem_iff_getElem?.mp hx;obtain⟨hl,_⟩:=asx.mp hi;rw[a.len]at hl;obtain⟨_,h⟩:=a.hb i x _ hi (asz hl);exact⟨_,h⟩
theorem At.over{M:Mo}{L K:Lay}{c c2:aV}(a:At M L c)(b:At M K c2)(dj:∀x∈K.hs,x∉L.hs):At M { L with fr:=K.hs.map λx=>(x,M[x]?.getD ⟨"",[]⟩) } c:=
 ⟨a.hc,a.hg,a.hr,a.hh,a.len,a.hb,a.nd,λp hp=>by
  obtain⟨x,hx,rfl⟩:=asJ.mp hp;obtain⟨i,e⟩:=b.has x hx;exact⟨by rw[e];rfl,dj x hx⟩⟩
theorem Z7{M:Mo}{L K:Lay}{c c2:aV}{o:bx Dat}{r:Res}(a:At M L c)(b:At M K c2)(dj:∀x∈K.hs,x∉L.hs)(H:∀L':Lay,L'.c=L.c->At M L' c->Sp M L' o r) :
  (∃d c' M' L',r=.ok d c'/\L'.c=L.c/\o=.ok d M'/\At M' L' c'/\At M' { K with fr:=[] } c2/\∀x∈K.hs,x∉L'.hs)\/∃x,r=.no x/\o=.exc x M:=by
 have h:=H { L with fr:=K.hs.map λx=>(x,M[x]?.getD ⟨"",[]⟩) } rfl (a.over b dj)
 cases r with
 |no x=>exact .inr ⟨x,rfl,h⟩
 |ok d c'=>
  obtain⟨M',bs,e,a'⟩:=h;refine .inl ⟨d,c',M',{ L with bs:=bs,fr:=[] },rfl,rfl,e,a'.keep λ_ _=>rfl,b.keep λx hx=>?_,λx hx=>?_⟩
  .obtain⟨i,e⟩:=b.has x hx;have:=(a'.fr (x,M[x]?.getD ⟨"",[]⟩) (asJ.mpr ⟨x,hx,rfl⟩)).1
   rw[this,e];rfl
  .exact(a'.fr (x,M[x]?.getD ⟨"",[]⟩) (asJ.mpr ⟨x,hx,rfl⟩)).2
theorem kind_all:(jJ.all λp=>(lU p.1).any λbs=>decide (bs.length<=100))=true:=by decide +kernel
theorem kinds{c:aV}{d:bf}{x:dX}(h:cP c d=.no x):∃bs,lU x.cls=some bs/\bs.length<=100:=by have h1:=asV.mp kind_all _ (ql (Ql h));obtain⟨bs,e,hb⟩:=PySem.W.any_some h1;exact⟨bs,e,atZ hb⟩
def outD:Res->Dat
 |.ok r _=>.tuple [.list [],r]
 |.no x=>.tuple [.list (((lU x.cls).getD []).map .bool),.none]
theorem akF{c c':aV}{d:bf}{r:Dat}(h:cP c d=.ok r c'):lk 8 r=true:=by
 have e1:∀x,lk 8 (aK x)=true:=YL 7;have e2:∀x,lk 7 (aK x)=true:=YL 6;have e3:∀x,lk 8 (lI x)=true:=λx=>by
  show lk 8 (.list (x.map PyData.int))=true;rw[lk];exact ZW 7 x
 have e4:∀l:List (List Int),lk 8 (.list (l.map aK))=true:=λl=>by
  rw[lk];exact tM.mpr λd hd=>by
   obtain⟨x,_,rfl⟩:=asJ.mp hd;exact e2 x
 cases d<;>simp only[cP,uR,yP,Lr,qp,Bw,yE,markB]at h<;>(repeat' split at h)<;>cases h<;>first | exact e1 _ | exact e3 _ | exact e4 _ | rfl | (rw[lk,uJ,uJ,uJ,e2];rfl)
theorem amt{c:aV}{d:bf}:lk 9 (outD (cP c d))=true:=by
 cases h:cP c d with
 |ok r c'=>
  have:=akF h;simp[outD,lk,uJ,this]
 |no x=>
  have:uJ 7 (((lU x.cls).getD []).map PyData.bool)=true:=tM.mpr λz hz=>by
   obtain⟨b,_,rfl⟩:=asJ.mp hz;rfl
  simp[outD,lk,uJ,this]
theorem aa7{M M':Mo}{L:Lay}{c:aV}{d:Dat}{r:Dat}(a:At M L c)(h:bU M [ob L.c,d]=.ok r M'):pP M [ob L.c,d]=.ok (.tuple [.list [],r]) M':=by simp[pP,CV,a.hc,aM,mY,h]
theorem aa9{M:Mo}{L:Lay}{c:aV}{d:Dat}{x:dX}{bs:List Bool}(a:At M L c)(h:bU M [ob L.c,d]=.exc x M)(hx:jJ.lookup x.cls=some true)(hb:lU x.cls=some bs):pP M [ob L.c,d]=.ok (.tuple [.list (bs.map .bool),.none]) M:=by simp[pP,CV,a.hc,aM,mY,h,hx,hb,yu,JB]
theorem ac3{M M':Mo}{L:Lay}{d:Dat}{r:Dat}(h:fG M [ob L.c,d]=.ok r M'):rC M [ob L.c,d]=.ok (.tuple [.list [],r]) M':=by simp[rC,Gp,h]
theorem acS{M:Mo}{L:Lay}{d:Dat}{x:dX}{bs:List Bool}(h:fG M [ob L.c,d]=.exc x M)(hx:jJ.lookup x.cls=some true)(hb:lU x.cls=some bs):rC M [ob L.c,d]=.ok (.tuple [.list (bs.map .bool),.none]) M:=by simp[rC,Gp,h,hx,hb,yu,JB]
structure Both(M:Mo)(L K:Lay)(n s:Nat)(c:aV):Prop where
 a:At M L c
 b:At M K c
 dj:∀x∈K.hs,x∉L.hs
 inv:Inv n s c
theorem aeF{M:Mo}{L K:Lay}{n s:Nat}{c:aV}(B:Both M L K n s c)(hs:s<=76)(hn:n<=199)(d:bf)(hd:Cz d)(hf:nM d=true) :
  ∃M1 M2 L' K' c',pP M [ob L.c,d.dat]=.ok (outD (cP c d)) M1/\rC M1 [ob K.c,d.dat]=.ok (outD (cP c d)) M2/\L'.c=L.c/\K'.c=K.c/\Both M2 L' K' (n+1) (s+1) c':=by
 have dj2:∀x∈L.hs,x∉K.hs:=λx h1 h2=>B.dj x h2 h1;rcases Z7 B.a B.b B.dj (o:=bU M [ob L.c,d.dat]) (r:=cP c d) (λL' e a'=>e ▸ anG a' B.inv hs hn d hd hf) with⟨r,c',M1,L',e1,e2,e3,a1,b1,j1⟩|⟨x,e1,e2⟩
 .have j1':∀x∈L'.hs,x∉({ K with fr:=[] }:Lay).hs:=λx h1 h2=>j1 x h2 h1;rcases Z7 b1 a1 j1' (o:=fG M1 [ob K.c,d.dat]) (r:=cP c d) (λK' e b'=>by
   have e:K'.c=K.c:=e;exact e ▸ aaw b' B.inv hs hn d hd) with⟨r2,c2,M2,K',f1,f2,f3,b2,a2,j2⟩|⟨x,f1,f2⟩
  .rw[e1]at f1;cases f1;refine⟨M1,M2,{ L' with fr:=[] },K',c',?_,?_,e2,f2,a2,b2,λx h1 h2=>j2 x h2 h1,(ag6 B.inv hn e1).mono (as6 _) (by have:=ajz d;omega)⟩
   .rw[e1];exact aa7 B.a e3
   .rw[e1];exact ac3 (L:=K) f3
  .rw[e1]at f1;cases f1
 .obtain⟨bs,k1,k2⟩:=kinds e1;rcases Z7 B.b B.a dj2 (o:=fG M [ob K.c,d.dat]) (r:=cP c d) (λK' e b'=>e ▸ aaw b' B.inv hs hn d hd) with⟨r2,c2,M2,K',f1,f2,f3,b2,a2,j2⟩|⟨x2,f1,f2⟩
  .rw[e1]at f1;cases f1
  .rw[e1]at f1;cases f1;refine⟨M,M,L,K,c,?_,?_,rfl,rfl,B.a,B.b,B.dj,B.inv.mono (by omega) (by omega)⟩
   .rw[e1,outD,k1];exact aa9 B.a e2 (Ql e1) k1
   .rw[e1,outD,k1];exact acS f2 (Ql e1) k1
theorem Ml{α:Type}(M l:List α)(k:Nat):(M++l)[M.length+k]?=l[k]?:=by rw[asU (by omega),Nat.add_sub_cancel_left]
theorem acf{α:Type}(M l:List α):(M++l)[M.length]?=l[0]?:=Ml M l 0
theorem afy{α:Type}(M l:List α)(k:Nat)(x:α):(M++l).set (M.length+k) x=M++l.set k x:=by rw[List.set_append_right _ _ (by omega),Nat.add_sub_cancel_left]
theorem ail{α:Type}(M l:List α)(x:α):(M++l).set M.length x=M++l.set 0 x:=afy M l 0 x
def newT(n:Nat):Mo:=[⟨"Commons",[("owner_count",.dat (.int 0)),("holders",.dic false []),("grounds",.dat (ob (n+2))),("rights",.dat (ob (n+5))),("herd",.dat (ob (n+7)))]⟩,⟨"",[]⟩,⟨"Grounds",[("allowances",.lst (n+3) []),("circles",.lst (n+4) [])]⟩,⟨"",[]⟩,⟨"",[]⟩,⟨"Rights",[("held",.dic true [])]⟩,⟨"",[]⟩,⟨"Herd",[("beasts",.lst (n+8) [])]⟩,⟨"",[]⟩]
theorem ai8(M:Mo):iD (M++[⟨"Commons",[]⟩]) [ob M.length]=.ok .none (M++newT M.length):=by simp[iD,zA,lF,vM,zQ,wY,BP,Af,Hg,Ml,acf,afy,ail,newT]
theorem Vw(M:Mo):∃M' L,L.c=M.length/\L.fr=[]/\iD (M++[⟨"Commons",[]⟩]) [ob M.length]=.ok .none M'/\At M' L agf/\(∀x∈L.hs,M.length<=x)/\∀x,x<M.length->M'[x]?=M[x]?:=by
 refine⟨_,⟨M.length,M.length+2,M.length+5,M.length+7,[],[]⟩,rfl,rfl,ai8 M,⟨acf ..,⟨M.length+3,M.length+4,Ml ..⟩,Ml ..,⟨M.length+8,Ml ..⟩,rfl,λi h b z _=>(nomatch z),?_,λp hp=>(nomatch hp)⟩,λx hx=>?_,λx hx=>asM hx⟩
 .simp
 .simp[Lay.hs]at hx;omega
def JW:SF:=
 (aC (bB (aW (aA bH (ao 9) (qC (.str "owner")))) (GZ 12 (qC (.int 1))) aH)
 (aC (bB (aW (aA bH (ao 9) (qC (.str "ground")))) (GZ 13 (qC (.int 1))) aH)
 (aC (bB (Eh (aW (aA bH (ao 9) (qC (.str "bring")))) (aW (aA bH (ao 9) (qC (.str "bear"))))) (GZ 14 (qC (.int 1))) aH)
 (aR (aF 2) (gOf (bA (ak (aq 12) (ak (aq 13) (ak (aq 14) au)))))))))
def wg(o g b:Int):Dat:=.tuple [.int o,.int g,.int b]
theorem aaL(M:Mo)(w:Str)(o g b:Int)(ho:0<=o)(hg:0<=g)(hb:0<=b)(x0 x1 x2 x3 x4 x5 x6 x7 x8 x10 x11:Option Cell):∃o' g' b':Int,(0<=o'/\0<=g'/\0<=b')/\JW M [x0,x1,x2,x3,x4,x5,x6,x7,x8,some (.dat (.str w)),x10,x11,some (.dat (.int o)),some (.dat (.int g)),some (.dat (.int b))]=.next [x0,x1,some (.dat (wg o' g' b')),x3,x4,x5,x6,x7,x8,some (.dat (.str w)),x10,x11,some (.dat (.int o')),some (.dat (.int g')),some (.dat (.int b'))] M:=by
 by_cases h1:w="owner"
 .subst h1;exact⟨o+1,g,b,⟨by omega,hg,hb⟩,by simp[JW,wg]⟩
 by_cases h2:w="ground"
 .subst h2;exact⟨o,g+1,b,⟨ho,by omega,hb⟩,by simp[JW,wg]⟩
 by_cases h3:w="bring"
 .subst h3;exact⟨o,g,b+1,⟨ho,hg,by omega⟩,by simp[JW,wg]⟩
 by_cases h4:w="bear"
 .subst h4;exact⟨o,g,b+1,⟨ho,hg,by omega⟩,by simp[JW,wg]⟩
 exact⟨o,g,b,⟨ho,hg,hb⟩,by simp[JW,wg,h1,h2,h3,h4]⟩
theorem afc(M:Mo)(x0:Option Cell)(head:Int)(base:List Int)(hb:base.length=6)(i:Nat)(x o g b:Int)(ho:0<=o)(hg:0<=g)(hbb:0<=b)(acc:List Dat)(hl:acc.length<1000)(x8 x9 x10 x11 x12 x13 x14:Option Cell) :
  ∃(d:bf) (o' g' b':Int) (y8 y9 y10 y11 y12 y13 y14:Option Cell),(nM d=true/\Cz d)/\(0<=o'/\0<=g'/\0<=b')/\
   Ey M [x0,some (.dat (.int head)),some (.dat (wg o g b)),some (.dat (aK base)),some (.dat (.list ((yH head).map Jr))),some (.mut acc),some (.dat (.int i)),some (.dat (.int x)),x8,x9,x10,x11,x12,x13,x14] =
    .next [x0,some (.dat (.int head)),some (.dat (wg o' g' b')),some (.dat (aK base)),some (.dat (.list ((yH head).map Jr))),some (.mut (acc++[d.dat])),some (.dat (.int i)),some (.dat (.int x)),y8,y9,y10,y11,y12,y13,y14] M:=by
 have h1:vq M [.int x,.int 14,.int 10]=.ok (lI (rowOf x 14 10)):=aay M x 14 10 (by decide) (by decide) (by decide);have P:=aif x hb;obtain⟨r0,q0,q0'⟩:=Jl x 0 (by decide);obtain⟨r1,q1,q1'⟩:=Jl x 1 (by decide);obtain⟨r2,q2,q2'⟩:=Jl x 2 (by decide);obtain⟨r3,q3,q3'⟩:=Jl x 3 (by decide);obtain⟨r4,q4,q4'⟩:=Jl x 4 (by decide);obtain⟨r5,q5,q5'⟩:=Jl x 5 (by decide);generalize rowOf x 14 10=p at *;generalize p.getD 0 0=d0 at *;generalize p.getD 1 0=d1 at *;generalize p.getD 2 0=d2 at *;generalize p.getD 3 0=d3 at *;generalize p.getD 4 0=d4 at *;generalize p.getD 5 0=d5 at *;obtain⟨w,hw,h2⟩:=ajx M (d0*10+d1);have hm:∀z,decide (CMul z 10)=true:=λz=>mul_r (by decide);have hl2:acc.length<100000:=by omega
 simp only[Int.natCast_zero,Int.natCast_one,show((2:Nat):Int)=2 from rfl,show((3:Nat):Int)=3 from rfl,show((4:Nat):Int)=4 from rfl,show((5:Nat):Int)=5 from rfl]at r0 r1 r2 r3 r4 r5;have e:Ey=(aC (aR (aF 8) (gOf (aU vq (ak (aq 7) (ak (qC (.int 14)) (ak (qC (.int 10)) au))))))
  (aC (aR (aF 9) (gOf (aU xO (ak (aA bZ (aA yw (aA aY (ao 8) (qC (.int 0))) (qC (.int 10))) (aA aY (ao 8) (qC (.int 1)))) au))))
  (aC (aR (aF 10) (gOf (aA bZ (aA yw (aA aY (ao 8) (qC (.int 2))) (qC (.int 10))) (aA aY (ao 8) (qC (.int 3))))))
  (aC (aR (aF 11) (gOf (aA bZ (aA yw (aA aY (ao 8) (qC (.int 4))) (qC (.int 10))) (aA aY (ao 8) (qC (.int 5))))))
  (aC (bB (aW (aA Nr (ao 6) (fj j8 (ao 4)))) (aR (bF [9,10,11]) (gOf (aA aY (ao 4) (ao 6)))) aH)
  (aC (aR (bF [12,13,14]) (gOf (aq 2)))
  (aC (zB 5 (aU gW (ak (aq 9) (ak (aq 10) (ak (aq 11) (ak (aq 8) (ak (aq 2) (ak (aq 3) au))))))))
  JW))))))):=rfl
 rw[e];by_cases hi:i<(yH head).length
 .have hi':(i:Int)<(yH head).length:=by omega
  have gg:=asz hi;obtain⟨b1,b2,b3⟩:=ajg _ (atm hi);generalize (yH head)[i]=bb at *;obtain⟨d,e1,e2,e3⟩:=YW M P bb.2.1 bb.2.2 o g b ho hg hbb b1 b2 b3;obtain⟨o',g',b',pos,e4⟩:=aaL M bb.1 o g b ho hg hbb x0 (some (.dat (.int head))) (some (.dat (wg o g b))) (some (.dat (aK base))) (some (.dat (.list ((yH head).map Jr)))) (some (.mut (acc++[d.dat]))) (some (.dat (.int i))) (some (.dat (.int x))) (some (.dat (lI p))) (some (.dat (.int bb.2.1))) (some (.dat (.int bb.2.2)));refine⟨d,o',g',b',some (.dat (lI p)),some (.dat (.str bb.1)),some (.dat (.int bb.2.1)),some (.dat (.int bb.2.2)),some (.dat (.int o')),some (.dat (.int g')),some (.dat (.int b')),⟨e2,e3⟩,pos,?_⟩;have e1:gW M [.str bb.1,.int bb.2.1,.int bb.2.2,lI p,wg o g b,aK base]=.ok d.dat:=e1;unfold wg at e1 e4 |-
  simp[h1,r0,r1,r2,r3,r4,r5,hm,h2,hi',gg];simp[Jr,e1,hl2];exact e4
 .have hi':¬(i:Int)<(yH head).length:=by omega
  obtain⟨d,e1,e2,e3⟩:=YW M P (d2*10+d3) (d4*10+d5) o g b ho hg hbb hw (by omega) (by omega);obtain⟨o',g',b',pos,e4⟩:=aaL M w o g b ho hg hbb x0 (some (.dat (.int head))) (some (.dat (wg o g b))) (some (.dat (aK base))) (some (.dat (.list ((yH head).map Jr)))) (some (.mut (acc++[d.dat]))) (some (.dat (.int i))) (some (.dat (.int x))) (some (.dat (lI p))) (some (.dat (.int (d2*10+d3)))) (some (.dat (.int (d4*10+d5))));refine⟨d,o',g',b',some (.dat (lI p)),some (.dat (.str w)),some (.dat (.int (d2*10+d3))),some (.dat (.int (d4*10+d5))),some (.dat (.int o')),some (.dat (.int g')),some (.dat (.int b')),⟨e2,e3⟩,pos,?_⟩;have e1:gW M [.str w,.int (d2*10+d3),.int (d4*10+d5),lI p,wg o g b,aK base]=.ok d.dat:=e1;unfold wg at e1 e4 |-
  simp[h1,r0,r1,r2,r3,r4,r5,hm,h2,hi'];simp[e1,hl2];exact e4
theorem V9(M:Mo)(x0:Option Cell)(head:Int)(base:List Int)(hb:base.length=6):∀(xs:List (Nat×Int)) (o g b:Int) (acc:List Dat) (x6 x7 x8 x9 x10 x11 x12 x13 x14:Option Cell),0<=o->0<=g->0<=b->acc.length+xs.length<=900->
  ∃(ds:List bf) (Z:Rf.Env),ds.length=xs.length/\(∀d∈ds,nM d=true/\Cz d)/\Z[5]?=some (some (Cell.mut (acc++ds.map bf.dat)))/\Z.length=15/\eO (bF [6,7]) Ey (xs.map λq=>PyData.tuple [.int q.1,.int q.2]) M [x0,some (.dat (.int head)),some (.dat (wg o g b)),some (.dat (aK base)),some (.dat (.list ((yH head).map Jr))),some (.mut acc),x6,x7,x8,x9,x10,x11,x12,x13,x14]=.next Z M
 |[],o,g,b,acc,x6,x7,x8,x9,x10,x11,x12,x13,x14,_,_,_,_=>⟨[],_,rfl,λ_ h=>(nomatch h),by simp,rfl,rfl⟩
 |q::xs,o,g,b,acc,x6,x7,x8,x9,x10,x11,x12,x13,x14,ho,hg,hbb,hl=>by
  rw[asQ]at hl;obtain⟨d,o',g',b',y8,y9,y10,y11,y12,y13,y14,h1,⟨p1,p2,p3⟩,h2⟩:=afc M x0 head base hb q.1 q.2 o g b ho hg hbb acc (by omega) x8 x9 x10 x11 x12 x13 x14;obtain⟨ds,Z,z1,z2,z3,z4,z5⟩:=V9 M x0 head base hb xs o' g' b' (acc++[d.dat]) (some (.dat (.int q.1))) (some (.dat (.int q.2))) y8 y9 y10 y11 y12 y13 y14 p1 p2 p3 (by rw[ati,List.length_singleton];omega);refine⟨d::ds,Z,by rw[asQ,z1,asQ],λe he=>(asN.mp he).elim (λk=>by rw[k];exact h1) (z2 e),by rw[z3,List.append_assoc];rfl,z4,?_⟩;rw[asy,jh (Z1:=[x0,some (.dat (.int head)),some (.dat (wg o g b)),some (.dat (aK base)),some (.dat (.list ((yH head).map Jr))),some (.mut acc),some (.dat (.int q.1)),some (.dat (.int q.2)),x8,x9,x10,x11,x12,x13,x14]) (by simp) h2];exact z5
theorem adR(cells:List Int):mU 0 (cells.map PyData.int)=(cells.mapIdx λi x=>(i,x)).map λ(q:Nat×Int)=>PyData.tuple [.int q.1,.int q.2]:=by unfold mU;apply ata;intro i;simp;cases cells[i]?<;>simp
theorem aiS(M:Mo)(cells:List Int)(hl:cells.length<=100)(head:Int):∃ds:List bf,ds.length=cells.length/\(∀d∈ds,nM d=true/\Cz d)/\Mz M [lI cells,.int head]=.ok (.list (ds.map bf.dat)):=by
 have hb:=Gf (head/512);have h1:=aam M (head/512);have h2:=ae2 M head;have hd:∀z,decide (CDiv z 512)=true:=λz=>decide_eq_true ⟨by decide,by decide⟩;have hen:=adR cells;obtain⟨ds,Z,z1,z2,z3,z4,z5⟩:=V9 M (some (.dat (lI cells))) head (CP (head/512)) hb (cells.mapIdx λi x=>(i,x)) 0 0 0 [] none none none none none none none none none (Int.le_refl 0) (Int.le_refl 0) (Int.le_refl 0) (by simp;omega);rw[List.length_mapIdx]at z1;refine⟨ds,z1,z2,?_⟩
 match Z,z4 with
 |[r0,r1,r2,r3,r4,r5,r6,r7,r8,r9,r10,r11,r12,r13,r14],_=>
  have z3:some r5=some (some (Cell.mut (ds.map bf.dat))):=z3;cases z3;have z5:eO (bF [6,7]) Ey _ M [_,_,some (.dat (.tuple [.int 0,.int 0,.int 0])),_,_,_,_,_,_,_,_,_,_,_,_]=_:=z5;have hl2:ds.length<=100000:=by omega
  simp[Mz,YS,hd,h1,h2,hen,z5,hl2]
theorem Et{M:Mo}{L:Lay}{c:aV}(a:At M L c)(ps:List Pt)(hl:ps.length<=100)(h:∀p∈ps,p.fine)(hf:nZ ps=false):yG M [ob L.c,.tuple (ps.map Pt.dat)]=.ok (.bool true) M:=by
 have h0:=agD M ps hl h;rw[hf]at h0;have h1:bU M [ob L.c,.tuple (ps.map Pt.dat)]=.exc ⟨"BadDeed",[]⟩ M:=by simp[bU,cW,h0]
 simp[yG,acX,a.hc,aM,mY,h1,Ku,yu,JB]
theorem WK(x0 x1 x5 x6:Option Cell):∀(ds:List bf) (M:Mo) (L K:Lay) (n s:Nat) (c:aV) (x4:Option Cell),Both M L K n s c->(∀d∈ds,nM d=true/\Cz d)->s+ds.length<=76->n+ds.length<=199->
  ∃M' L' K' n' s' c' y4,L'.c=L.c/\K'.c=K.c/\Both M' L' K' n' s' c'/\s'<=76/\eO (aF 4) O4 (ds.map bf.dat) M [x0,x1,some (.dat (ob L.c)),some (.dat (ob K.c)),x4,x5,x6]=.next [x0,x1,some (.dat (ob L.c)),some (.dat (ob K.c)),y4,x5,x6] M'
 |[],M,L,K,n,s,c,x4,B,_,hs,_=>⟨M,L,K,n,s,c,x4,rfl,rfl,B,by simpa using hs,rfl⟩
 |d::ds,M,L,K,n,s,c,x4,B,hd,hs,hn=>by
  rw[asQ]at hs hn;obtain⟨f1,f2⟩:=hd d asC;obtain⟨M1,M2,L1,K1,c1,e1,e2,e3,e4,B1⟩:=aeF B (by omega) (by omega) d f2 f1;obtain⟨M',L',K',n',s',c',y4,g1,g2,g3,g4,g5⟩:=WK x0 x1 x5 x6 ds M2 L1 K1 (n+1) (s+1) c1 (some (.dat d.dat)) B1 (λe he=>hd e (asB _ he)) (by omega) (by omega);have lk1:oU 10 M2 [outD (cP c d),outD (cP c d)]=.ok (.bool true):=abI M2 9 _ amt;generalize outD (cP c d)=z at *;refine⟨M',L',K',n',s',c',y4,g1.trans e3,g2.trans e4,g3,g4,?_⟩;rw[asy,jh (Z1:=[x0,x1,some (.dat (ob L.c)),some (.dat (ob K.c)),some (.dat d.dat),x5,x6]) (Z2:=[x0,x1,some (.dat (ob L.c)),some (.dat (ob K.c)),some (.dat d.dat),x5,x6]) (M2:=M2) (by simp) (by simp[O4,e1,e2,lk1])];rw[e3,e4]at g5;exact g5
theorem afV(ns:List Int)(h:ns.length<=63):∃M,Sv [] [.list (ns.map PyData.int)]=.ok (.bool true) M:=by
 obtain⟨M0,L,hL,fL,h0,a0,_,_⟩:=Vw [];have h0:iD [⟨"Commons",[]⟩] [ob 0]=.ok .none M0:=h0
 have hL:L.c=0:=hL;obtain⟨M1,K,hK,fK,h1,b1,low1,old1⟩:=Vw M0;have hl:=aiK ns 2 42 (by decide);generalize hcl:Rf.cutD ns (some ((2:Nat):Int)) (some ((42:Nat):Int))=cells at hl;have hcl2:Rf.cutD (ns.map PyData.int) (some 2) (some 42)=cells.map PyData.int:=by rw[ajo];exact congrArg _ hcl
 have cell0:jQ [] [lI ns,.int 0]=_:=Dh [] ns 0;obtain⟨ds,z1,z2,z3⟩:=aiS M1 cells (by omega) (if ns.getD 0 0<0 then -(ns.getD 0 0) else ns.getD 0 0);have inM0:∀x∈L.hs,x<M0.length:=λx hx=>by
  obtain⟨i,e⟩:=a0.has x hx;exact(asx.mp e).1
 have B0:Both M1 { L with fr:=[] } K 0 0 agf:=⟨a0.keep λx hx=>old1 x (inM0 x hx),b1,λx h1 h2=>by have:=low1 x h1;have:=inM0 x h2;omega,aoH⟩;obtain⟨M2,L2,K2,n2,s2,c2,y4,e1,e2,B2,e3,e4⟩:=WK (some (.dat (lI ns))) (some (.dat (.int (if ns.getD 0 0<0 then -(ns.getD 0 0) else ns.getD 0 0)))) none none ds M1 { L with fr:=[] } K 0 0 agf none B0 z2 (by omega) (by omega);have e1:L2.c=0:=e1.trans hL;have e2:K2.c=M0.length:=e2.trans hK;have e4:eO (aF 4) O4 (ds.map bf.dat) M1 [_,_,some (.dat (ob L.c)),some (.dat (ob K.c)),none,none,none]=_:=e4;rw[hL,hK]at e4;have cell1:jQ M2 [lI ns,.int 1]=_:=Dh M2 ns 1;have lk2:=Vq B2.b B2.inv (by omega);rw[e2]at lk2;obtain⟨p,hp,t1⟩:=Wd M2 ns;obtain⟨y,cy⟩:=Yp M2 (ns.getD 1 0);obtain⟨sh1,sh2,sh3⟩:=Aj p hp;obtain⟨po1,po2⟩:=QX ns p.2 0;have pl:=Np ns p.2 0;have bad1:=Et B2.a (Pt.s p.1::(partsOf ns 0 p.2++[Pt.n y])) (by simp[pl];omega) (λq hq=>by
  rcases asN.mp hq with rfl|hq
  .exact sh2
  .rcases asR.mp hq with hq|hq
   .exact po2 q hq
   .rw[asF.mp hq]
    trivial) (by simp[nZ,sh1,pl])
 have bad2:=Et B2.a [] (by simp) (λq hq=>nomatch hq) rfl;have bad3:=Et B2.a [Pt.s "owners"] (by simp) (λq hq=>by rw[asF.mp hq];exact(by decide +kernel:PyData.strOk "owners"=true)) (by decide +kernel)
 have bad4:=Et B2.a [Pt.s "die",Pt.n (1000000000+if y<0 then -y else y)] (by simp) (λq hq=>by
  rcases asN.mp hq with rfl|hq
  .exact(by decide +kernel:PyData.strOk "die"=true)
  .rw[asF.mp hq]
   trivial) (by
  have:¬(1000000000+if y<0 then -y else y)<=999999999:=by split<;>omega
  simp[nZ,gA,DN,lZ,List.lookup,this])
 have bad5:=Et B2.a [Pt.n y] (by simp) (λq hq=>by rw[asF.mp hq];trivial) rfl;obtain⟨ps,hf,sp1⟩:=acB M2 ns;have flt:=aes M2 ps hf;generalize hhd:(if ns.getD 0 0<0 then -(ns.getD 0 0) else ns.getD 0 0)=hd at *;generalize ns.getD 0 0=z0 at *;generalize ns.getD 1 0=z1 at *;have hh:(PyData.list (ns.map PyData.int))=lI ns:=rfl;rw[hh];simp only[asy,atA,as8,Pt.dat,e1]at t1 bad1 bad2 bad3 bad4 bad5;have pl2:(partsOf ns 0 p.2).length<=99998:=by omega
 have hk:=B2.b.hc;rw[e2]at hk;have h20:=B2.a.hc;rw[e1]at h20;cases hb:nZ ps with
 |true=>
  rw[hb]at flt;have lk1:=Vq B2.a B2.inv (by omega);rw[e1]at lk1;have ll:=V8 M2 c2;generalize CZ c2=z at *;refine⟨M2,?_⟩;simp[Sv,X6,h0,h1,cell0,hhd,hcl2,z3,e4,cell1,hk,aM,lk2,t1,cy,pl2,bad1,bad2,bad3,bad4,bad5,sp1,flt,h20,lk1,ll,pX]
 |false=>
  rw[hb]at flt;have bad6:=Et B2.a ps hf.1 hf.2 hb;rw[e1]at bad6;obtain⟨M3,J,hJ,fJ,h3,b3,low3,old3⟩:=Vw M2;have bad7:=Et b3 ps hf.1 hf.2 hb;rw[hJ]at bad7;have a3:At M3 { L2 with fr:=[] } c2:=B2.a.keep λx hx=>old3 x (by
   obtain⟨i,e⟩:=B2.a.has x hx;exact(asx.mp e).1)
  have lk1:=Vq a3 B2.inv (by omega);have lk1:oJ M3 [ob L2.c]=_:=lk1;rw[e1]at lk1;have h30:M3[L2.c]?=_:=a3.hc;rw[e1]at h30;have ll:=V8 M3 c2;generalize CZ c2=z at *;refine⟨M3,?_⟩;simp[Sv,X6,h0,h1,cell0,hhd,hcl2,z3,e4,cell1,hk,aM,lk2,t1,cy,pl2,bad1,bad2,bad3,bad4,bad5,sp1,flt,bad6,h3,bad7,h30,lk1,ll,pX]
end Pr
open PySem PySem.W PySem.Calls PyProof.Rows
set_option maxHeartbeats 0 in
theorem PySem.Challenge.cw_earmarks_k45_deeds_done_by_tuples_holds : PySem.Challenge.rw_earmarks_k45_deeds_done_by_tuples.Holds := by
 w_on;o_law
 refine HandSHeadRun.head_any (r:=OpenLaw.row PySem.Challenge.rw_earmarks_k45_deeds_done_by_tuples) (q:=view (OpenLaw.row PySem.Challenge.rw_earmarks_k45_deeds_done_by_tuples).prog [95]) (H:=Pr.hkE) (ob:=Pr.obE) (M:=40000) (loose:=Pr.nm) (d:=HandSHeadRun.topDef (OpenLaw.row PySem.Challenge.rw_earmarks_k45_deeds_done_by_tuples).prog 95) (kwd:=[]) Pr.akE (by kernel_rfl) (λs=>by kernel_rfl) Pr.run (by kernel_rfl) (by kernel_rfl) (by kernel_rfl) (by rfl) (by first | assumption | decide +kernel) (by decide +kernel) ⟨rfl,rfl,rfl,rfl,rfl,by decide +kernel⟩ ?hw ?hc
 case hw=>w_witness2
 case hc=>
  refine L2.walk_ofE (l:=PySem.Challenge.rw_earmarks_k45_deeds_done_by_tuples) (n:=63) (k:=13) (x:="_law_script") (CX:=L2.CX0) rfl (by decide) (by kernel_rfl) ⟨rfl,by decide,by decide⟩ ?F (λ_ _ _ _ z=>z)
  intro w mg fa h Y G hmg0;obtain⟨K,KX,c⟩:=Y;have hmg:mg ("law" : PySem.Str)=some (.ref fa):=by
   have e:(HandSHeadRun.topDef (OpenLaw.row PySem.Challenge.rw_earmarks_k45_deeds_done_by_tuples).prog 95).name=("law" : PySem.Str):=by kernel_rfl
   rw[<-e];exact hmg0
  have T:Pr.Top w K mg:=⟨⟨h,KX,G⟩,c⟩;have e:=hmg.symm.trans (T.glo 105);cases e;obtain⟨fd,F⟩:=T.c.S7 105;have b:=L2.FunD.bindsA (ps:=["_law_script"]) F λ_ _ _ _ _ _ us hl=>match us,hl with|[_],_=>rfl
  exact⟨K,fd,λvs H Q _=>Rf.Jm K (Pr.aj w K) 1 Pr.Sv vs H Q λ_ _ _=>False,KX,λs v=>b s [v] rfl,λH a ns hl _ hS=>(Pr.afV ns hl).elim λ_ z=>Rf.amN rfl hS z,λbase _ _=>Rf.acr (Pr.anh T F)⟩

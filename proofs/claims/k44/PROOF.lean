import PyProof.Rows.All
import Wide.All
import OpenK.AllK
import Wide.FinOn
import HandS.ForMost
import HandS.Evl
import HandS.Walk
import HandS.Zip
import HandS.IsInst
import HandS.Style
import HandS.FStr
import HandS.Strs
import HandS.TupAny
import HandS.Deep
import HandS.Exc
import HandS.TryOnly
import HandS.ExcOwn
import HandS.WordsExc
import KE.GoesMore
import KE.GoesEnum
import KE.DataMinMax
import KE.SortData
import HandS.SortKw
import HandS.TupSets
import HandS.SetBool
import KE.KeyNested
import PyProof.Transfer
import HandS.DictComp
import HandS.Conv
import KE.KDictKeyed
import HandS.ExcField
import HandS.ExcInit
import HandS.TryMany
import HandS.HeadHook4
import HandS.HeadHook3
import HandS.HeadHook2
import HandS.HeadHook1
import HandS.HeadEnd
import HandS.Head2
import HandS.Head1
import HandS.Head0
import KE.KStateDown
import HandS.Flow
import KE.KUnpackStar
import KE.GoesEnumKw
import KE.KTupSum
import PySem.Challenge.RW_earmarks_k44_heirs_come
set_option Elab.async false
set_option linter.all false
set_option maxRecDepth 100000
set_option maxHeartbeats 2000000
def atm:True:=trivial
abbrev atn:=@False.elim
abbrev ato:=@decide_eq_true_eq
abbrev atp:=@of_decide_eq_true
def arN:=@Option.bind_eq_some_iff
def arO:=@PySem.W.Frag
def arP:=@Bool.and_eq_true
def arQ:=@List.getElem?_eq_some_iff
def arR:=@List.getElem?_eq_getElem
def arS:=@List.mem_cons_of_mem
def arT:=@List.map_cons
def arU:=@List.mem_cons_self
def arV:=@List.mem_singleton
def arW:=@List.mem_of_getElem?
def arX:=@List.getElem?_set_ne
def arY:=@List.mem_map
def arZ:=@List.length_map
def ar0:=@List.mem_append
def ar3:=@List.getElem?_append_left
def ar4:=@List.mem_cons
def ar5:=@List.getElem?_map
def ar6:=@List.length_cons
def ar7:=@List.length_filter_le
def ar8:=@List.getElem?_set_self
def ar9:=@Bool.not_eq_true'
def ase:=@Option.some.inj
def asf:=@List.getElem?_append_right
def ash:=@List.mem_filter
def asi:=@Function.comp_def
def asj:=@List.all_eq_true
def asl:=@Nat.le_trans
def asn:=@Nat.le_refl
def aso:=@List.length_set
def asp:=@List.lookup_cons
def asq:=@List.ext_getElem?
def asr:=@List.map_map
def asu:=@List.getElem?_eq_none
def asv:=@Bool.false_eq_true
def asw:=@Nat.ne_of_lt
def asx:=@Option.map_eq_some_iff
def asy:=@List.mem_append_left
def asz:=@List.not_mem_nil
def asB:=@Array.length_toList
def asC:=@List.all_cons
def asF:=@List.length_append
def asH:=@List.getElem_mem
def asI:=@List.filter_cons
def asJ:=@Nat.zero_le
def asK:=@Array.getElem?_toList
def asM:=@List.mem_append_right
def asN:=@List.getElem?_mapIdx
def asO:=@List.nodup_append
def asQ:=@Bool.eq_iff_iff
def asR:=@List.append_nil
def asS:=@List.length_reverse
def asT:=@Nat.succ.inj
def asU:=@List.drop_eq_getElem_cons
def asV:=@List.getElem?_zip_eq_some
def asW:=@List.nodup_cons
def asY:=@List.foldl_cons
def asZ:=@List.getElem?_set
def as3:=@List.any_cons
def as4:=@List.drop_length
def as5:=@List.map_nil
def as6:=@List.zip_cons_cons
def as7:=@Nat.lt_succ_of_lt
def as8:=@List.reverse_cons
def as9:=@List.mem_of_mem_take
def ata:=@List.eraseDups_cons
def atb:=@List.pairwise_mergeSort
def atc:=@List.filter_eq_self
def atd:=@Bool.or_eq_true
def ate:=@List.filter_filter
def atf:=@List.size_toArray
def atg:=@List.nodup_nil
def ath:=@List.any_map
def ati:=@List.length_drop
def atj:=@Nat.add_sub_cancel'
def atk:=@Nat.add_left_cancel
def atl:=@List.drop_zero
namespace Rf
open PySem PySem.Spec PyProof.Rows L2 HandSHeadRun
abbrev Dat:=PyData
abbrev Ft:=List (Str×List Str)
structure Np(fa:List He.Fa)(fn:List He.DefD)(tb:List He.Tab)(ex:arO->Bool)(w:World)(K:arO):Prop where
 t:He.SaysT fa fn tb w K
 more:ex K=true
def acd(as:List Addr)(fa:List He.Fa)(fn:List He.DefD)(tb:List He.Tab)(ex:arO->Bool)(g:Addr->Option Obj):He.AlX:=(He.obsT fa fn tb (He.frG g as),ex (He.frG g as))
def acT(as:List Addr)(fa:List He.Fa)(fn:List He.DefD)(tb:List He.Tab)(ex:arO->Bool):PySem.W.Hook where
 α:=He.AlX
 obs:=λs=>acd as fa fn tb ex s.heap.get?
 val:=λw=>He.valX fn tb w
 says:=λw h=>∃K:arO,K.In h/\Np fa fn tb ex w K
 of:=λw s e=>⟨_,He.frG_in,⟨congrArg (λz:He.AlX=>z.1) e,congrArg (λz:He.AlX=>z.2) e⟩⟩
 keeps:=λ_ _ _ ⟨K,hK,c⟩ k=>⟨K,PySem.W.Frag.In.keeps hK k,c⟩
theorem aiC{as:List Addr}{fa:List He.Fa}{fn:List He.DefD}{tb:List He.Tab}{ex:arO->Bool}{g:Addr->Option Obj}{s:Shared}(h:∀a,g a=s.heap.get? a):acd as fa fn tb ex g=(acT as fa fn tb ex).obs s:=by rw[show g=s.heap.get? from funext h];rfl
def LK(K:arO)(ft:Ft):Bool:=ft.all λp=>(He.Fa.cls p.1).ok K&&p.2.all λf=>(He.Fa.noat p.1 f).ok K
def xmB(K:arO)(xm:List (Str×List (Str×Bool))):Bool:=xm.all λp=>p.2.all λq=>(He.Fa.exm q.1 p.1 q.2).ok K
def akx(K:arO)(C:Addr):Bool:=(match K.lookup C with
 |some ⟨.type t,_,.cls cd,sl⟩=>decide (t="type")&&(match cd.mro,sl.toList with
  |.ref C'::bm,[_,_,_,_,some (.builtin n),_]=>decide (C'=C)&&(decide (n="ValueError.__new__")&&(!cd.hasDel&&(cd.hasDict&&PySem.HandSPX.refsVE bm)))
  |_,_=>false)
 |_=>false)&&(He.eqO (PySem.W.findIn K (.ref C) "__setattr__") (some (some (.builtin "object.__setattr__")))&&(decide (PySem.W.subIn K (.ref C) (.type "BaseException")=some true)&&(decide (PySem.W.typeIn K (.ref C)=some (.type "type"))&&PySem.W.keepIn K (.ref C))))
def Uw(K:arO)(x:Str)(fs:List Str):Bool:=akx K (He.ga K x)&&(He.eqO (PySem.W.findIn K (.ref (He.ga K x)) "__init__") (some (some (.ref (He.ma K (He.ga K x) "__init__"))))&&(decide (PySem.W.typeIn K (.ref (He.ma K (He.ga K x) "__init__"))=some (.type "function"))&&(xfB K (He.ga K x)&&fs.all λf=>He.eqO (PySem.W.findIn K (.ref (He.ga K x)) f) (some none))))
def XS(K:arO)(a:Addr)(xs:List Str):Bool:=match K.lookup a with
 |some ⟨.type c,_,.seq its _,_⟩=>decide (c="tuple")&&(decide (its.size<=sizeLine)&&He.relAll (xs.map V.str) its.toList)
 |_=>false
def ags(K:arO)(x:Str)(kvs:List (Str×List Str)):Bool:=(match K.lookup (He.ga K x) with
 |some ⟨_,_,.dict es _,_⟩=>es.toList.all (λe=>(match e.key with
   |.str y _=>(kvs.map (·.1)).contains y
   |_=>false)&&!e.refKey)
 |_=>false)&&(decide ((kvs.map (·.1)).Nodup)&&kvs.all λq=>match PySem.W.nsIn K (He.ga K x) q.1 with
  |some (some (.ref a))=>XS K a q.2
  |_=>false)
section
open PySem.W PySem.Calls
noncomputable abbrev ajW (r:PySem.W.OpenRow) (M:Nat) (w:World) (os:PySem.OsState):Option PySem.W.SharedT:=endF (stepQ (denQ tabQ) r.prog w) M r.prog w os
def afK(r:PySem.W.OpenRow)(q:Program)(as:List Addr)(ex:arO->Bool)(M:Nat)(loose:List Str)(w:World):Prop:=∀os,(ajW r M w os).map (λs=>(looksF r.prog (boot_heap w.params) s.abs,HandSHeadRun.seenQ q loose (importedModules r.prog.main.body) (λs=>PySem.W.xlAt q [] s&&PySem.W.recOk r.toRowW.records s) s.abs,ex (He.frG (getT s) as)))=some (true,PySem.W.openGood q loose,true)
def afO(r:PySem.W.OpenRow)(as:List Addr)(fa:List He.Fa)(fn:List He.DefD)(tb:List He.Tab)(M:Nat)(w:World):Prop:=∀os,(ajW r M w os).map (λs=>He.obsT fa fn tb (He.frG (getT s) as))=some (He.valT fn tb w)
theorem Wu{r:PySem.W.OpenRow}{q:Program}{as:List Addr}{fa:List He.Fa}{fn:List He.DefD}{i:List He.Tab}{e:arO->Bool}{M:Nat}{b:List Str}{w:World}(a:afK r q as e M b w)(c:afO r as [] fn i M w)(z:afO r as fa [] [] M w):RunEq r q (acT as fa fn i e) (λs=>acd as fa fn i e (getT s)) M b w:=λos=>by
 obtain⟨s,j,f⟩:=Option.map_eq_some_iff.mp (a os);obtain⟨f,g⟩:=Prod.mk.inj f;obtain⟨g,k⟩:=Prod.mk.inj g;have d:=c os;have l:=z os;have h:endF (stepQ (denQ tabQ) r.prog w) M r.prog w os=some s:=j;rw[j,Option.map_some]at d l;have l:=(He.ba (Prod.mk.inj (Prod.mk.inj (Option.some.inj l)).1).1).1
 have o:He.obsT fa fn i (He.frG (getT s) as)=He.valT fn i w:=by
  show ((fa.all (λf=>f.ok _)&&_,_),_)=_
  rw[l];exact Option.some.inj d
 rw[h,Option.map_some];exact congrArg some (Prod.ext f (Prod.ext g (Prod.ext o k)))
end
end Rf
namespace Pr
open PySem PySem.Spec PyProof.Rows L2 Evl Rf
def cQ:Dat:=.int 9
def jg:Dat:=.int 1
def lu:Dat:=.int 3
def gK:Dat:=.int 9
def iU:Dat:=.tuple [.str "lt",.str "lf",.str "lh",.str "rt",.str "rf",.str "rh"]
def jk:Dat:=.tuple [.int 0,.int 0,.int 0,.int 0,.int 0,.int 0]
def oF:Dat:=.int 999999999
def yI:List (Str×List Str):=[("owner",[]),("ground",["number"]),("enrol",["number","number","ear"]),("leave",["number","number"]),("bring",["number","number","ear"]),("bear",["number"]),("cut",["number"]),("tear",["number","place"]),("sell",["number","number"]),("move",["number","number"]),("die",["number"]),("unite",["number","number"]),("part",["number"]),("pass",["number","number"]),("heir",["number","number","number"])]
def jY:Ft:=[("Beast",["story","mother","owner","ground","due","ear","alive"]),("Herd",["beasts"]),("Grounds",["allowances","circles"]),("Rights",["held"]),("Commons",["owner_count","holders","grounds","rights","herd"])]
def uF:List (Str×Bool):=[("NoGround",true),("NoOwner",true),("NoRight",true),("HasRight",true),("NoneFree",true),("BadExtra",true),("BadAllowance",true),("Clash",true),("BadEar",true),("Bare",true),("StillThere",true),("NoBeast",true),("Dead",true),("Unmarked",true),("Deepest",true),("NoPlace",true),("SameOwner",true),("SameGround",true),("Together",true),("Alone",true),("BadDeed",true)]
def Jb:List (Str×Bool):=[("NoGround",false),("NoOwner",true),("NoRight",false),("HasRight",false),("NoneFree",false),("BadExtra",false),("BadAllowance",false),("Clash",false),("BadEar",false),("Bare",false),("StillThere",false),("NoBeast",false),("Dead",false),("Unmarked",false),("Deepest",false),("NoPlace",false),("SameOwner",false),("SameGround",false),("Together",false),("Alone",false),("BadDeed",false)]
def Fo:List (Str×Bool):=[("NoGround",true),("NoOwner",false),("NoRight",false),("HasRight",false),("NoneFree",false),("BadExtra",false),("BadAllowance",false),("Clash",false),("BadEar",false),("Bare",false),("StillThere",false),("NoBeast",false),("Dead",false),("Unmarked",false),("Deepest",false),("NoPlace",false),("SameOwner",false),("SameGround",false),("Together",false),("Alone",false),("BadDeed",false)]
def Fw:List (Str×Bool):=[("NoGround",false),("NoOwner",false),("NoRight",false),("HasRight",false),("NoneFree",false),("BadExtra",true),("BadAllowance",false),("Clash",false),("BadEar",false),("Bare",false),("StillThere",false),("NoBeast",false),("Dead",false),("Unmarked",false),("Deepest",false),("NoPlace",false),("SameOwner",false),("SameGround",false),("Together",false),("Alone",false),("BadDeed",false)]
def JH:List (Str×Bool):=[("NoGround",false),("NoOwner",false),("NoRight",true),("HasRight",false),("NoneFree",false),("BadExtra",false),("BadAllowance",false),("Clash",false),("BadEar",false),("Bare",false),("StillThere",false),("NoBeast",false),("Dead",false),("Unmarked",false),("Deepest",false),("NoPlace",false),("SameOwner",false),("SameGround",false),("Together",false),("Alone",false),("BadDeed",false)]
def FP:List (Str×Bool):=[("NoGround",false),("NoOwner",false),("NoRight",false),("HasRight",false),("NoneFree",true),("BadExtra",false),("BadAllowance",false),("Clash",false),("BadEar",false),("Bare",false),("StillThere",false),("NoBeast",false),("Dead",false),("Unmarked",false),("Deepest",false),("NoPlace",false),("SameOwner",false),("SameGround",false),("Together",false),("Alone",false),("BadDeed",false)]
def xmH:List (Str×List (Str×Bool)):=[("CommonError",uF),("NoOwner",Jb),("NoGround",Fo),("BadExtra",Fw),("NoRight",JH),("NoneFree",FP)]
def dfH:List (Str×Bool):=[("held",true),("holders",false)]
def VN:List (Str×List Str):=[("Clash",["ones","others","ear"])]
def aX(i:Nat):Stmt:=PySem.Challenge.pw_earmarks_k44_heirs_come.main.body.getD i (.Pass ⟨0,0,0,0⟩)
abbrev Gf:Stmt:=inClass (aX 50) 0
abbrev JR:Stmt:=inClass (aX 55) 0
abbrev Oo:Stmt:=inClass (aX 35) 0
abbrev Gq:Stmt:=inClass (aX 66) 0
abbrev JZ:Stmt:=inClass (aX 34) 2
abbrev LQ:Stmt:=inClass (aX 34) 4
abbrev CT:Stmt:=inClass (aX 66) 17
abbrev Bw:Stmt:=inClass (aX 55) 1
abbrev HS:Stmt:=inClass (aX 50) 3
abbrev JV:Stmt:=inClass (aX 50) 2
abbrev GJ:Stmt:=inClass (aX 50) 4
abbrev yF:Stmt:=inClass (aX 50) 5
abbrev Ax:Stmt:=inClass (aX 50) 6
abbrev Af:Stmt:=inClass (aX 66) 19
abbrev HW:Stmt:=inClass (aX 66) 32
abbrev s_row:Stmt:=aX 76
abbrev ZQ:Stmt:=aX 77
abbrev ag0:Stmt:=aX 78
abbrev Oz:Stmt:=aX 79
abbrev VB:Stmt:=aX 80
abbrev yd:Stmt:=inClass (aX 66) 33
abbrev HX:Stmt:=inClass (aX 55) 3
abbrev Ao:Stmt:=inClass (aX 55) 4
abbrev xg:Stmt:=inClass (aX 66) 34
abbrev yE:Stmt:=inClass (aX 66) 1
abbrev Aa:Stmt:=inClass (aX 55) 2
abbrev aeP:Stmt:=aX 47
abbrev abg:Stmt:=aX 44
abbrev O4:Stmt:=aX 52
abbrev aa1:Stmt:=aX 45
abbrev aed:Stmt:=aX 46
abbrev MF:Stmt:=aX 53
abbrev yr:Stmt:=inClass (aX 66) 35
abbrev Yd:Stmt:=aX 57
abbrev Bt:Stmt:=inClass (aX 35) 5
abbrev Gv:Stmt:=inClass (aX 35) 6
abbrev yG:Stmt:=inClass (aX 55) 7
abbrev u9:Stmt:=inClass (aX 66) 22
abbrev zW:Stmt:=inClass (aX 66) 21
abbrev Hv:Stmt:=inClass (aX 50) 7
abbrev Hq:Stmt:=inClass (aX 66) 18
abbrev Ag:Stmt:=inClass (aX 66) 15
abbrev xM:Stmt:=inClass (aX 50) 1
abbrev yh:Stmt:=inClass (aX 66) 2
abbrev VJ:Stmt:=aX 58
abbrev abo:Stmt:=aX 43
abbrev Q6:Stmt:=aX 59
abbrev xO:Stmt:=inClass (aX 66) 36
abbrev aac:Stmt:=aX 28
abbrev RG:Stmt:=aX 65
abbrev Fe:Stmt:=inClass (aX 66) 3
abbrev JT:Stmt:=inClass (aX 55) 5
abbrev El:Stmt:=inClass (aX 66) 4
abbrev Dd:Stmt:=inClass (aX 34) 1
abbrev abT:Stmt:=aX 30
abbrev Mw:Stmt:=inClass (aX 34) 0
abbrev CK:Stmt:=inClass (aX 35) 1
abbrev DW:Stmt:=inClass (aX 66) 5
abbrev Ky:Stmt:=inClass (aX 35) 2
abbrev JQ:Stmt:=inClass (aX 35) 3
abbrev JW:Stmt:=inClass (aX 35) 4
abbrev Hg:Stmt:=inClass (aX 66) 6
abbrev Rv:Stmt:=aX 32
abbrev Wj:Stmt:=aX 31
abbrev Hz:Stmt:=inClass (aX 34) 3
abbrev J5:Stmt:=inClass (aX 66) 7
abbrev Gp:Stmt:=inClass (aX 66) 8
abbrev Kc:Stmt:=inClass (aX 35) 8
abbrev zU:Stmt:=inClass (aX 35) 9
abbrev Gk:Stmt:=inClass (aX 66) 9
abbrev Ht:Stmt:=inClass (aX 66) 10
abbrev Ka:Stmt:=inClass (aX 66) 11
abbrev Rm:Stmt:=aX 60
abbrev Ab:Stmt:=inClass (aX 66) 24
abbrev Br:Stmt:=inClass (aX 50) 10
abbrev DN:Stmt:=inClass (aX 50) 8
abbrev Et:Stmt:=inClass (aX 66) 12
abbrev Gg:Stmt:=inClass (aX 50) 9
abbrev Gu:Stmt:=inClass (aX 66) 13
abbrev Ac:Stmt:=inClass (aX 55) 6
abbrev LR:Stmt:=inClass (aX 35) 7
abbrev Bu:Stmt:=inClass (aX 66) 14
abbrev Ot:Stmt:=aX 40
abbrev ada:Stmt:=aX 39
abbrev La:Stmt:=inClass (aX 66) 16
abbrev aeM:Stmt:=aX 81
abbrev ae5:Stmt:=aX 82
abbrev V4:Stmt:=aX 83
abbrev agE:Stmt:=aX 84
abbrev adL:Stmt:=aX 85
abbrev aei:Stmt:=aX 86
abbrev aeV:Stmt:=aX 75
abbrev abO:Stmt:=aX 87
abbrev agy:Stmt:=aX 88
abbrev agK:Stmt:=aX 89
abbrev aee:Stmt:=aX 68
abbrev V5:Stmt:=aX 69
abbrev W4:Stmt:=aX 70
abbrev abk:Stmt:=aX 71
abbrev agD:Stmt:=aX 72
abbrev abB:Stmt:=aX 92
abbrev Hf:Stmt:=aX 73
abbrev Q5:Stmt:=aX 74
abbrev agF:Stmt:=aX 93
abbrev aeN:Stmt:=aX 94
abbrev aa4:Stmt:=aX 90
abbrev Tt:Stmt:=aX 91
abbrev NK:Stmt:=aX 95
abbrev Mz:Stmt:=inClass (aX 23) 0
abbrev dM(c m q:Str)(s:Stmt):He.DefD:=⟨(c,some m),m,q,defArgs s,defBody s,defScope s,[],[]⟩
abbrev dF(x:Str)(s:Stmt):He.DefD:=⟨(x,none),x,x,defArgs s,defBody s,defScope s,[],[]⟩
def xsH:List Str:=["Grounds","Rights","Herd","Commons","Beast","NoGround","NoOwner","NoRight","HasRight","NoneFree","BadExtra","BadAllowance","Clash","BadEar","Bare","StillThere","NoBeast","Dead","Unmarked","Deepest","NoPlace","SameOwner","SameGround","Together","Alone","BadDeed","CommonError"]
def tbs:List He.Tab:=[(λK=>He.ga K "SHAPES",["owner","ground","enrol","leave","bring","bear","cut","tear","sell","move","die","unite","part","pass","heir"])]
def nm0:List PySem.Str:=["_wall","CommonError","BadEar","Bare","BadAllowance","BadExtra","NoPlace","Deepest","NoOwner","NoGround","NoBeast","NoRight"]
def nm1:List PySem.Str:=["HasRight","StillThere","Dead","Unmarked","SameOwner","SameGround","Together","Alone","NoneFree","BadDeed","Clash","PLACES"]
def nm2:List PySem.Str:=["GREATEST_DEPTH","BARE_EAR","is_ear","begun","gone_on","deepened","Beast","Herd","SHAPES","GREATEST_PART","fits","part_fits"]
def nm3:List PySem.Str:=["deeper","joint","lacks","apart","meet","torn","GREATEST_ALLOWANCE","Grounds","offspring","first_free","Rights","tidied"]
def nm4:List PySem.Str:=["barring","ask_room","clashing","owners_of","FEWEST_EXTRA","MOST_EXTRA","need_ear","Commons","_law_once","_law_rows_of","_law_room_of","_law_tears"]
def nm5:List PySem.Str:=["_law_far","_law_ground_there","_law_marks_of","_law_cell","_law_row","_law_ear_by","_law_ear","_law_begun","_law_word_by","_law_done","_law_near","_law_mark_by"]
def nm6:List PySem.Str:=["_law_ref","_law_deed","_law_play","_law_asked","_law_cut","_law_raw","_law_whole","_law_like","_law_least","_law_due","_law_tell"]
def nm:List PySem.Str:=nm0++nm1++nm2++nm3++nm4++nm5++nm6
def fa0:List He.Fa:=[.mkr "Grounds",.mkr "Rights",.mkr "Herd",.mkr "Commons",.meth "Beast" "stand",.meth "Beast" "told",.meth "Commons" "owners",.meth "Rights" "all_rows",.meth "Grounds" "many",.meth "Grounds" "has",.meth "Grounds" "need",.meth "Grounds" "allowance"]
def fa1:List He.Fa:=[.meth "Grounds" "together",.meth "Commons" "together",.meth "Commons" "look",.glo "_law_row",.glo "_law_ear_by",.glo "_law_ear",.glo "_law_begun",.glo "_law_word_by",.meth "Commons" "need_owner",.meth "Rights" "marks",.meth "Rights" "has_right",.meth "Commons" "need_right"]
def fa2:List He.Fa:=[.meth "Commons" "new_owner",.meth "Rights" "add_right",.glo "torn",.glo "lacks",.glo "offspring",.glo "apart",.glo "meet",.glo "first_free",.meth "Commons" "first_mark",.glo "tidied",.meth "Herd" "all_living",.meth "Herd" "grazing"]
def fa3:List He.Fa:=[.meth "Rights" "in_grounds",.meth "Commons" "standing_but",.meth "Commons" "standing",.meth "Grounds" "room",.meth "Commons" "room",.meth "Commons" "new_heir",.meth "Grounds" "add_ground",.meth "Commons" "new_ground",.glo "barring",.glo "joint",.glo "ask_room",.meth "Commons" "ask_ground"]
def fa4:List He.Fa:=[.glo "is_ear",.glo "need_ear",.meth "Commons" "enrol",.meth "Rights" "drop",.meth "Commons" "leave",.meth "Beast" "stand_so",.glo "begun",.mkr "Beast",.meth "Herd" "add_beast",.meth "Commons" "bring",.meth "Herd" "known",.meth "Herd" "living"]
def fa5:List He.Fa:=[.meth "Herd" "marked",.meth "Commons" "bear",.glo "deepened",.glo "gone_on",.meth "Beast" "befall",.meth "Commons" "cut",.meth "Commons" "tear",.meth "Herd" "calves",.meth "Herd" "lead_calves",.meth "Commons" "sell",.meth "Commons" "move",.meth "Commons" "die"]
def fa6:List He.Fa:=[.glo "clashing",.meth "Commons" "quarrels",.meth "Grounds" "enclose",.meth "Grounds" "unite",.meth "Commons" "unite",.meth "Grounds" "part",.meth "Commons" "part",.meth "Rights" "hand_over",.meth "Herd" "owned",.meth "Commons" "pass_on",.glo "part_fits",.glo "fits"]
def fa7:List He.Fa:=[.meth "Commons" "do",.glo "_law_done",.glo "_law_near",.glo "_law_mark_by",.glo "_law_ref",.glo "_law_deed",.glo "_law_play",.glo "_law_cell",.glo "_law_asked",.glo "_law_cut",.glo "_law_raw",.glo "_law_once"]
def fa8:List He.Fa:=[.glo "_law_rows_of",.glo "_law_room_of",.glo "_law_tears",.glo "_law_far",.glo "_law_least",.glo "_law_ground_there",.glo "_law_marks_of",.glo "_law_due",.glo "_law_tell",.glo "_law_whole",.glo "_law_like",.glo "law"]
def fa9:List He.Fa:=[.glo "Grounds",.glo "Rights",.glo "Herd",.glo "Commons",.glo "Beast",.glo "NoGround",.exc "NoGround",.glo "NoOwner",.exc "NoOwner",.glo "NoRight",.exc "NoRight",.glo "HasRight"]
def an4:List He.Fa:=[.exc "HasRight",.glo "NoneFree",.exc "NoneFree",.glo "BadExtra",.exc "BadExtra",.glo "BadAllowance",.exc "BadAllowance",.glo "Clash",.glo "BadEar",.exc "BadEar",.glo "Bare",.exc "Bare"]
def anl:List He.Fa:=[.glo "StillThere",.exc "StillThere",.glo "NoBeast",.exc "NoBeast",.glo "Dead",.exc "Dead",.glo "Unmarked",.exc "Unmarked",.glo "Deepest",.exc "Deepest",.glo "NoPlace",.exc "NoPlace"]
def anG:List He.Fa:=[.glo "SameOwner",.exc "SameOwner",.glo "SameGround",.exc "SameGround",.glo "Together",.exc "Together",.glo "Alone",.exc "Alone",.glo "BadDeed",.exc "BadDeed",.glo "CommonError",.exc "CommonError"]
def anP:List He.Fa:=[.glo "SHAPES",.int "GREATEST_DEPTH" 9,.int "FEWEST_EXTRA" 1,.int "MOST_EXTRA" 3,.int "GREATEST_ALLOWANCE" 9,.glo "PLACES",.glo "BARE_EAR",.int "GREATEST_PART" 999999999,.free "tuple",.free "list",.free "len",.free "range"]
def anr:List He.Fa:=[.free "abs",.free "max",.free "min",.free "sum",.free "zip",.free "any",.free "sorted",.free "set",.free "enumerate",.free "all",.free "isinstance",.free "int"]
def anT:List He.Fa:=[.free "bool",.free "str"]
def fa:List He.Fa:=fa0++fa1++fa2++fa3++fa4++fa5++fa6++fa7++fa8++fa9++an4++anl++anG++anP++anr++anT
def fn0:List He.DefD:=[dM "Grounds" "__init__" "Grounds.__init__" Gf,dM "Rights" "__init__" "Rights.__init__" JR,dM "Herd" "__init__" "Herd.__init__" Oo,dM "Commons" "__init__" "Commons.__init__" Gq,dM "Beast" "stand" "Beast.stand" JZ,dM "Beast" "told" "Beast.told" LQ,dM "Commons" "owners" "Commons.owners" CT,dM "Rights" "all_rows" "Rights.all_rows" Bw,dM "Grounds" "many" "Grounds.many" HS,dM "Grounds" "has" "Grounds.has" JV,dM "Grounds" "need" "Grounds.need" GJ,dM "Grounds" "allowance" "Grounds.allowance" yF]
def fn1:List He.DefD:=[dM "Grounds" "together" "Grounds.together" Ax,dM "Commons" "together" "Commons.together" Af,dM "Commons" "look" "Commons.look" HW,dF "_law_row" s_row,dF "_law_ear_by" ZQ,dF "_law_ear" ag0,dF "_law_begun" Oz,dF "_law_word_by" VB,dM "Commons" "need_owner" "Commons.need_owner" yd,dM "Rights" "marks" "Rights.marks" HX,dM "Rights" "has_right" "Rights.has_right" Ao,dM "Commons" "need_right" "Commons.need_right" xg]
def fn2:List He.DefD:=[dM "Commons" "new_owner" "Commons.new_owner" yE,dM "Rights" "add_right" "Rights.add_right" Aa,dF "torn" aeP,dF "lacks" abg,dF "offspring" O4,dF "apart" aa1,dF "meet" aed,dF "first_free" MF,dM "Commons" "first_mark" "Commons.first_mark" yr,dF "tidied" Yd,dM "Herd" "all_living" "Herd.all_living" Bt,dM "Herd" "grazing" "Herd.grazing" Gv]
def fn3:List He.DefD:=[dM "Rights" "in_grounds" "Rights.in_grounds" yG,dM "Commons" "standing_but" "Commons.standing_but" u9,dM "Commons" "standing" "Commons.standing" zW,dM "Grounds" "room" "Grounds.room" Hv,dM "Commons" "room" "Commons.room" Hq,dM "Commons" "new_heir" "Commons.new_heir" Ag,dM "Grounds" "add_ground" "Grounds.add_ground" xM,dM "Commons" "new_ground" "Commons.new_ground" yh,dF "barring" VJ,dF "joint" abo,dF "ask_room" Q6,dM "Commons" "ask_ground" "Commons.ask_ground" xO]
def fn4:List He.DefD:=[dF "is_ear" aac,dF "need_ear" RG,dM "Commons" "enrol" "Commons.enrol" Fe,dM "Rights" "drop" "Rights.drop" JT,dM "Commons" "leave" "Commons.leave" El,dM "Beast" "stand_so" "Beast.stand_so" Dd,dF "begun" abT,dM "Beast" "__init__" "Beast.__init__" Mw,dM "Herd" "add_beast" "Herd.add_beast" CK,dM "Commons" "bring" "Commons.bring" DW,dM "Herd" "known" "Herd.known" Ky,dM "Herd" "living" "Herd.living" JQ]
def fn5:List He.DefD:=[dM "Herd" "marked" "Herd.marked" JW,dM "Commons" "bear" "Commons.bear" Hg,dF "deepened" Rv,dF "gone_on" Wj,dM "Beast" "befall" "Beast.befall" Hz,dM "Commons" "cut" "Commons.cut" J5,dM "Commons" "tear" "Commons.tear" Gp,dM "Herd" "calves" "Herd.calves" Kc,dM "Herd" "lead_calves" "Herd.lead_calves" zU,dM "Commons" "sell" "Commons.sell" Gk,dM "Commons" "move" "Commons.move" Ht,dM "Commons" "die" "Commons.die" Ka]
def fn6:List He.DefD:=[dF "clashing" Rm,dM "Commons" "quarrels" "Commons.quarrels" Ab,dM "Grounds" "enclose" "Grounds.enclose" Br,dM "Grounds" "unite" "Grounds.unite" DN,dM "Commons" "unite" "Commons.unite" Et,dM "Grounds" "part" "Grounds.part" Gg,dM "Commons" "part" "Commons.part" Gu,dM "Rights" "hand_over" "Rights.hand_over" Ac,dM "Herd" "owned" "Herd.owned" LR,dM "Commons" "pass_on" "Commons.pass_on" Bu,dF "part_fits" Ot,dF "fits" ada]
def fn7:List He.DefD:=[dM "Commons" "do" "Commons.do" La,dF "_law_done" aeM,dF "_law_near" ae5,dF "_law_mark_by" V4,dF "_law_ref" agE,dF "_law_deed" adL,dF "_law_play" aei,dF "_law_cell" aeV,dF "_law_asked" abO,dF "_law_cut" agy,dF "_law_raw" agK,dF "_law_once" aee]
def fn8:List He.DefD:=[dF "_law_rows_of" V5,dF "_law_room_of" W4,dF "_law_tears" abk,dF "_law_far" agD,dF "_law_least" abB,dF "_law_ground_there" Hf,dF "_law_marks_of" Q5,dF "_law_due" agF,dF "_law_tell" aeN,dF "_law_whole" aa4,dF "_law_like" Tt,dF "law" NK]
def fn9:List He.DefD:=[dM "Clash" "__init__" "Clash.__init__" Mz]
def fn:List He.DefD:=fn0++fn1++fn2++fn3++fn4++fn5++fn6++fn7++fn8++fn9
def exB(K:arO):Bool:=true&&LK K jY&&xmB K xmH&&(VN.all λp=>xsH.contains p.1&&Uw K p.1 p.2)&&ags K "SHAPES" yI&&He.tupB K "PLACES" [.str "lt",.str "lf",.str "lh",.str "rt",.str "rf",.str "rh"]&&He.tupB K "BARE_EAR" [.int 0,.int 0,.int 0,.int 0,.int 0,.int 0]
def ad0:List Addr:=[3,31,44,56,68,80,92,104,116,128,140,152,164,176,188,200,212,224,236,248,260,272,291,294]
def ad1:List Addr:=[295,300,307,314,319,364,447,452,472,479,484,489,494,501,508,513,596,605,610,670,681,686,693,698]
def ad2:List Addr:=[703,710,969,980,985,990,995,1002,1009,1014,1021,1028,1033,1040,1047,1054,1061,1068,1075,1082,1089,1096,1103,1110]
def ad3:List Addr:=[1117,1124,1131,1136,1143,1150,1157,30,43,55,67,79,91,103,115,127,139,151,163,175,187,199,211,223]
def ad4:List Addr:=[235,247,259,271,290,299,306,313,318,363,446,453,454,455,456,457,458,459,460,461,462,463,464,465]
def ad5:List Addr:=[466,467,471,478,483,488,493,500,507,512,595,604,609,669,680,685,692,697,702,709,968,979,984,989]
def ad6:List Addr:=[994,1001,1008,1013,1020,1027,1032,1039,1046,1053,1060,1067,1074,1081,1088,1095,1102,1109,1116,1123,1130,1135,1142,1149]
def ad7:List Addr:=[1156,29,32,42,54,66,78,90,102,114,126,138,150,162,174,186,198,210,222,234,246,258,270,288]
def ad8:List Addr:=[289,333,340,347,354,361,362,365,366,382,389,396,403,410,415,420,425,430,437,444,445,448,449,527]
def ad9:List Addr:=[534,541,548,555,562,569,574,581,586,593,594,597,598,624,631,638,643,650,657,662,667,668,671,672]
def an0:List Addr:=[724,731,738,745,750,757,764,771,778,785,792,799,806,813,818,825,832,839,846,853,860,867,872,879]
def anH:List Addr:=[886,893,900,907,914,919,926,933,938,945,952,959,966,967,970,971,287,332,339,346,353,360,381,388]
def anY:List Addr:=[395,402,409,414,419,424,429,436,443,526,533,540,547,554,561,568,573,580,585,592,623,630,637,642]
def an2:List Addr:=[649,656,661,666,723,730,737,744,749,756,763,770,777,784,791,798,805,812,817,824,831,838,845,852]
def anu:List Addr:=[859,866,871,878,885,892,899,906,913,918,925,932,937,944,951,958,965]
def ad:List Addr:=ad0++ad1++ad2++ad3++ad4++ad5++ad6++ad7++ad8++ad9++an0++anH++anY++an2++anu
abbrev R:PySem.W.OpenRow:=PySem.W.OpenLaw.row PySem.Challenge.rw_earmarks_k44_heirs_come
abbrev hkE:PySem.W.Hook:=acT ad fa fn tbs exB
def obE(s:PySem.W.SharedT):He.AlX:=acd ad fa fn tbs exB (HandSHeadRun.getT s)
theorem ajL(s:PySem.W.SharedT):obE s=hkE.obs s.abs:=aiC (HandSHeadRun.getT_eq s)
abbrev wR(w:World)(b:Bool):World:=w.withFollow "special-get-raises" b
theorem amj(w:World):afK R (PySem.W.view R.prog [95]) ad exB 40000 nm (wR w false):=λos=>by kernel_rfl
theorem amZ(w:World):afO R ad [] fn tbs 40000 (wR w false):=λos=>by kernel_rfl
theorem zzf(w:World):afO R ad fa [] [] 40000 (wR w false):=λos=>by kernel_rfl
theorem runAt(w:World):afK R (PySem.W.view R.prog [95]) ad exB 40000 nm (wR w true):=λos=>by kernel_rfl
theorem amr(w:World):afO R ad [] fn tbs 40000 (wR w true):=λos=>by kernel_rfl
theorem zzt(w:World):afO R ad fa [] [] 40000 (wR w true):=λos=>by kernel_rfl
theorem run(w:World):HandSHeadRun.RunEq R (PySem.W.view R.prog [95]) hkE obE 40000 nm w:=PySem.W.byRow2 "special-get-raises" (P:=λw=>HandSHeadRun.RunEq R (PySem.W.view R.prog [95]) hkE obE 40000 nm w) (λw=>Wu (amj w) (amZ w) (zzf w)) (λw=>Wu (runAt w) (amr w) (zzt w)) w
end Pr
namespace Ear
open PySem PySem.Spec PyProof.Rows L2 Evl RZ
section
variable{X:Cx}{C:Addr}{bmB:List Value}{B newId initId:String}
theorem afD{x:Str}{p pos:Pos}(F:ExcBaseFacts B newId initId bmB)(q:PySem.W.excIn X.K C bmB newId=true)(gC:X.mg x=some (.ref C))(kC:PySem.W.keepIn X.K (.ref C)=true)(r:Raises X (.ref C))(hg:Gl X x)
  (hn:(x==("__debug__" : Str))=false:=by decide):PMk X (.Call (.Name x p) [] [] pos) (λ_ H Q=>Q (.ref C) none H):=by
 intro pins s σ H Q I h;refine wpAny_Call_Name_kw (ld_glob I hg gC ?_ hn);refine PySem.W.callWith_K0 I.kIn kC ?_;show wpAny _ _ (call (.ref C) []) _ _ _;obtain⟨bm,N,nm,qn,bs,hdct,sn,sub,ab,col,dd,k0,k1,k2,k3,k5,mN,hC,hN,hni,T⟩:=exc_obj I.kIn q;refine wpAny_call_exc_subT F T hC hN hni (λh' e hm=>?_) (asJ _);exact mk_of I hm r h (I.hok.gone hm.new)
end
theorem exm_one{K:arO}{S:Addr}(h1:PySem.W.subIn K (.ref S) (.type "BaseException")=some true)(h2:PySem.W.isClsIn K S=true)(h3:PySem.W.typeIn K (.ref S)=some (.type "type"))(h4:PySem.W.subIn K (.ref S) (.ref S)=some true) :
  PySem.W.exmOne K (.ref S) (.ref S)=some true:=by
 have e1:(PySem.W.subIn K (.ref S) (.type "BaseException")==some true)=true:=by rw[h1]<;>rfl
 have e2:((PySem.W.clsIn K S).isSome&&PySem.W.typeIn K (.ref S)==some (.type "type"))=true:=by rw[h3,arP];exact⟨h2,rfl⟩
 show(if (PySem.W.subIn K (.ref S) (.type "BaseException")==some true)=true then(if ((PySem.W.clsIn K S).isSome&&PySem.W.typeIn K (.ref S)==some (.type "type"))=true then PySem.W.subIn K (.ref S) (.ref S) else none) else none)=some true
 rw[if_pos e1,if_pos e2];exact h4
def anS(xs:List Int):Prop:=xs.length=6/\∀x∈xs,0<=x/\x<=9
section
variable{K:arO}{σ:L2.St}{H:Hp}{te tl:TE}{tt:TT}{vs:List Nat}
def EvS(te:TE)(σ:L2.St)(H:Hp)(P:V->Hp->Prop):Prop:=∀H1,Ex H H1->∀Q:VK,(∀v H2,Ex H1 H2->P v H2->Q v H2)->te σ H1 Q
end
section
variable{K:arO}{σ:L2.St}{H H':Hp}{te ta tb:TE}{t:TT}{P R:V->Hp->Prop}{v:V}
theorem EvS.mono(e:Ex H H')(h:EvS te σ H P):EvS te σ H' P:=λH1 a Q q=>h H1 (e.trans a) Q q
theorem EvS.imp(h:EvS te σ H P)(k:∀v H',P v H'->R v H'):EvS te σ H R:=λH1 e Q q=>h H1 e Q λv H2 e2 p=>q v H2 e2 (k v H2 p)
end
end Ear
namespace Ear
open PySem PySem.Spec PyProof.Rows L2 Evl RZ
def fB{α:Type}(R:V->α->Prop)(ws:List V)(L:List α):Prop:=ws.length=L.length/\∀(i:Nat) (v:V) (x:α),ws[i]?=some v->L[i]?=some x->R v x
theorem fB.imp{α:Type}{R S:V->α->Prop}{ws:List V}{L:List α}(h:fB R ws L)(k:∀v x,R v x->S v x):fB S ws L:=⟨h.1,λi v x a b=>k v x (h.2 i v x a b)⟩
theorem fB.nil{α:Type}{R:V->α->Prop}:fB R [] []:=⟨rfl,λi v x a _=>by simp at a⟩
theorem fB.snoc{α:Type}{R:V->α->Prop}{ws:List V}{L:List α}{v:V}{x:α}(h:fB R ws L)(k:R v x):fB R (ws++[v]) (L++[x]):=by
 refine⟨by rw[asF,asF,h.1];rfl,λi u y a b=>?_⟩;by_cases hi:i < ws.length
 ·rw[ar3 hi]at a;rw[ar3 (by rw[←h.1];exact hi)]at b;exact h.2 i u y a b
 ·rw[asf (by omega)]at a;rw[asf (by rw[←h.1];omega),←h.1]at b;have hj:i - ws.length=0:=by
   have:=(arQ.mp a).1;simp only[ar6,List.length_nil]at this;omega
  rw[hj]at a b;cases a;cases b;exact k
def Iu(H:Hp)(v:V)(l:List Int):Prop:=∃h:Addr,v=.ref h/\H h=some (.tup (l.map V.int))
theorem Iu.mono{H H':Hp}(e:Ex H H'){v:V}{l:List Int}(h:Iu H v l):Iu H' v l:=by obtain⟨a,e1,h1⟩:=h;exact⟨a,e1,e _ _ h1⟩
theorem Iu.upd{H:Hp}{D:Addr}{acc:List V}{o:HO}(hD:H D=some (.lst acc)){v:V}{l:List Int}(h:Iu H v l):Iu (upd H D o) v l:=by obtain⟨a,e1,h1⟩:=h;refine⟨a,e1,?_⟩;rw[upd_ne (λz=>by rw[z,hD]at h1;cases h1)];exact h1
abbrev Rw:Type:=Int×List Int
def Nq(H:Hp)(v:V)(r:Rw):Prop:=∃t m:Addr,v=.ref t/\H t=some (.tup [.int r.1,.ref m])/\H m=some (.tup (r.2.map V.int))
theorem Nq.mono{H H':Hp}(e:Ex H H'){v:V}{r:Rw}(h:Nq H v r):Nq H' v r:=by obtain⟨t,m,e1,h1,h2⟩:=h;exact⟨t,m,e1,e _ _ h1,e _ _ h2⟩
theorem Nq.upd{H:Hp}{D:Addr}{acc:List V}{o:HO}(hD:H D=some (.lst acc)){v:V}{r:Rw}(h:Nq H v r):Nq (upd H D o) v r:=by
 obtain⟨t,m,e1,h1,h2⟩:=h;refine⟨t,m,e1,?_,?_⟩
 ·rw[upd_ne (λz=>by rw[z,hD]at h1;cases h1)];exact h1
 ·rw[upd_ne (λz=>by rw[z,hD]at h2;cases h2)];exact h2
def amJ(r:Rw):Prop:=1<=r.1/\anS r.2
structure Tab(R:List Rw):Prop where
 len:R.length<=128
 ok:∀r∈R,amJ r
 few:∃D:List Rw,D.length<=64/\∀r∈R,r∈D
theorem Tab.sub{R S:List Rw}(h:Tab R)(hs:∀r∈S,r∈R)(hl:S.length<=128):Tab S:=by obtain⟨D,d1,d2⟩:=h.few;exact⟨hl,λr hr=>h.ok r (hs r hr),D,d1,λr hr=>d2 r (hs r hr)⟩
theorem fB.get{α:Type}{R:V->α->Prop}{ws:List V}{L:List α}(h:fB R ws L){i:Nat}{v:V}(g:ws[i]?=some v):∃x,L[i]?=some x/\R v x:=by
 have hi:=(arQ.mp g).1;have hi':i < L.length:=by rw[←h.1];exact hi
 exact⟨L[i],arR hi',h.2 i v _ g (arR hi')⟩
theorem fB.mem{α:Type}{R:V->α->Prop}{ws:List V}{L:List α}(h:fB R ws L){v:V}(m:v∈ws):∃x,x∈L/\R v x:=by obtain⟨i,hi,e⟩:=List.getElem_of_mem m;obtain⟨x,g,r⟩:=h.get (arQ.mpr ⟨hi,e⟩);exact⟨x,arW g,r⟩
theorem fB.take{α:Type}{R:V->α->Prop}{ws:List V}{L:List α}(h:fB R ws L)(n:Nat):fB R (ws.take n) (L.take n):=by
 refine⟨by rw[List.length_take,List.length_take,h.1],λi v x a b=>?_⟩;rw[List.getElem?_take]at a b;by_cases c:i < n
 ·rw[if_pos c]at a b;exact h.2 i v x a b
 ·rw[if_neg c]at a;cases a
theorem fB.drop{α:Type}{R:V->α->Prop}{ws:List V}{L:List α}(h:fB R ws L)(n:Nat):fB R (ws.drop n) (L.drop n):=by refine⟨by rw[ati,ati,h.1],λi v x a b=>?_⟩;rw[List.getElem?_drop]at a b;exact h.2 _ v x a b
theorem minD_mem:∀(xs:List PyData) (x:PyData),PySem.W.minD x xs∈x::xs
 |[],x=>arV.mpr rfl
 |y::ys,x=>by
  show PySem.W.minD (if PySem.W.dataLt y x then y else x) ys∈x::y::ys;have ih:=minD_mem ys (if PySem.W.dataLt y x then y else x);rcases ar4.mp ih with e|m
  ·rw[e];split
   ·exact arS _ arU
   ·exact arU
  ·exact arS _ (arS _ m)
@[irreducible]def yJ (K:arO):List V->List V->Hp->VK->Prop:=λvs zs H Q=>∃(a:Addr) (xs:List V) (ds:List PyData) (d:V),vs=[V.ref a]/\zs=[d]/\SqL K H a xs/\DpAll K H xs ds/\PySem.W.AlikeAll ds/\PyData.depthAll ds<=60/\
 (ds=[]->Q d H)/\∀(y:PyData) (ys:List PyData) (i:Nat) (x:V),ds=y::ys->xs[i]?=some x->ds[i]?=some (PySem.W.minD y ys)->Q x H
section
variable{X:Cx}
theorem aeb(hu:X.A.units+65 < cLine)(hc:X.calm=true):CallRK X (.builtin "min") [Str.ofString "default"] (yJ X.K):=by
 intro pins s σ H vs zs us ws Q I r1 r2 h;unfold yJ at h;obtain⟨a,xs,ds,d,rfl,rfl,hs,hd,ha,hz,q0,q⟩:=h;obtain⟨u,rfl,ru⟩:=vals1 r1;obtain⟨wd,rfl,rd⟩:=vals1 r2
 obtain rfl:u=Value.ref a:=ru
 obtain⟨its,rv,hl,_⟩:=I.list hs;obtain⟨as,hr⟩:=Dp.readsAll I ds xs its hd rv;refine PySem.W.min_list_default (I.ok.hd hc) hl.isList hr ha (by omega) (λe h' tk k=>?_) (λy ys i v h' tk bs e hv rm k=>?_)
 ·exact⟨d,H,I.kept (t':=tk) k,rd,q0 e⟩
 ·have hv':its[i]?=some v:=by simpa using hv
  have hi:i < its.length:=(arQ.mp hv').1;have hx:i < xs.length:=by rw[rv.length];exact hi
  obtain⟨v',gv,rx⟩:=rv.get (arR hx)
  obtain rfl:v'=v:=ase (gv.symm.trans hv')
  have hn:=SeqAt.ReadsAll.length ds its as hr;have hdi:i < ds.length:=by omega
  obtain⟨bs2,r,_⟩:=PySem.W.readsAll_atA (vs:=its.toArray) hr i v' (by simpa using hv');have eg:ds.getD i .none=ds[i]:=by rw[List.getD_eq_getElem?_getD,arR hdi];rfl
  rw[eg]at r;have m1:ds[i]∈ds:=asH hdi;have m2:PySem.W.minD y ys∈ds:=by rw[e];exact minD_mem ys y
  have eq:=PySem.W.alike_unique _ _ _ _ _ (ha.1 _ m1 _ m2) (PySem.W.reads_keeps k r) rm;exact⟨xs[i],H,I.kept (t':=tk) k,rx,q y ys i _ e (arR hx) (by rw[arR hdi,eq])⟩
def af8(xs:List V)(ds:List PyData)(x:V)(d:PyData):Prop:=∃i:Nat,xs[i]?=some x/\ds[i]?=some d
@[irreducible]def Ij (K:arO):List V->Hp->VK->Prop:=λvs H Q=>∃(a:Addr) (xs:List V) (ds:List PyData),vs=[V.ref a]/\SqL K H a xs/\DpAll K H xs ds/\PySem.W.AllAlike ds/\PySem.W.Sortable ds/\(∀d∈ds,d.depth<=60)/\
 ∀(ys:List V) (p:Addr),fB (af8 xs ds) ys (ds.mergeSort (PySem.W.dataLe false id))->H p=none->Q (.ref p) (upd H p (.lst ys))
theorem YD:∀(xs:List V) (ds:List PyData) (its:List Value) (P:Value->PyData->Prop),Vals xs its->PySem.W.EachIs P its ds->
  PySem.W.EachIs (λv d=>∃(i:Nat) (x:V),RelV x v/\xs[i]?=some x/\ds[i]?=some d) its ds
 |[],_,_,_,.nil,.nil=>.nil
 |_::_,[],_,_,.cons _ _,k=>nomatch k
 |x::xs,d::ds,u::us,P,.cons r t,.cons _ k=>.cons ⟨0,x,r,rfl,rfl⟩ ((YD xs ds us P t k).mono λv d ⟨i,y,a,b,c⟩=>⟨i+1,y,a,b,c⟩)
theorem W3{xs:List V}{ds:List PyData}:∀(out:List Value) (L:List PyData),PySem.W.EachIs (λv d=>∃(i:Nat) (x:V),RelV x v/\xs[i]?=some x/\ds[i]?=some d) out L->∃ys,Vals ys out/\fB (af8 xs ds) ys L
 |[],[],.nil=>⟨[],.nil,fB.nil⟩
 |v::out,d::L,.cons ⟨i,x,r,a,b⟩ k=>by
  obtain⟨ys,h1,h2⟩:=W3 out L k;refine⟨x::ys,.cons r h1,by rw[ar6,ar6,h2.1],λj u y g1 g2=>?_⟩;cases j with
  |zero=>
   cases g1;cases g2;exact⟨i,a,b⟩
  |succ j=>exact h2.2 j u y g1 g2
theorem acn(hu:X.A.units+65 < cLine):CallR X (.builtin "sorted") (Ij X.K):=by
 intro pins s σ H vs us Q I r h;unfold Ij at h;obtain⟨a,xs,ds,rfl,hs,hd,hal,hk,hz,q⟩:=h;obtain⟨u,rfl,ru⟩:=vals1 r
 obtain rfl:u=Value.ref a:=ru
 obtain⟨its,rv,hl,hsz⟩:=I.list hs;obtain⟨as,hr⟩:=Dp.readsAll I ds xs its hd rv;have er:PySem.W.EachIs (λv d=>∃as,Reads s.heap v (id d) as) its ds:=PySem.W.readsAll_each id (by rw[List.map_id];exact hr);have hn:=SeqAt.ReadsAll.length ds its as hr;have hl2:=rv.length;refine PySem.W.sorted_data (enc:=id) hl.isList (YD xs ds its _ rv er) er (by rw[List.map_id];exact hal) (by rw[List.map_id];exact hk) (by omega) (λd m=>?_) λout hlen hout=>?_
 ·have:=hz d m;show X.A.units+2+d.depth < cLine;omega
 ·obtain⟨ys,v1,v2⟩:=W3 out _ hout;obtain⟨ep,he'⟩:=PyProof.Rows.sortedAll_at s.heap its out.toArray;have hy:ys.length=ds.length:=by
   rw[v2.1,List.length_mergeSort]
  refine⟨.ref _,upd H (s.heap.objs.size+1) (.lst ys),I.laid (t':=s.toks) (λ_ _=>PyProof.Rows.sortedAll_old) (Nat.le_succ _) ⟨by omega,out,ep,v1,by simpa using he'⟩,rfl,q ys _ v2 (I.hok.fresh (Nat.le_succ _))⟩
end
@[irreducible]def Rb (K:arO):R2:=λx y H Q=>∃d e:PyData,Dp K H x d/\Dp K H y e/\PySem.W.alike d e=true/\d≠.none/\d.depth<=60/\Q (.bl (PySem.W.dataLt d e)) H
theorem afr{X:Cx}(hu:X.A.units+65 < cLine):OpR X (compareOp .Lt) (Rb X.K):=by intro pins s σ H x y v u Q I rx ry h;unfold Rb at h;obtain⟨d,e,hd,he,ha,hn,hz,q⟩:=h;obtain⟨as,r1⟩:=Dp.reads I d x v hd rx;obtain⟨bs,r2⟩:=Dp.reads I e y u he ry;exact PySem.W.lt_data r1 r2 ha hn (by omega) ⟨.bl _,H,I,rfl,q⟩
def EvR(te:TE)(σ:L2.St)(H:Hp)(P:List V->Hp->Prop):Prop:=∀H1,Ex H H1->∀Q:VK,(∀p H2 us,Ex H1 H2->H2 p=some (.lst us)->P us H2->Q (.ref p) H2)->te σ H1 Q
def EvM(te:TE)(σ:L2.St)(H:Hp)(P:List V->Hp->Prop):Prop:=∀H1,Ex H H1->∀Q:VK,(∀p H2 us,H1 p=none->Ex H1 H2->H2 p=some (.lst us)->P us H2->Q (.ref p) H2)->te σ H1 Q
structure akF{α:Type}(Rel:Hp->V->α->Prop):Prop where
 mono:∀{H H':Hp} {v:V} {x:α},Ex H H'->Rel H v x->Rel H' v x
 upd:∀{H:Hp} {D:Addr} {acc:List V} {o:HO} {v:V} {x:α},H D=some (.lst acc)->Rel H v x->Rel (upd H D o) v x
theorem fB.mono{α:Type}{Rel:Hp->V->α->Prop}(S:akF Rel){H H':Hp}(e:Ex H H'){ws:List V}{L:List α}(h:fB (Rel H) ws L):fB (Rel H') ws L:=h.imp λ_ _ r=>S.mono e r
theorem fB.upd{α:Type}{Rel:Hp->V->α->Prop}(S:akF Rel){H:Hp}{D:Addr}{acc:List V}{o:HO}(hD:H D=some (.lst acc)){ws:List V}{L:List α}(h:fB (Rel H) ws L):fB (Rel (upd H D o)) ws L:=h.imp λ_ _ r=>S.upd hD r
section
variable{K:arO}{σ:L2.St}{H:Hp}{te tl:TE}{tt:TT}{vs:List Nat}{α:Type}
theorem EvM.r{P:List V->Hp->Prop}(h:EvM te σ H P):EvR te σ H P:=λH1 e Q q=>h H1 e Q λp H2 us _ a b c=>q p H2 us a b c
theorem EvM.imp{P R:List V->Hp->Prop}(h:EvM te σ H P)(k:∀us H',P us H'->R us H'):EvM te σ H R:=λH1 e Q q=>h H1 e Q λp H2 us n a b c=>q p H2 us n a b (k us H2 c)
end
theorem Z5:∀a b:List Int,PyData.eqvAll (a.map PyData.int) (b.map PyData.int)=decide (a=b)
 |[],[]=>by rw[as5,PyData.eqvAll];rfl
 |[],y::ys=>by rw[as5,arT,PyData.eqvAll];rfl
 |x::xs,[]=>by rw[as5,arT,PyData.eqvAll];rfl
 |x::xs,y::ys=>by
  rw[arT,arT,PyData.eqvAll,Z5 xs ys,PyData.eqv,asQ];simp
def dT(l:List Int):PyData:=.tuple (l.map PyData.int)
theorem lay_ints:∀l:List Int,PyData.canLayAll0 (l.map PyData.int)=true/\PyData.depthAll (l.map PyData.int)=0
 |[]=>⟨by rw[as5,PyData.canLayAll0],by rw[as5,PyData.depthAll]⟩
 |x::xs=>by
  have ih:=lay_ints xs;refine⟨?_,?_⟩
  ·rw[arT,PyData.canLayAll0,PyData.canLay0,ih.1];rfl
  ·rw[arT,PyData.depthAll,PyData.depth,ih.2];rfl
theorem HF{K:arO}{H:Hp}:∀l:List Int,DpAll K H (l.map V.int) (l.map PyData.int)
 |[]=>.nil
 |x::xs=>.cons (.int x) (HF xs)
def rD(r:Rw):PyData:=.tuple [.int r.1,dT r.2]
theorem ac7(r:Rw):(rD r).canLay0=true/\(rD r).depth=2:=by
 have h:=lay_ints r.2;unfold rD dT;refine⟨?_,?_⟩
 ·rw[PyData.canLay0,PyData.canLayAll0,PyData.canLayAll0,PyData.canLayAll0,PyData.canLay0,PyData.canLay0,h.1];rfl
 ·rw[PyData.depth,PyData.depthAll,PyData.depthAll,PyData.depthAll,PyData.depth,PyData.depth,h.2];rfl
def rk(r:Rw):List Int:=r.1::r.2
theorem aen:PySem.W.rowLt [] []=false:=PyProof.Rows.lex_irrefl _
theorem ah6(l m:List Int):PySem.W.rowLt [dT l] [dT m]=decide (l < m):=by
 have al:PySem.W.alike (dT l) (dT m)=true:=by unfold dT;rw[PySem.W.alike];exact PySem.W.alike_ints l m
 have ev:PyData.eqv (dT l) (dT m)=decide (l=m):=by unfold dT;rw[PyData.eqv,Z5]
 have h:PySem.W.rowLt [dT l] [dT m]=if PyData.eqv (dT l) (dT m)=true then PySem.W.rowLt [] [] else PySem.W.dataLt (dT l) (dT m):=PySem.W.dataLt_cons al [] []
 rw[h,ev,aen];by_cases c:l=m
 ·rw[if_pos (decide_eq_true c),c];exact(decide_eq_false (List.lt_irrefl _)).symm
 ·rw[if_neg (by rw[ato];exact c)];show PySem.W.dataLt (.tuple (l.map PyData.int)) (.tuple (m.map PyData.int))=_;rw[PySem.W.dataLt_tuple];exact PySem.W.dataLt_ints l m
theorem aaJ(x y:Int)(ds es:List PyData)(l m:List Int)(h:PySem.W.rowLt ds es=decide (l < m)):PySem.W.rowLt (.int x::ds) (.int y::es)=decide (x::l < y::m):=by
 have al:PySem.W.alike (.int x) (.int y)=true:=by rw[PySem.W.alike]
 have h2:PySem.W.rowLt (.int x::ds) (.int y::es)=if PyData.eqv (.int x) (.int y)=true then PySem.W.rowLt ds es else PySem.W.dataLt (.int x) (.int y):=PySem.W.dataLt_cons al ds es
 rw[h2,h,PySem.W.dataLt_int,PyData.eqv];by_cases c:x=y
 ·subst c;rw[if_pos (by simp),asQ,ato,ato,List.cons_lt_cons_iff];constructor
  ·exact λk=>Or.inr ⟨rfl,k⟩
  ·rintro(k|k)
   ·omega
   ·exact k.2
 ·rw[if_neg (by simpa using c),asQ,ato,ato,List.cons_lt_cons_iff];constructor
  ·exact Or.inl
  ·rintro(k|k)
   ·exact k
   ·exact absurd k.1 c
theorem akd(a b:Rw):PySem.W.dataLt (rD a) (rD b)=decide (rk a < rk b):=by unfold rD;rw[PySem.W.dataLt_tuple];exact aaJ _ _ _ _ _ _ (ah6 a.2 b.2)
theorem VF(a b:Rw):PySem.W.alike (rD a) (rD b)=true:=by unfold rD dT;rw[PySem.W.alike,PySem.W.alikeAll,PySem.W.alikeAll,PySem.W.alike,PySem.W.alike,PySem.W.alike_ints,PySem.W.alikeAll];rfl
theorem fB.map{α β:Type}{P:V->β->Prop}(f:α->β){ws:List V}{L:List α}(h:fB (λv x=>P v (f x)) ws L):fB P ws (L.map f):=by refine⟨by rw[arZ,h.1],λi v x a b=>?_⟩;rw[ar5]at b;obtain⟨y,hy,e⟩:=asx.mp b;rw[←e];exact h.2 i v y a hy
theorem Zk{a b:Rw}(h:rk a=rk b):a=b:=by unfold rk at h;injection h with h1 h2;exact Prod.ext h1 h2
def Hl(S:List Rw):Prop:=S.Pairwise λa b=>rk a < rk b
theorem aeQ:∀{S T:List Rw},Hl S->Hl T->(∀r,r∈S↔r∈T)->S=T
 |[],[],_,_,_=>rfl
 |[],t::T,_,_,h=>absurd ((h t).mpr arU) (by simp)
 |s::S,[],_,_,h=>absurd ((h s).mp arU) (by simp)
 |s::S,t::T,hs,ht,h=>by
  obtain⟨hs1,hs2⟩:=List.pairwise_cons.mp hs;obtain⟨ht1,ht2⟩:=List.pairwise_cons.mp ht;have e:s=t:=by
   rcases ar4.mp ((h s).mp arU) with e|m
   ·exact e
   ·rcases ar4.mp ((h t).mpr arU) with e2|m2
    ·exact e2.symm
    ·exact absurd (ht1 s m) (List.lt_asymm (hs1 t m2))
  subst e;have hn:∀{L:List Rw},(∀r∈L,rk s < rk r)->s∉L:=λhL m=>List.lt_irrefl _ (hL s m);rw[aeQ hs2 ht2 λr=>?_];constructor
  ·intro m;rcases ar4.mp ((h r).mp (arS _ m)) with e|m2
   ·rw[e]at m;exact absurd m (hn hs1)
   ·exact m2
  ·intro m;rcases ar4.mp ((h r).mpr (arS _ m)) with e|m2
   ·rw[e]at m;exact absurd m (hn ht1)
   ·exact m2
theorem K7(a b:Rw):PySem.W.dataLe false rD a b=decide (rk a<=rk b):=by
 show(!PySem.W.dataLt (rD b) (rD a))=_
 rw[akd,asQ,ar9,decide_eq_false_iff_not,ato];exact List.not_lt
theorem aeI{α β:Type}{R:α->β->Prop}{as cs:List α}(p:as.Perm cs):∀{bs:List β},PySem.W.EachIs R as bs->∃ds,ds.Perm bs/\PySem.W.EachIs R cs ds:=by
 induction p with
 |nil=>
  intro bs h;cases h;exact⟨[],List.Perm.refl _,.nil⟩
 |cons x _ ih=>
  intro bs h;cases h with
  |cons r t=>
   obtain⟨ds,h1,h2⟩:=ih t;exact⟨_::ds,h1.cons _,.cons r h2⟩
 |swap x y l=>
  intro bs h;cases h with
  |cons r t=>
   cases t with
   |cons r2 t2=>exact⟨_,List.Perm.swap _ _ _,.cons r2 (.cons r t2)⟩
 |trans _ _ ih1 ih2=>
  intro bs h;obtain⟨ds,a1,a2⟩:=ih1 h;obtain⟨es,b1,b2⟩:=ih2 a2;exact⟨es,b1.trans a1,b2⟩
section
variable{P:Program}{w:World}{A:Around}{E:Value->Shared->Prop}{s:Shared}
theorem aaX{β:Type}{a:Addr}{es:Array (Int×Value)}{ep:Nat}{t:SetTable}{enc:β->PyData}{bs:List β}{R:Value->β->Prop}{Q:Value->Shared->Prop}(hh:A.handled=none)(ha:SetAt s.heap a es ep t)(hf:t.fits es.size=true)(hsz:es.size < scanBound)(hr:Ris t.place.toList)
  (hl:w.params.followText "set-order"=true∨t.led=true) (e:PySem.W.EachIs (λv b=>R v b/\∃as,Reads s.heap v (enc b) as) (es.toList.map (·.2)) bs) (hal:PySem.W.AllAlike (bs.map enc)) (hk:PySem.W.Sortable (bs.map enc)) (hu:∀b∈bs,A.units+2+(enc b).depth < cLine)
  (hQ:∀(s':Shared) (p:Addr) (out:List Value) (c:Nat) (cs:List β),(∀b o,s.heap.get? b=some o->s'.heap.get? b=some o)->s'.gens=s.gens->s'.os=s.os->s.heap.objs.size<=p->s'.heap.get? p=some (seqObj "list" out.toArray c)->
   cs.Perm bs->PySem.W.EachIs R out (cs.mergeSort (PySem.W.dataLe false enc))->Q (.ref p) s') :
  wpAny (model P w) A (call (.builtin "sorted") [.ref a]) Q E s:=by
 refine Calls.call_function_entry kind_sorted plain_sorted entry_sorted (args_sorted1 _) ?_;unfold Builtin.«sorted»;refine wpAny_bind (m:=checkCount "sorted" 1 1 _) (wpAny_pure ?_)
 refine wpAny_bind (collect_set (A:=A.in1) hh ha hf hsz hr hl λt1 vals kept grown g1 o1 pm=>?_);obtain⟨cs,pc,ec⟩:=aeI pm.symm e;have lc:vals.length=cs.length:=ec.length;have lb:cs.length=bs.length:=pc.length_eq;have lz:vals.length<=sizeLine:=by rw[pm.length_eq,arZ,asB,sizeLine_eq];unfold scanBound at hsz;omega
 refine wpAny_bind (wpAny_newList ?_ lz);have here:(t1.heap.push (seqObj "list" vals.toArray 0)).get? t1.heap.objs.size=some (seqObj "list" vals.toArray 0):=Heap.get?_push_size _ rfl
 have stays:∀b o,s.heap.get? b=some o->(t1.heap.push (seqObj "list" vals.toArray 0)).get? b=some o:=λb o q=>Heap.get?_push_of_some _ (kept b o q)
 have al:PySem.W.AllAlike (cs.map enc):=λd hd d' hd'=>hal d ((pc.map enc).mem_iff.mp hd) d' ((pc.map enc).mem_iff.mp hd');have sk:PySem.W.Sortable (cs.map enc):=by
  rcases hk with k|k
  ·exact .inl λd hd=>k d ((pc.map enc).mem_iff.mp hd)
  ·exact .inr λd hd=>k d ((pc.map enc).mem_iff.mp hd)
 refine wpAny_bind (wpAny_holding (PySem.W.list_sort_data (s:={ t1 with heap:=t1.heap.push (seqObj "list" vals.toArray 0) }) (enc:=enc) here (ec.mono λv b h=>h.1) (ec.mono λv b ⟨_,as,r⟩=>⟨as,PySem.W.reads_keeps stays r,λm=>?rd⟩) al sk (by omega) (λb hb=>?un) λout lo eo=>?fin))
 case rd=>
  obtain⟨o,q⟩:=PyProof.On.reads_mem_get r _ m;have hlt:t1.heap.objs.size < s.heap.objs.size:=Heap.lt_size q;exact absurd grown (Nat.not_le_of_lt hlt)
 case fin=>
  obtain⟨c,hc⟩:=sortedHeap_at (vs:=vals) (out:=out.toArray) here;refine wpAny_pure ⟨_,rfl,hQ _ t1.heap.objs.size out c cs (λb o q=>?_) g1 o1 grown hc pc eo⟩;have hlt:=Heap.lt_size (kept b o q)
  show(sortedHeap (t1.heap.push (seqObj "list" vals.toArray 0)) t1.heap.objs.size vals out.toArray).get? b=some o
  rw[sortedHeap_old (asw hlt) (by rw[size_push'];exact as7 hlt)];exact stays b o q
 case un=>
  have:=hu b (pc.mem_iff.mp hb);show A.in1.units+1+_ < _;have e1:A.in1.units=A.units+1:=rfl;omega
end
section
variable{P:Program}{w:World}{A:Around}{E:Value->Shared->Prop}{s:Shared}
def nk(r:Rw):NestedKey:=.tup [.num r.1,.tup (r.2.map .num)]
theorem YF:∀a b:List Int,a.map NestedKey.num=b.map NestedKey.num->a=b
 |[],[],_=>rfl
 |[],_::_,h=>by cases h
 |_::_,[],h=>by cases h
 |x::a,y::b,h=>by
  rw[arT,arT]at h;injection h with h1 h2;injection h1 with h1;rw[h1,YF a b h2]
theorem adT{a b:Rw}(h:nk a=nk b):a=b:=by unfold nk at h;injection h with h;injection h with h1 h;injection h with h2 _;injection h1 with h1;injection h2 with h2;exact Prod.ext h1 (YF _ _ h2)
theorem Tp:∀l:List Int,NestedKey.depthAll (l.map .num)=0
 |[]=>by rw[as5,NestedKey.depthAll]
 |x::l=>by
  rw[arT,NestedKey.depthAll,NestedKey.depth,Tp l];rfl
theorem agu(r:Rw):(nk r).depth=2:=by unfold nk;rw[NestedKey.depth,NestedKey.depthAll,NestedKey.depthAll,NestedKey.depthAll,NestedKey.depth,NestedKey.depth,Tp];rfl
def nZ(P:Program)(w:World):HeapKind P w Rw where
 is:=λh r a=>(nestedKind P w).is h (nk r) a
 hash:=λr=>(nestedKind P w).hash (nk r)
 draws:=λr=>(nestedKind P w).draws (nk r)
 room:=(nestedKind P w).room
 inj:=λhx hy=>adT ((nestedKind P w).inj hx hy)
 keeps:=λx ho hd hs=>(nestedKind P w).keeps x ho hd hs
 pyHash:=λhu hk h=>(nestedKind P w).pyHash hu hk h
 eqBool:=λ{A E s x y a b Q} hu hx hy h=>(nestedKind P w).eqBool hu hx hy (by
  have e:decide (nk x=nk y)=decide (x=y):=by rw[decide_eq_decide];exact⟨adT,λh=>by rw[h]⟩
  rw[e];exact h)
 quiet:=λhk h=>(nestedKind P w).quiet hk h
abbrev RI(h:Heap)(r:Rw)(a:Addr):Prop:=NestedIs h (nk r) (.ref a)/\(nk r).depth<=8
theorem TJ{h h':Heap}{r:Rw}{a:Addr}(x:RI h r a)(k:∀c o,h.get? c=some o->h'.get? c=some o):RI h' r a:=⟨NestedIs.at (λb o _ _ e _=>k b o e) _ _ x.1,x.2⟩
theorem Z9{h h':Heap}{r:Rw}{a d:Addr}{o:Obj}{es:Array (Int×Value)}{ep:Nat}{t:SetTable}(x:RI h r a)(ho:h.get? d=some o)(hd:o.data=.set es ep t)(sb:Heap.SameBut d h h'):RI h' r a:=by
 refine⟨NestedIs.at (λb ob vs n hb hc=>(sb.2 b λe=>?_).trans hb) _ _ x.1,x.2⟩;subst e
 obtain rfl:ob=o:=ase (hb.symm.trans ho)
 rw[hd]at hc;cases hc
theorem Iv{h:Heap}{i:Int}{v:Value}(x:NestedIs h (.num i) v)(n:Nat):ofAClassStatement n v=pure false/\hashByValue n v=pure true:=by
 cases x with
 |bool _=>cases n<;>exact⟨rfl,rfl⟩
 |int _ t=>cases n<;>exact⟨rfl,rfl⟩
theorem Zz{h:Heap}:∀(l:List Int) (vs:List Value),NestedAll h (l.map .num) vs->∀v∈vs,∃i,NestedIs h (.num i) v
 |[],_,x,v,hv=>by
  cases x;cases hv
 |i::l,_,x,v,hv=>by
  rw[arT]at x;cases x with
  |cons x1 x2=>
   rcases ar4.mp hv with e|hv
   ·exact⟨i,by rw[e];exact x1⟩
   ·exact Zz l _ x2 v hv
theorem abb{n:Nat}{a:Addr}{o:Obj}{vs:Array Value}{m:Nat}(ho:s.heap.get? a=some o)(hc:o.cls=.type "tuple")(hd:o.data=.seq vs m)(hq:∀v∈vs.toList,∀(E:Value->Shared->Prop) (Q:Bool->Shared->Prop),Q false s->wpAny (model P w) A (ofAClassStatement n v) Q E s){Q:Bool->Shared->Prop}(q:Q false s) :
  wpAny (model P w) A (ofAClassStatement (n+1) (.ref a)) Q E s:=by
 have hT:s.TypeIs (.ref a) "tuple":=⟨o,ho,hc⟩
 unfold ofAClassStatement;refine wpAny_bind (wpAny_typeOf hT ?_)
 dsimp only
 have eq1:(("tuple" : String)=="tuple")=true:=by decide
 simp only[eq1,if_true,Bool.not_true,asv,if_false]
 try refine wpAny_bind (wpAny_pure ?_)
 try simp only[Bool.not_true,asv,if_false]
 refine wpAny_bind (wpAny_seqItems ho hd ?_)
 dsimp only
 refine wpAny_bind ?_;rw[←Array.forIn_toList];refine wpAny_forIn_list _ (λleft r u=>r.1=none/\u=s/\∀v∈left,v∈vs.toList) _ ?_ ?_ _ _ ⟨rfl,rfl,λv hv=>hv⟩
 ·rintro v left r u ⟨hr,rfl,hall⟩;refine wpAny_bind (hq v (hall v arU) _ _ ?_);simp only[asv,if_false];exact wpAny_pure ⟨rfl,rfl,λy hy=>hall y (arS _ hy)⟩
 ·rintro⟨r1,r2⟩ u ⟨hr,rfl,_⟩;simp only at hr;subst hr;exact wpAny_pure q
theorem Y9{n:Nat}{a:Addr}{o:Obj}{vs:Array Value}{m:Nat}(ho:s.heap.get? a=some o)(hc:o.cls=.type "tuple")(hd:o.data=.seq vs m)(hq:∀v∈vs.toList,∀(E:Value->Shared->Prop) (Q:Bool->Shared->Prop),Q true s->wpAny (model P w) A (hashByValue n v) Q E s){Q:Bool->Shared->Prop}(q:Q true s) :
  wpAny (model P w) A (hashByValue (n+1) (.ref a)) Q E s:=by
 have hT:s.TypeIs (.ref a) "tuple":=⟨o,ho,hc⟩
 unfold hashByValue;refine wpAny_bind (wpAny_specialOf hT PySem.F.slot_tuple_hash.lookup ?_);show wpAny _ _ (seqItems? (.ref a) >>= _) _ _ s;refine wpAny_bind (wpAny_seqItems ho hd ?_);refine wpAny_bind ?_;show wpAny _ _ (forIn vs _ _) _ _ s;rw[←Array.forIn_toList];refine wpAny_forIn_list _ (λleft r u=>r.1=none/\u=s/\∀v∈left,v∈vs.toList) _ ?_ ?_ _ _ ⟨rfl,rfl,λv hv=>hv⟩
 ·rintro v left r u ⟨hr,rfl,hall⟩;refine wpAny_bind (hq v (hall v arU) _ _ ?_);simp only[Bool.not_true,asv,if_false];exact wpAny_pure ⟨rfl,rfl,λy hy=>hall y (arS _ hy)⟩
 ·rintro⟨r1,r2⟩ u ⟨hr,rfl,_⟩;simp only at hr;subst hr;exact wpAny_pure q
theorem Iw{r:Rw}{a:Addr}(x:RI s.heap r a):(∀{Q:Bool->Shared->Prop},Q false s->wpAny (model P w) A (ofAClassStatement 8 (.ref a)) Q E s)/\∀{Q:Bool->Shared->Prop},Q true s->wpAny (model P w) A (hashByValue 8 (.ref a)) Q E s:=by
 obtain⟨x,_⟩:=x;unfold nk at x;cases x with
 | @tup _ o vs m _ ho hc hd x=>
  have items:∀v∈vs.toList,(∃i,NestedIs s.heap (.num i) v)∨∃b,v=.ref b/\∃o us k,s.heap.get? b=some o/\o.cls=.type "tuple"/\o.data=.seq us k/\∀u∈us.toList,∃i,NestedIs s.heap (.num i) u:=by
   generalize vs.toList=l at x;cases x with
   |cons x1 x=>
    cases x with
    |cons x2 x=>
     cases x;intro v hv;rcases ar4.mp hv with e|hv
     ·exact Or.inl ⟨_,by rw[e];exact x1⟩
     ·have e:=arV.mp hv;cases x2 with
      |tup k1 k2 k3 k4=>exact Or.inr ⟨_,e,_,_,_,k1,k2,k3,Zz _ _ k4⟩
  refine⟨λq=>abb ho hc hd (λv hv E' Q' q'=>?_) q,λq=>Y9 ho hc hd (λv hv E' Q' q'=>?_) q⟩
  ·rcases items v hv with⟨i,y⟩|⟨b,rfl,o',us,k,k1,k2,k3,k4⟩
   ·rw[(Iv y 7).1];exact wpAny_pure q'
   ·refine abb k1 k2 k3 (λu hu E2 Q2 q2=>?_) q';obtain⟨i,y⟩:=k4 u hu;rw[(Iv y 6).1];exact wpAny_pure q2
  ·rcases items v hv with⟨i,y⟩|⟨b,rfl,o',us,k,k1,k2,k3,k4⟩
   ·rw[(Iv y 7).2];exact wpAny_pure q'
   ·refine Y9 k1 k2 k3 (λu hu E2 Q2 q2=>?_) q';obtain⟨i,y⟩:=k4 u hu;rw[(Iv y 6).2];exact wpAny_pure q2
end
abbrev Ent:Type:=Addr×Rw
section
variable{P:Program}{w:World}{A:Around}{E:Value->Shared->Prop}{s:Shared}
def ents(hf:Rw->Int)(L:List Ent):List (Int×Value):=L.map λp=>(hf p.2,Value.ref p.1)
structure qD(hf:Rw->Int)(w:World)(h:Heap)(a:Addr)(L:List Ent)(es:Array (Int×Value))(ep:Nat)(t:SetTable):Prop where
 ob:∃o,h.get? a=some o/\o.ExactSet/\o.data=.set es ep t
 en:es.toList=ents hf L
 tab:TabOk t (L.map λp=>hf p.2)
 nd:(L.map Prod.snd).Nodup
 ky:∀p∈L,RI h p.2 p.1
 pl:t.plain=true
 ld:w.params.followText "set-order"=true∨t.led=true
 free:L.length * 5 < t.mask * 3
 few:L.length<=76
variable{hf:Rw->Int}{a:Addr}{L:List Ent}{es:Array (Int×Value)}{ep:Nat}{t:SetTable}
theorem yW(h:es.toList=ents hf L):es.size=L.length:=by rw[←asB,h];exact arZ _
theorem N7(h:es.toList=ents hf L){i:Nat}{p:Ent}(g:L[i]?=some p):es[i]?=some (hf p.2,Value.ref p.1):=by rw[←asK,h];unfold ents;rw[ar5,g];rfl
theorem fits_of(h1:t.place.size=es.size)(h2:t.dummies=#[])(h3:es.size<=t.mask):t.fits es.size=true:=by unfold SetTable.fits SetTable.fill;rw[h2,arP,beq_iff_eq,ato];exact⟨h1,by show t.place.size+0<=t.mask;omega⟩
theorem qD.fits(R:qD hf w s.heap a L es ep t):t.fits es.size=true:=by have l1:=yW R.en;have l2:=R.tab.sz;rw[arZ]at l2;have l3:=R.free;exact fits_of (by omega) R.tab.dm (by omega)
theorem qD.sound(R:qD hf w s.heap a L es ep t):¬t.gaveWay=true:=by unfold SetTable.gaveWay;rw[mask_odd R.tab.mok];decide
theorem akQ{r:Rw}{b:Addr}{Q:Bool->Shared->Prop}(hx:RI s.heap r b){ys:List Value}(hy:∀y∈ys,∃q c,y=Value.ref c/\RI s.heap q c)(q:Q false s):wpAny (model P w) A (searchCouldBeSeen (.ref b) ys) Q E s:=by
 unfold searchCouldBeSeen;refine wpAny_bind ?_;refine wpAny_forIn_list _ (λleft r u=>r.1=none/\u=s/\∀y∈left,∃q c,y=Value.ref c/\RI s.heap q c) _ ?_ ?_ _ _ ⟨rfl,rfl,hy⟩
 ·rintro v left r u ⟨hr,rfl,hall⟩;obtain⟨q',c,rfl,hc⟩:=hall v arU;have more:∀y∈left,∃q c,y=Value.ref c/\RI u.heap q c:=λy m=>hall y (arS _ m)
  dsimp only
  by_cases hv:(b==c || (carriedByValue (.ref b)&&carriedByValue (.ref c)))=true
  ·exact wp_if_pos hv (wpAny_pure ⟨rfl,rfl,more⟩)
  ·refine wp_if_neg hv ?_;refine wpAny_bind ((nZ P w).quiet hx ?_);simp only[Bool.not_true,asv,if_false];refine wpAny_bind ((nZ P w).quiet hc ?_);simp only[Bool.not_true,asv,if_false];refine wpAny_bind ((Iw hx).1 ?_);simp only[asv,if_false];refine wpAny_bind ((Iw hc).1 ?_);simp only[asv,if_false];exact wpAny_pure ⟨rfl,rfl,more⟩
 ·rintro⟨r1,r2⟩ u ⟨hr,rfl,_⟩;simp only at hr;subst hr;exact wpAny_pure q
abbrev uL(m:Nat)(h:Int)(c:Nat):SetTable.Probe:=nth m (runAt m (SetTable.bits h % (m+1)) (SetTable.bits h)) c
theorem aaP(m:Nat)(h:Int)(c:Nat):(uL m h c).dummy=none:=by
 have all:∀(n:Nat) (p:SetTable.Probe),p.dummy=none->(nth m p n).dummy=none:=by
  intro n
  induction n with
  |zero=>exact λp k=>k
  |succ n ih=>
   intro p k;refine ih (adv m p) ?_;unfold adv
   split<;>exact k
 exact all c _ rfl
theorem W8(m:Nat)(h:Int)(c d:Nat):nth m (uL m h c) d=uL m h (c+d):=(nth_add m c _ d).symm
theorem seek(R:qD hf w s.heap a L es ep t){x:Addr}{r:Rw}(hx:RI s.heap r x){h:Int}(hh:hf r=h)(hu:(nZ P w).room A){N:Nat}(hN:N < 10 * SetTable.turns t.mask)(out:way t.mask (h) N∉t.place.toList)(inn:∀c,c < N->way t.mask (h) c∈t.place.toList){Q:SetFound->Shared->Prop}
  (yes:r∈L.map Prod.snd->Q (.there none) s) (no:r∉L.map Prod.snd->Q (.free (way t.mask (h) N) false) s) :
  ∀(f c:Nat) (st:Option SetTable.Probe),st.getD (t.probeStart (h))=uL t.mask (h) c->c<=N->N - c < f->
   (∀(i:Nat) (p:Ent),L[i]?=some p->p.2=r->∃d,c<=d/\d < N/\t.place.toList[i]?=some (way t.mask (h) d))->
   wpAny (model P w) A (setSearchFrom a (.ref x) (h) true f st) Q E s:=by
 intro f
 induction f with
 |zero=>exact λ_ _ _ _ hfl _=>absurd hfl (Nat.not_lt_zero _)
 |succ f ih=>
  intro c st hst hc hfl left;obtain⟨o,ho,hex,hd⟩:=R.ob;rw[setSearchFrom_succ];refine wpAny_bind (wpAny_setState_of ho hd R.fits ?_)
  dsimp only
  refine wp_if_neg R.sound ?_
  try refine wpAny_bind (wpAny_pure ?_)
  have jAt:∀d,(nth t.mask (uL t.mask h c) d).j=way t.mask h (c+d):=λd=>congrArg SetTable.Probe.j (W8 t.mask h c d);have hashOf:∀(i:Nat) (p:Ent),L[i]?=some p->(es[i]?.map (·.1)).getD 0=hf p.2:=λi p g=>by
   rw[N7 R.en g];rfl
  have spec:=go_spec t R.tab.ris R.tab.dm (λi=>(es[i]?.map (·.1)).getD 0) h (10 * SetTable.turns t.mask) (N - c) (uL t.mask h c) (aaP _ _ _) (by omega) (λd hdn=>by rw[jAt];exact inn (c+d) (by omega)) (by rw[jAt,atj hc];exact out);rcases spec with⟨d,i,hdn,hi,hhi,hno,hpr⟩|⟨hno,hpr⟩
  ·have hpr':t.probe (λi=>(es[i]?.map (·.1)).getD 0) h (st.getD (t.probeStart h))=some (.candidate (way t.mask h (c+d)) i (uL t.mask h (c+(d+1)))):=by
    rw[hst,←jAt,←W8];exact hpr
   rw[hpr']
   dsimp only
   rw[jAt]at hi;have hil:i < L.length:=by have k1:=(arQ.mp hi).1;have k2:=R.tab.sz;rw[arZ]at k2;rw[asB]at k1;omega
   obtain⟨p,hp⟩:∃p,L[i]?=some p:=⟨_,arR hil⟩;have pm:=arW hp;have go:wpAny (model P w) A (searchRest a (.ref x) h true f es t (way t.mask h (c+d)) i (uL t.mask h (c+(d+1)))) Q E s:=by
    unfold searchRest;rw[N7 R.en hp]
    dsimp only
    refine wpAny_bind (wpAny_holding ((nZ P w).eqBool hu (R.ky p pm) hx ?_));refine wpAny_bind (wpAny_setState_of ho hd R.fits ?_)
    dsimp only
    by_cases same:p.2=r
    ·exact wp_if_pos (by simp[same]) (wpAny_pure (yes (arY.mpr ⟨p,pm,same⟩)))
    ·refine wp_if_neg (by simp[same]) ?_
     try refine wpAny_bind (wpAny_pure ?_)
     rw[sameMem]
     dsimp only
     have live:t.slot (way t.mask h (c+d))=.live i:=slot_live R.tab.ris hi;simp only[if_true,live,N7 R.en hp];refine wpAny_bind (wpAny_isSame_ref_self (wpAny_bind (wpAny_pure ?_)));simp only[if_true];refine wp_if_neg (by simp[same]) ?_;refine ih (c+(d+1)) _ rfl (by omega) (by omega) λi0 p0 g0 e0=>?_;obtain⟨d0,a1,a2,a3⟩:=left i0 p0 g0 e0;refine⟨d0,?_,a2,a3⟩;by_cases c1:d0 < c+d
     ·exact absurd ((hashOf i0 p0 g0).trans ((congrArg hf e0).trans hh)) (hno (d0 - c) i0 (by omega) (by rw[jAt,atj a1];exact a3))
     ·by_cases c2:d0=c+d
      ·rw[c2]at a3;have live0:=slot_live R.tab.ris a3;rw[live]at live0;injection live0 with ei;rw[←ei,hp]at g0;exact absurd ((congrArg Prod.snd (ase g0)).trans e0) same
      ·omega
   by_cases hl:t.led=true
   ·refine wp_if_neg (by simp[hl]) ?_
    try refine wpAny_bind (wpAny_pure ?_)
    exact go
   ·refine wp_if_pos (by simp[hl]) ?_;refine wpAny_bind (akQ hx (λy hy=>?_) ?_)
    ·obtain⟨e,he,ee⟩:=arY.mp hy;have h1:e∈es/\e.1=h:=by simpa using he
     have h2:e∈es.toList:=by simpa using h1.1
     rw[R.en]at h2;obtain⟨p2,hp2,e2⟩:=arY.mp h2;exact⟨p2.2,p2.1,by rw[←ee,←e2],R.ky p2 hp2⟩
    ·refine wp_if_neg (by decide) ?_
     try refine wpAny_bind (wpAny_pure ?_)
     exact go
  ·have hpr':t.probe (λi=>(es[i]?.map (·.1)).getD 0) h (st.getD (t.probeStart h))=some (.empty (way t.mask h N) none):=by
    have e2:way t.mask h N=(nth t.mask (uL t.mask h c) (N - c)).j:=by rw[jAt,atj hc]
    rw[hst,e2];exact hpr
   rw[hpr']
   dsimp only
   refine wpAny_pure (no λhm=>?_);obtain⟨p0,m0,e0⟩:=arY.mp hm;obtain⟨i0,hi0,e1⟩:=List.getElem_of_mem m0;have g0:L[i0]?=some p0:=by rw[arR hi0,e1]
   obtain⟨d0,a1,a2,a3⟩:=left i0 p0 g0 e0;exact hno (d0 - c) i0 (by omega) (by rw[jAt,atj a1];exact a3) ((hashOf i0 p0 g0).trans ((congrArg hf e0).trans hh))
theorem look(R:qD hf w s.heap a L es ep t){x:Addr}{r:Rw}(hx:RI s.heap r x)(hu:(nZ P w).room A){Q:SetFound->Shared->Prop}(yes:r∈L.map Prod.snd->Q (.there none) s)
  (no:∀N,r∉L.map Prod.snd->way t.mask (hf r) N∉t.place.toList->(∀c,c < N->way t.mask (hf r) c∈t.place.toList)->Q (.free (way t.mask (hf r) N) false) s):wpAny (model P w) A (setSearch a (.ref x) (hf r) true) Q E s:=by
 have hfree:=R.free;obtain⟨N,hN,out,inn⟩:=R.tab.first (by rw[arZ];omega) (hf r);have small:N < 100000:=by
  have:10 * SetTable.turns t.mask<=1420:=by unfold SetTable.turns;rcases R.tab.mok with e|e|e<;>omega
  omega
 unfold setSearch;refine seek R hx rfl hu hN out inn yes (λhn=>no N hn out inn) 100000 0 none rfl (asJ _) (by omega) λi p g e=>?_;have hi:(L.map λp=>hf p.2)[i]?=some (hf r):=by rw[ar5,g,←e];rfl
 have hil:i < t.place.toList.length:=by have k1:=(arQ.mp g).1;have k2:=R.tab.sz;rw[arZ]at k2;rw[asB];omega
 obtain⟨c,hc,ec⟩:=R.tab.before out hi (arR hil);exact⟨c,asJ _,hc,by rw[arR hil,ec]⟩
end
section
variable{P:Program}{w:World}{A:Around}{E:Value->Shared->Prop}{s:Shared}{hf:Rw->Int}{a:Addr}{L:List Ent}{es:Array (Int×Value)}{ep:Nat}{t:SetTable}
theorem afW(L:List Ent)(n:Nat)(x:Addr)(r:Rw):ents hf (L.take n++(x,r)::L.drop n)=(ents hf L).take n++(hf r,Value.ref x)::(ents hf L).drop n:=by unfold ents;rw[List.map_append,arT,List.map_take,List.map_drop]
theorem range_all(L:List Ent):(List.range L.length).filterMap (λi=>L[i]?)=L:=by
 have part:∀n,n<=L.length->(List.range n).filterMap (λi=>L[i]?)=L.take n:=by
  intro n
  induction n with
  |zero=>exact λ_=>rfl
  |succ n ih=>
   intro hn;rw[List.range_succ,List.filterMap_append,ih (by omega),List.take_add_one,arR (show n < L.length by omega)];congr 1;rw[List.filterMap_cons_some (arR (show n < L.length by omega))];rfl
 rw[part _ (asn _),List.take_length]
theorem adZ(h:es.toList=ents hf L){order:Array Nat}(hp:order.toList.Perm (List.range L.length)) :
  ∃M:List Ent,(order.filterMap (es[·]?)).toList=ents hf M/\M.Perm L/\(M.map λp=>hf p.2)=order.toList.map λi=>(es.map (·.1)).getD i 0:=by
 have inside:∀i∈order.toList,i < L.length:=λi hi=>List.mem_range.mp (hp.mem_iff.mp hi);refine⟨order.toList.filterMap (λi=>L[i]?),?_,?_,?_⟩
 ·have e1:(order.filterMap (es[·]?)).toList=order.toList.filterMap (λi=>es[i]?):=by
   first | rw[Array.toList_filterMap] | simp
  rw[e1];unfold ents;rw[List.map_filterMap];congr 1;funext i;rw[←asK,h];unfold ents;rw[ar5]
 ·have:=hp.filterMap (λi=>L[i]?);rw[range_all]at this;exact this
 ·generalize order.toList=l at inside
  induction l with
  |nil=>rfl
  |cons i l ih=>
   have hi:=inside i arU;have e5:(es.map (·.1))[i]?=some (hf (L[i]).2):=by rw[Array.getElem?_map,N7 h (arR hi)];rfl
   rw[List.filterMap_cons_some (arR hi),arT,arT,ih λj hj=>inside j (arS _ hj),Array.getD_eq_getD_getElem?,e5];rfl
theorem amc{o:Obj}(ho:s.heap.get? a=some o)(hex:o.ExactSet)(hd:o.data=.set es ep t)(he:es.toList=ents hf L)(hsz:t.place.size=es.size)(hdm:t.dummies=#[])(hfl:es.size<=t.mask)(nd:(L.map Prod.snd).Nodup)(ky:∀p∈L,RI s.heap p.2 p.1)(pl:t.plain=true)
  (ld:w.params.followText "set-order"=true∨t.led=true) (few:L.length<=76) {wanted M:Nat} (hw:SetTable.sizeAbove wanted - 1=M) (hM:MaskOk M) (hw2:SetTable.sizeAbove wanted<=128) (hn:L.length * 5 < M * 3) {Q:Unit->Shared->Prop}
  (q:∀h' K es' ep' t',Heap.SameBut a s.heap h'->qD hf w h' a K es' ep' t'->K.Perm L->Q () { s with heap:=h' }):wpAny (model P w) A (setRelay a wanted) Q E s:=by
 have len:=yW he;obtain⟨t',order,e,hp,T,em,el,epl,ed⟩:=relaid_ok t (hs:=es.map (·.1)) (wanted:=wanted) hw hM (by rw[Array.size_map,len];omega);rw[Array.size_map,len]at hp;obtain⟨K,k1,k2,k3⟩:=adZ he hp;rw[←k3]at T;have ks:(order.filterMap (es[·]?)).size=es.size:=by rw[yW k1,k2.length_eq,len]
 rw[setRelay_eq];refine wpAny_bind (wpAny_setState_of ho hd (fits_of hsz hdm hfl) ?_)
 dsimp only
 refine wp_if_neg (by rw[sizeLine_eq];omega) ?_
 try refine wpAny_bind (wpAny_pure ?_)
 rw[e]
 dsimp only
 refine wpAny_bind ?_;refine wp_if_neg (by rw[ks];simp) ?_
 try refine wpAny_bind (wpAny_pure ?_)
 refine wpAny_pure ?_
 dsimp only
 refine wpAny_storeSet_of ho hd ?_ (by rw[ks,len,sizeLine_eq];omega);have sb:Heap.SameBut a s.heap (s.heap.update a (Obj.putSet (order.filterMap (es[·]?)) t')):=Heap.SameBut.update ..;refine q _ K (order.filterMap (es[·]?)) (ep+1) t' sb ⟨⟨_,store_at ho hd,⟨hex.1,hex.2.1,hex.2.2⟩,rfl⟩,k1,T,(k2.map Prod.snd).nodup_iff.mpr nd,λp hp=>Z9 (ky p (k2.mem_iff.mp hp)) ho hd sb,by rw[epl];exact pl,by rw[el];exact ld,?_,by rw[k2.length_eq];exact few⟩ k2;rw[k2.length_eq,em];exact hn
theorem alz(R:qD hf w s.heap a L es ep t){x:Addr}{r:Rw}(hx:RI s.heap r x)(hu:(nZ P w).room A)(hfew:r∉L.map Prod.snd->L.length+1<=76){Q:Bool->Shared->Prop}
  (q:∀b h' K es' ep' t',Heap.SameBut a s.heap h'->qD hf w h' a K es' ep' t'->(r∈L.map Prod.snd->K=L)->(r∉L.map Prod.snd->K.Perm ((x,r)::L))->Q b { s with heap:=h' }):wpAny (model P w) A (setAddHashed a (.ref x) (hf r)) Q E s:=by
 obtain⟨o,ho,hex,hd⟩:=R.ob;have len:=yW R.en;have hfree:=R.free;unfold setAddHashed;refine wpAny_holding ?_;rw[show(100000:Nat)=99999+1 from rfl,setAddHashedIn_succ];refine wpAny_bind (wpAny_setState_of ho hd R.fits ?_)
 dsimp only
 refine wp_if_neg (by simp[byScan,Value.scannable]) ?_
 try refine wpAny_bind (wpAny_pure ?_)
 refine wpAny_bind (look R hx hu (λhm=>?_) λN hm out inn=>?_)
 ·dsimp only
  exact wpAny_pure (q false s.heap L es ep t (Heap.SameBut.refl a s.heap) R (λ_=>rfl) λz=>absurd hm z)
 have few1:=hfew hm
 dsimp only
 refine wpAny_bind (wpAny_setState_of ho hd R.fits ?_)
 dsimp only
 obtain⟨q1,q2,q3,q4,q5,q6,q7,q8,q9⟩:=R.tab.put out inn;have pl1:(t.put (way t.mask (hf r) N)).1.plain=true:=by rw[q6];exact R.pl
 generalize hpt:t.put (way t.mask (hf r) N)=pt at q1 q3 q4 q5 q6 q7 q8 q9 pl1 ⊢;obtain⟨t1,n⟩:=pt
 dsimp only at q1 q3 q4 q5 q6 q7 q8 q9 pl1 ⊢
 subst q1
 first
  |(refine wpAny_bind ?_;refine wp_if_pos pl1 ?_;refine(Iw hx).2 ?_)
  |refine wp_if_pos pl1 (wpAny_bind ((Iw hx).2 ?_))
 simp only[if_true];have ein:(SetTable.insertAt es (SetTable.below t.place (way t.mask (hf r) N)) (hf r,Value.ref x)).toList=ents hf (L.take (SetTable.below t.place (way t.mask (hf r) N))++(x,r)::L.drop (SetTable.below t.place (way t.mask (hf r) N))):=by rw[SetTable.toList_insertAt,afW,R.en]
 generalize hnn:SetTable.below t.place (way t.mask (hf r) N)=n at q2 q3 ein ⊢;have pm:=put_perm L n (x,r);have hs1:(L.take n++(x,r)::L.drop n).map (λp=>hf p.2)=(L.map λp=>hf p.2).take n++hf r::(L.map λp=>hf p.2).drop n:=by rw[List.map_append,arT,List.map_take,List.map_drop]
 rw[←hs1]at q3;have nd1:((L.take n++(x,r)::L.drop n).map Prod.snd).Nodup:=by refine(pm.map Prod.snd).nodup_iff.mpr ?_;rw[arT];exact asW.mpr ⟨hm,R.nd⟩
 have len1:(SetTable.insertAt es n (hf r,Value.ref x)).size=L.length+1:=by rw[yW ein,pm.length_eq];rfl
 generalize SetTable.insertAt es n (hf r,Value.ref x)=es1 at ein len1 ⊢;have lenM:(L.take n++(x,r)::L.drop n).length=L.length+1:=pm.length_eq;generalize L.take n++(x,r)::L.drop n=M at pm q3 nd1 ein lenM;refine wpAny_bind (wpAny_storeSet_of ho hd ?_ (by rw[len1,sizeLine_eq];omega));have sb:Heap.SameBut a s.heap (s.heap.update a (Obj.putSet es1 t1)):=Heap.SameBut.update ..;have ho1:=store_at (es':=es1) (t':=t1) ho hd;generalize s.heap.update a (Obj.putSet es1 t1)=h1 at sb ho1 ⊢;have ky1:∀p∈M,RI h1 p.2 p.1:=λp hp=>by
  rcases ar4.mp (pm.mem_iff.mp hp) with e|m
  ·rw[e];exact Z9 hx ho hd sb
  ·exact Z9 (R.ky p m) ho hd sb
 have ld1:w.params.followText "set-order"=true∨t1.led=true:=by rw[q5];exact R.ld
 have full:t1.tooFull=true↔(L.length+1) * 5 ≥ t1.mask * 3:=by unfold SetTable.tooFull;rw[ato,q9,arZ]
 by_cases hfu:t1.tooFull=true
 ·first
   |(refine wpAny_bind ?_;refine wp_if_pos (by simp[hfu]) ?_)
   |(refine wp_if_pos (by simp[hfu]) ?_;refine wpAny_bind ?_)
  have over:=full.mp hfu;rw[len];have psz:t1.place.size=es1.size:=by have:=q3.sz;rw[arZ,lenM]at this;rw[this,len1]
  have which:(t.mask=7/\L.length=4)∨(t.mask=31/\L.length=18):=by
   rcases R.tab.mok with e|e|e
   ·rw[q4,e]at over;rw[e]at hfree;exact Or.inl ⟨e,by omega⟩
   ·rw[q4,e]at over;rw[e]at hfree;exact Or.inr ⟨e,by omega⟩
   ·rw[q4,e]at over;omega
  have go:∀m,SetTable.sizeAbove (SetTable.grown (L.length+1)) - 1=m->MaskOk m->SetTable.sizeAbove (SetTable.grown (L.length+1))<=128->(L.length+1) * 5 < m * 3->
    wpAny (model P w) A (setRelay a (SetTable.grown (L.length+1))) (λ_ u=>wpAny (model P w) A (pure true) Q E u) E { s with heap:=h1 }:=λm g1 g2 g3 g4=>
   amc (s:={ s with heap:=h1 }) ho1 ⟨hex.1,hex.2.1,hex.2.2⟩ rfl ein psz q3.dm (by rw[len1,q4];rcases which with⟨e,e2⟩|⟨e,e2⟩<;>omega) nd1 ky1 pl1 ld1 (by rw[lenM];exact few1) g1 g2 g3 (by rw[lenM];exact g4)
    λh2 K es2 ep2 t2 sb2 R2 pm2=>wpAny_pure (q true h2 K es2 ep2 t2 (sb.trans sb2) R2 (λz=>absurd z hm) λ_=>pm2.trans pm)
  rcases which with⟨_,e2⟩|⟨_,e2⟩
  ·exact go 31 (by rw[e2,size_20]) (.inr (.inl rfl)) (by rw[e2,size_20];decide) (by omega)
  ·exact go 127 (by rw[e2,size_76]) (.inr (.inr rfl)) (by rw[e2,size_76];decide) (by omega)
 ·first
   |refine wp_if_neg (by simp[hfu]) ?_
   |(refine wpAny_bind ?_;refine wp_if_neg (by simp[hfu]) ?_;refine wpAny_pure ?_)
  have under:¬(L.length+1) * 5 ≥ t1.mask * 3:=λz=>hfu (full.mpr z);exact wpAny_pure (q true h1 M es1 (ep+1) t1 sb ⟨⟨_,ho1,⟨hex.1,hex.2.1,hex.2.2⟩,rfl⟩,ein,q3,nd1,ky1,pl1,ld1,by rw[lenM];omega,by rw[lenM];exact few1⟩ (λz=>absurd z hm) λ_=>pm)
end
theorem Dc{α:Type}[DecidableEq α]:∀(l D:List α),l.Nodup->(∀x∈l,x∈D)->l.length<=D.length
 |[],_,_,_=>asJ _
 |x::l,D,hn,hs=>by
  obtain⟨h1,h2⟩:=asW.mp hn;have mx:=hs x arU;have ih:=Dc l (D.erase x) h2 λy hy=>(List.mem_erase_of_ne (λe=>h1 (by rw[←e];exact hy))).2 (hs y (arS _ hy));have e:=List.length_erase_of_mem mx;have hp:=List.length_pos_of_mem mx;rw[ar6];omega
structure Has(ks:List Ent)(i:Nat)(L:List Ent):Prop where
 sub:∀p∈L,p∈ks.take i
 all:∀p∈ks.take i,p.2∈L.map Prod.snd
theorem Eh{α:Type}{l:List α}{i:Nat}{x:α}(h:l[i]?=some x):l.take (i+1)=l.take i++[x]:=by rw[List.take_add_one,h];rfl
theorem Has.next{ks L K:List Ent}{i:Nat}{x:Ent}(g:Has ks i L)(h:ks[i]?=some x)(h1:x.2∈L.map Prod.snd->K=L)(h2:x.2∉L.map Prod.snd->K.Perm (x::L)):Has ks (i+1) K:=by
 by_cases c:x.2∈L.map Prod.snd
 ·rw[h1 c];refine⟨λp hp=>?_,λp hp=>?_⟩
  ·rw[Eh h];exact asy _ (g.sub p hp)
  ·rw[Eh h]at hp;rcases ar0.mp hp with m|m
   ·exact g.all p m
   ·rw[arV.mp m];exact c
 ·have pm:=h2 c;refine⟨λp hp=>?_,λp hp=>?_⟩
  ·rw[Eh h];rcases ar4.mp (pm.mem_iff.mp hp) with e|m
   ·exact asM _ (arV.mpr e)
   ·exact asy _ (g.sub p m)
  ·rw[(pm.map Prod.snd).mem_iff,arT];rw[Eh h]at hp;rcases ar0.mp hp with m|m
   ·exact arS _ (g.all p m)
   ·rw[arV.mp m];exact arU
def zP(w:World):Obj:={ cls:=.type "set",dict:=none,data:=.set #[] 0 (.fresh 0 0 (!w.params.followText "set-order")) }
section
variable{P:Program}{w:World}{A:Around}{E:Value->Shared->Prop}{s:Shared}{hf:Rw->Int}
theorem qD.stay{h h':Heap}{a:Addr}{L:List Ent}{es:Array (Int×Value)}{ep:Nat}{t:SetTable}(R:qD hf w h a L es ep t)(ha:∀o,h.get? a=some o->h'.get? a=some o)(hk:∀p∈L,RI h' p.2 p.1):qD hf w h' a L es ep t:=by obtain⟨o,ho,r⟩:=R.ob;exact⟨⟨o,ha o ho,r⟩,R.en,R.tab,R.nd,hk,R.pl,R.ld,R.free,R.few⟩
theorem afY{h:Heap}{a:Addr}(ho:h.get? a=some (zP w)):qD hf w h a [] #[] 0 (.fresh 0 0 (!w.params.followText "set-order")):=by
 refine⟨⟨_,ho,⟨rfl,rfl,rfl⟩,rfl⟩,rfl,⟨List.Pairwise.nil,rfl,rfl,.inl rfl,λx hx=>(by cases hx),λi h j hi=>(by simp at hi)⟩,atg,λp hp=>(by cases hp),rfl,?_,(show 0 * 5 < 7 * 3 by decide),asJ _⟩;show _∨(!w.params.followText "set-order")=true
 cases w.params.followText "set-order"
 ·exact .inr rfl
 ·exact .inl rfl
theorem aiq(hhf:∀r,(nZ P w).hash r=hf r){I:Addr}{fp wr:List Addr}{G:Array GenState->Array GenState->Prop}{n:Nat}{Pv:Nat->Value->Prop}{St:Nat->Shared->Prop}{R:Result->Shared->Prop}(W:WalksS P w A.in1 I fp wr G n Pv St)(S:Addr)(hSf:S∉fp)(ks:List Ent)(hn:n=ks.length)
  (D:List Rw) (hD:D.length<=76) (hkD:∀p∈ks,p.2∈D) (hval:∀i v,Pv i v->∃p,ks[i]?=some p/\v=.ref p.1) (h0:Heap) (hk:∀p∈ks,RI h0 p.2 p.1) (hS0:h0.get? S=none) (hw0:∀b∈wr,h0.get? b=none) (hu:(nZ P w).room A.in1) :
  ∀(m i:Nat) (s:Shared),n - i=m->i<=n->St i s->(∀b o,h0.get? b=some o->s.heap.get? b=some o)->(∃L es ep t,qD hf w s.heap S L es ep t/\Has ks i L)->
   (∀u L es ep t,Moved (S::wr) G s u->qD hf w u.heap S L es ep t->Has ks n L->(∀b o,h0.get? b=some o->u.heap.get? b=some o)->R (.ok (.ret .none)) u)->
   codeAny (model P w) A (.builtin "set.update.loop" ⟨[.ref S,.ref I],[]⟩) R s:=by
 have Sw:S∉wr:=λh=>hSf (W.sub _ h);have wS:∀b∈wr,b∈S::wr:=λb hb=>arS _ hb;have old:∀{s u:Shared},Moved wr G s u->(∀b o,h0.get? b=some o->s.heap.get? b=some o)->∀b o,h0.get? b=some o->u.heap.get? b=some o:=λhm hkp b o e=>hm.heap b o (λhb=>by rw[hw0 b hb]at e;cases e) (hkp b o e);intro m
 induction m with
 |zero=>
  intro i s hm0 hi hst hkp ⟨L,es,ep,t,hS,g⟩ hR
  obtain rfl:i=n:=by omega
  refine codeAny_builtin PyProof.Rows.F.entry_set_update_loop ?_;rw[Around.under_plainId PyProof.Rows.F.plain_set_update_loop _];refine wpAny_bind (W.done s _ _ hst λu hm=>?_);have kept:=old hm hkp;exact wpAny_pure (hR u L es ep t (hm.mono wS) (hS.stay (λo e=>hm.heap S o Sw e) λp hp=>TJ (hk p (as9 (g.sub p hp))) kept) g kept)
 |succ m ih=>
  intro i s hm0 hi hst hkp ⟨L,es,ep,t,hS,g⟩ hR;have hlt:i < n:=by omega
  refine codeAny_builtin PyProof.Rows.F.entry_set_update_loop ?_;rw[Around.under_plainId PyProof.Rows.F.plain_set_update_loop _];refine wpAny_bind (W.item i s _ _ hlt hst λv u hP hst' hm=>?_);obtain⟨p,hp,rfl⟩:=hval i v hP;have kept:=old hm hkp;have hS':qD hf w u.heap S L es ep t:=hS.stay (λo e=>hm.heap S o Sw e) λq hq=>TJ (hk q (as9 (g.sub q hq))) kept;have hx:RI u.heap p.2 p.1:=TJ (hk p (arW hp)) kept;refine wpAny_bind (wpAny_holding ?_);unfold setAdd;refine wpAny_holding ?_;refine wpAny_bind ((nZ P w).pyHash hu hx ?_);rw[hhf];have inD:∀y∈L.map Prod.snd,y∈D:=λy hy=>by
   obtain⟨q,hq,e⟩:=arY.mp hy;rw[←e];exact hkD q (as9 (g.sub q hq))
  refine alz (s:={ u with toks:=u.toks+(nZ P w).draws p.2 }) hS' hx hu (λhnew=>?_) λb h' K es' ep' t' sb hS2 c1 c2=>?_
  ·have:=Dc (p.2::L.map Prod.snd) D (asW.mpr ⟨hnew,hS.nd⟩) λy hy=>by
    rcases ar4.mp hy with e|hy
    ·rw[e];exact hkD p (arW hp)
    ·exact inD y hy
   rw[ar6,arZ]at this;omega
  have kept2:∀b o,h0.get? b=some o->h'.get? b=some o:=λb o e=>(sb.2 b (λz=>by rw[z,hS0]at e;cases e)).trans (kept b o e);refine wpAny_pure ⟨plainId_quiet PyProof.Rows.F.plain_set_update_loop _,ih (i+1) _ (by omega) hlt (W.frame _ u _ _ hst' (Nat.le_add_right _ _) λb hb o e=>?_) kept2 ⟨K,es',ep',t',hS2,g.next hp c1 c2⟩ λv L2 es2 ep2 t2 hm2 hS3 g3 k3=>?_⟩
  ·rw[sb.2 b (λh:b=S=>hSf (by rw[←h];exact hb))];exact e
  ·refine hR v L2 es2 ep2 t2 (Moved.trans W.gtrans ((hm.mono wS).then_heap (Nat.le_add_right _ _) λb o hb e=>?_) hm2) hS3 g3 k3;rw[sb.2 b (λh:b=S=>hb (by rw[h];exact arU))];exact e
set_option maxHeartbeats 4000000 in
theorem aaV(hhf:∀r,(nZ P w).hash r=hf r){l:Addr}{items:Array Value}(ks:List Ent)(D:List Rw)(hD:D.length<=76)(hkD:∀p∈ks,p.2∈D){Q:Value->Shared->Prop}(hh:A.handled=none)(hl:s.heap.IsList l items)(hit:items.toList=ks.map λp=>Value.ref p.1)
  (hk:∀p∈ks,RI s.heap p.2 p.1) (hu:A.units+3+8 < cLine)
  (h:∀(h':Heap) (tk:Nat) L es ep t,qD hf w h' s.heap.objs.size L es ep t->Has ks ks.length L->(∀b o,s.heap.get? b=some o->h'.get? b=some o)->Q (.ref s.heap.objs.size) { s with heap:=h',toks:=tk }) :
  wpAny (model P w) A (call (.type "set") [.ref l]) Q E s:=by
 have isz:items.size=ks.length:=by rw[←asB,hit,arZ]
 obtain⟨cc,tl,hmro⟩:=PySem.F.called_set.mro;have hmade:=PySem.F.called_set.made;have hsub:=PySem.F.called_set.sub;refine wpAny_call (codeAny_of_tree ?_);show wpAny _ _ (callAny (.type "set") _) _ _ _
 refine wpAny_pure ⟨Code.quiet_builtin _ (by decide +kernel),codeAny_builtin PySem.F.entry_type_call ?_⟩;rw[Around.under_plain (weight_type_call_type "set" [.ref l] []) rfl]
 have nt:=PySem.F.called_set.notType;have cr:=PySem.F.called_set.canCreate;have hct:=PySem.F.typeCall_set_1 (.ref l)
 (repeat (any_goals first | assumption | wp_step))
 refine codeAny_mono (code_set_led1 (.ref l) (E:=E) (Q₁:=λv u=>v=.ref s.heap.objs.size/\u={ s with heap:=s.heap.push (zP w) }) ⟨rfl,rfl⟩) λr u hr=>?_;cases r with
 |error e=>exact hr
 |ok fl=>
  cases fl with
  |ret v=>
   obtain⟨rfl,rfl⟩:=hr;have hS:(s.heap.push (zP w)).get? s.heap.objs.size=some (zP w):=Heap.get?_push_size _ rfl;have hT:Shared.TypeIs { s with heap:=s.heap.push (zP w) } (.ref s.heap.objs.size) "set":=⟨_,hS,rfl⟩
   have hli:=PySem.F.called_set.init.lookup;have hbi:=PySem.F.called_set.init.bind (.ref s.heap.objs.size)
   (repeat (any_goals first | assumption | wp_step))
   refine codeAny_mono (codeAny_call_builtin (R:=wants (λr u=>r=.none/\∃h' tk L es ep t,u={ s with heap:=h',toks:=tk }/\qD hf w h' s.heap.objs.size L es ep t/\Has ks ks.length L/\∀b o,s.heap.get? b=some o->h'.get? b=some o) E) PySem.F.called_set.init.plain PySem.F.entry_set_init (check_set_init_1 hT ?_)) λr₂ u₂ hr₂=>?_
   ·obtain⟨ol,hol,hcl,nl,hdl⟩:=hl;obtain⟨ocls,odict,odata,oslots⟩:=ol;simp only at hcl hdl;subst hcl;subst hdl;have hol':(s.heap.push (zP w)).get? l=some { cls:=.type "list",dict:=odict,data:=.seq items nl,slots:=oslots }:=Heap.get?_push_of_some _ hol
    have sl1:=PySem.F.sub_list_set;have sl2:=PySem.F.sub_list_frozenset;have nd:(Value.type "list"==Value.type "dict")=false:=by decide
    have hl1:(s.heap.push (zP w)).IsList l items:=⟨_,hol',rfl,nl,rfl⟩;unfold Builtin.«set.__init__» noKeywords Builtin.Frozenset.updateFrom;generalize hPI:pyIter=PI
    wp_walk
    subst hPI;refine wpAny_pyIter_list hl1 ?_;refine wpAny_bind (wpAny_runValue ?_);have lS:l < s.heap.objs.size:=Heap.lt_size hol;have h3:A.in1.in1.in1.handled=none:=by simp[hh]
    have sz1:(s.heap.push (zP w)).objs.size=s.heap.objs.size+1:=Heap.size_push ..;have lI:l≠(s.heap.push (zP w)).objs.size:=by rw[sz1];exact asw (as7 lS)
    have Sf:s.heap.objs.size∉[(s.heap.push (zP w)).objs.size,l]:=by rw[sz1];simp only[ar4,asz,or_false,not_or];exact⟨asw (Nat.lt_succ_self _),Nat.ne_of_gt lS⟩
    have hval:∀(i:Nat) (v:Value),items[i]?=some v->∃p,ks[i]?=some p/\v=.ref p.1:=λi v hv=>by
     rw[←asK,hit,ar5]at hv;obtain⟨p,g1,g2⟩:=asx.mp hv;exact⟨p,g1,g2.symm⟩
    have fresh:∀b,s.heap.objs.size<=b->s.heap.get? b=none:=λb hb=>by
     cases q:s.heap.get? b with
     |none=>rfl
     |some o=>exact absurd (Heap.lt_size q) (Nat.not_lt_of_le hb)
    refine aiq hhf ((Walks.list h3 _ l lI items).toS) s.heap.objs.size Sf ks isz D hD hkD hval s.heap hk (fresh _ (asn _)) (λb hb=>fresh b (by rw[arV.mp hb,sz1];exact Nat.le_succ _)) hu (items.size - 0) 0 _ (by omega) (asJ _)
     ⟨⟨_,Heap.get?_push_size _ rfl,rfl,rfl⟩,(hl1.push _)⟩ (λb o e=>Heap.get?_push_of_some _ (Heap.get?_push_of_some _ e)) ⟨[],#[],0,_,afY (Heap.get?_push_of_some _ hS),⟨λp hp=>(by cases hp),λp hp=>(by simp at hp)⟩⟩ λu L es ep t hm hS' g' kp=>?_
    obtain⟨h',g2,d',tk',os'⟩:=u;have eg:g2=s.gens:=hm.gens;have ed:d'=s.drawn:=hm.drawn;have eo:os'=s.os:=hm.os;subst eg;subst ed;subst eo;refine wpAny_pure ?_;rw[isz]at g';exact wpAny_pure ⟨rfl,h',tk',L,es,ep,t,rfl,hS',g',kp⟩
   ·cases r₂ with
    |error e=>exact hr₂
    |ok fl₂=>
     cases fl₂ with
     |ret r=>
      obtain⟨rfl,h',tk,L,es,ep,t,rfl,hS',g',hk'⟩:=hr₂
      (repeat (any_goals first | assumption | wp_step))
      exact h _ _ _ _ _ _ hS' g' hk'
     |_=>exact hr₂.elim
  |_=>exact hr.elim
end
def ab2(w:World)(h:Heap)(a:Addr)(L:List Ent):Prop:=∃(hf:Rw->Int) (es:Array (Int×Value)) (ep:Nat) (t:SetTable),(∃o,h.get? a=some o/\o.ExactSet/\o.data=.set es ep t)/\es.toList=ents hf L/\t.fits es.size=true/\Ris t.place.toList/\(w.params.followText "set-order"=true∨t.led=true)
def Nz(w:World)(a:Addr)(L:List Ent):HO:=.ext λh=>ab2 w h a L
section
variable{X:Cx}
theorem Wr{P:Program}{w:World}{h:Heap}:∀(l:List Int) (us:List Value),Vals (l.map V.int) us->NestedAll h (l.map .num) us
 |[],_,.nil=>.nil
 |i::l,_,.cons r t=>by
  obtain⟨tk,rfl⟩:=r;exact .cons (.int i tk) (Wr (P:=P) (w:=w) l _ t)
theorem VL:∀{ks:List Ent} {us:List Value},Vals (ks.map λp=>V.ref p.1) us->us=ks.map λp=>Value.ref p.1
 |[],_,.nil=>rfl
 |p::ks,_,.cons r t=>by
  cases r;rw[VL t];rfl
theorem W7{L:List Ent}:∀(out:List Value) (M:List Rw),PySem.W.EachIs (λv (r:Rw)=>∃p∈L,v=Value.ref p.1/\r=p.2) out M->∃ys:List V,Vals ys out/\fB (λv (r:Rw)=>∃p∈L,v=V.ref p.1/\r=p.2) ys M
 |[],[],.nil=>⟨[],.nil,fB.nil⟩
 |_::out,_::M,.cons ⟨p,hp,e1,e2⟩ k=>by
  obtain⟨ys,h1,h2⟩:=W7 out M k;subst e1 e2;refine⟨.ref p.1::ys,.cons rfl h1,by rw[ar6,ar6,h2.1],λj u y g1 g2=>?_⟩;cases j with
  |zero=>
   cases g1;cases g2;exact⟨p,hp,rfl,rfl⟩
  |succ j=>exact h2.2 j u y g1 g2
end
def gF(da dc:Addr):List (Str×V):=putF ("circles" : Str) (.ref dc) (putF ("allowances" : Str) (.ref da) [])
structure af6(C:Addr)(H:Hp)(p da dc:Addr)(al:List Int)(ci:List (List Int)):Prop where
 ob:∃dx,H p=some (.ins C dx (gF da dc))
 la:H da=some (.lst (al.map V.int))
 lc:∃us,H dc=some (.lst us)/\fB (Iu H) us ci
 ne:da≠dc
theorem af6.mono{C:Addr}{H H':Hp}(e:Ex H H'){p da dc:Addr}{al:List Int}{ci:List (List Int)}(g:af6 C H p da dc al ci):af6 C H' p da dc al ci:=by obtain⟨⟨dx,ob⟩,la,⟨us,h1,h2⟩,ne⟩:=g;exact⟨⟨dx,e _ _ ob⟩,e _ _ la,⟨us,e _ _ h1,h2.imp λ_ _ r=>r.mono e⟩,ne⟩
end Ear
namespace Rf
open PySem PySem.Spec PyProof.Rows L2 Evl
abbrev obj(h:Nat):Dat:=PyData.dict [(PyData.none,PyData.int (Int.ofNat h))]
inductive jc where
 |dat (d:Dat)|lst (n:Nat) (xs:List Dat)|dic (n:Bool) (kvs:List (Dat×Dat))
structure aR where
 f:Str->Option Addr
 fl:Str->List Str
 w:World
instance:CoeFun aR λ_=>Str->Option Addr:=⟨aR.f⟩
structure Inst where
 cls:Str
 fs:List (Str×jc)
abbrev Mo:=List Inst
inductive Cell where
 |dat (d:Dat)|mut (xs:List Dat)
abbrev Env:=List (Option Cell)
structure dG where
 cls:Str
 fs:List (Str×Dat)
inductive Out(α:Type) where
 |ok (a:α)|exc (x:dG)|bad
inductive bx(α:Type) where
 |ok (a:α) (M:Mo)|exc (x:dG) (M:Mo)|bad
inductive tK where
 |next (Z:Env) (M:Mo)|ret (d:Dat) (M:Mo)|brk (Z:Env) (M:Mo)|cont (Z:Env) (M:Mo)|exc (x:dG) (Z:Env) (M:Mo)|bad
structure Gh where
 tbl:List Addr
 ow:Addr->Option (Nat×Str)
 Lc:Addr->Prop
 Lo:Addr->Prop
def Gh.W(g:Gh)(a:Addr):Prop:=a∈g.tbl∨g.ow a≠none
def Gh.A(g:Gh)(a:Addr):Prop:=g.W a∨g.Lc a∨g.Lo a
def Ir:HO->Prop
 |.tup _=>False
 |.frz _ _=>False
 |_=>True
def aoc(K:arO)(a:Addr)(xs:List V):Prop:=∃(o:Obj) (its:Array Value) (n:Nat),K.lookup a=some o/\o.cls=.type "list"/\o.dict=none/\o.data=.seq its n/\its.size<=sizeLine/\Vals xs its.toList
def Qi(K:arO)(g:Gh)(H:Hp)(a:Addr)(xs:List V):Prop:=(Rd H a (.lst xs)/\¬g.A a)∨aoc K a xs
theorem Qi.sq{K:arO}{g:Gh}{H:Hp}{a:Addr}{xs:List V}(h:Qi K g H a xs):SqL K H a xs:=h.elim (λz=>.inl z.1) .inr
mutual
inductive Rep(K:arO)(g:Gh)(H:Hp):V->Dat->Prop
 |non:Rep K g H .non .none
 |bl (b:Bool):Rep K g H (.bl b) (.bool b)
 |int (i:Int):Rep K g H (.int i) (.int i)
 |str (x:Str):Rep K g H (.str x) (.str x)
 |tup {a:Addr} {xs:List V} {ds:List Dat}:SqT K H a xs->aM K g H xs ds->Rep K g H (.ref a) (.tuple ds)
 |lst {a:Addr} {xs:List V} {ds:List Dat}:Qi K g H a xs->aM K g H xs ds->Rep K g H (.ref a) (.list ds)
 |obj {a:Addr} {h:Nat}:g.tbl[h]?=some a->Rep K g H (.ref a) (obj h)
inductive aM(K:arO)(g:Gh)(H:Hp):List V->List Dat->Prop
 |nil:aM K g H [] []
 |cons {v:V} {vs:List V} {d:Dat} {ds:List Dat}:Rep K g H v d->aM K g H vs ds->aM K g H (v::vs) (d::ds)
end
structure Kd(g:Gh)(H:Hp):Prop where
 ob:∀a,g.A a->∃o,H a=some o/\Ir o
 lo:∀a,g.Lo a->¬g.W a
 lc:∀a,g.Lc a->¬g.W a/\¬g.Lo a
structure Gr(q:Bool)(g g':Gh)(H H':Hp):Prop where
 keep:∀a o,H a=some o->¬g.W a->¬g.Lo a->H' a=some o
 keepW:q=true->∀a o,H a=some o->g.W a->H' a=some o
 dom:∀a,H' a=none->H a=none
 tbl:∃more,g'.tbl=g.tbl++more
 W:∀a,g.W a->g'.W a
 nW:∀a,g'.W a->g.W a∨H a=none
 qg:q=true->g'.tbl=g.tbl/\g'.ow=g.ow
 Lc:g'.Lc=g.Lc
 Lo:∀a,g.Lo a->g'.Lo a
 nLo:∀a,g'.Lo a->g.Lo a∨H a=none
section
variable{K:arO}{q:Bool}{g g' g2:Gh}{H H' H2:Hp}{v:V}{d:Dat}
theorem Gr.refl:Gr q g g H H:=⟨λ_ _ h _ _=>h,λ_ _ _ h _=>h,λ_ h=>h,⟨[],by simp⟩,λ_ h=>h,λ_ h=>.inl h,λ_=>⟨rfl,rfl⟩,rfl,λ_ h=>h,λ_ h=>.inl h⟩
theorem Ds(e:Ex H H'):∀a,H' a=none->H a=none:=λa h=>by
 cases h1:H a with
 |none=>rfl
 |some o=>
  rw[e a o h1]at h;cases h
theorem Gr.ex(e:Ex H H'):Gr q g g H H':=⟨λa o h _ _=>e a o h,λ_ a o h _=>e a o h,Ds e,⟨[],by simp⟩,λ_ h=>h,λ_ h=>.inl h,λ_=>⟨rfl,rfl⟩,rfl,λ_ h=>h,λ_ h=>.inl h⟩
theorem Gr.trans(a:Gr q g g' H H')(b:Gr q g' g2 H' H2):Gr q g g2 H H2 where
 keep:=λx o h nw nl=>by
  have h1:=a.keep x o h nw nl;refine b.keep x o h1 (λz=>?_) (λz=>?_)
  ·rcases a.nW x z with z|z
   ·exact nw z
   ·rw[h]at z;cases z
  ·rcases a.nLo x z with z|z
   ·exact nl z
   ·rw[h]at z;cases z
 keepW:=λhq x o h w=>b.keepW hq x o (a.keepW hq x o h w) (a.W x w)
 dom:=λx h=>a.dom x (b.dom x h)
 tbl:=by obtain⟨m1,e1⟩:=a.tbl;obtain⟨m2,e2⟩:=b.tbl;exact⟨m1++m2,by rw[e2,e1,List.append_assoc]⟩
 W:=λx h=>b.W x (a.W x h)
 nW:=λx h=>by
  rcases b.nW x h with z|z
  ·exact a.nW x z
  ·exact .inr (a.dom x z)
 qg:=λhq=>by
  obtain⟨e1,e2⟩:=a.qg hq;obtain⟨f1,f2⟩:=b.qg hq;exact⟨f1.trans e1,f2.trans e2⟩
 Lc:=b.Lc.trans a.Lc
 Lo:=λx h=>b.Lo x (a.Lo x h)
 nLo:=λx h=>by
  rcases b.nLo x h with z|z
  ·exact a.nLo x z
  ·exact .inr (a.dom x z)
theorem Gr.loud(a:Gr q g g' H H'):Gr false g g' H H':=⟨a.keep,(λh=>nomatch h),a.dom,a.tbl,a.W,a.nW,(λh=>nomatch h),a.Lc,a.Lo,a.nLo⟩
theorem Gr.nA(r:Gr q g g' H H'){a:Addr}{o:HO}(h:H a=some o)(n:¬g.A a):¬g'.A a:=λz=>by
 rcases z with z|z|z
 ·rcases r.nW a z with z|z
  ·exact n (.inl z)
  ·rw[h]at z;cases z
 ·rw[r.Lc]at z;exact n (.inr (.inl z))
 ·rcases r.nLo a z with z|z
  ·exact n (.inr (.inr z))
  ·rw[h]at z;cases z
theorem Gr.rd(r:Gr q g g' H H'){a:Addr}{o:HO}(h:Rd H a o)(n:¬g.A a):Rd H' a o/\¬g'.A a:=by
 rcases h with h|⟨z,h⟩
 ·exact⟨.inl (r.keep a _ h (λw=>n (.inl w)) λw=>n (.inr (.inr w))),r.nA h n⟩
 ·exact⟨.inr ⟨z,r.keep a _ h (λw=>n (.inl w)) λw=>n (.inr (.inr w))⟩,r.nA h n⟩
theorem Kd.tup(k:Kd g H){a:Addr}{xs:List V}(h:Rd H a (.tup xs)):¬g.A a:=λz=>by
 obtain⟨o,e,m⟩:=k.ob a z;rcases h with h|⟨y,h⟩<;>(rw[h]at e;cases e;exact m)
theorem Gr.sqT(r:Gr q g g' H H')(k:Kd g H){a:Addr}{xs:List V}(h:SqT K H a xs):SqT K H' a xs:=by
 rcases h with h|h
 ·exact .inl (r.rd h (k.tup h)).1
 ·exact .inr h
theorem Gr.ls(r:Gr q g g' H H'){a:Addr}{xs:List V}(h:Qi K g H a xs):Qi K g' H' a xs:=by
 rcases h with⟨h,n⟩|h
 ·exact .inl (r.rd h n)
 ·exact .inr h
theorem Gr.tb(r:Gr q g g' H H'){h:Nat}{a:Addr}(e:g.tbl[h]?=some a):g'.tbl[h]?=some a:=by obtain⟨m,em⟩:=r.tbl;rw[em,ar3 (arQ.mp e).1];exact e
mutual
theorem Rep.gr(r:Gr q g g' H H')(k:Kd g H):∀{v:V} {d:Dat},Rep K g H v d->Rep K g' H' v d
 |_,_,.non=>.non
 |_,_,.bl b=>.bl b
 |_,_,.int i=>.int i
 |_,_,.str x=>.str x
 |_,_,.tup h t=>.tup (r.sqT k h) (aM.gr r k t)
 |_,_,.lst h t=>.lst (r.ls h) (aM.gr r k t)
 |_,_,.obj h=>.obj (r.tb h)
theorem aM.gr(r:Gr q g g' H H')(k:Kd g H):∀{vs:List V} {ds:List Dat},aM K g H vs ds->aM K g' H' vs ds
 |_,_,.nil=>.nil
 |_,_,.cons h t=>.cons (Rep.gr r k h) (aM.gr r k t)
end
mutual
theorem Rep.less(e:g'.tbl=g.tbl)(n:∀a,g'.A a->g.A a):∀{v:V} {d:Dat},Rep K g H v d->Rep K g' H v d
 |_,_,.non=>.non
 |_,_,.bl b=>.bl b
 |_,_,.int i=>.int i
 |_,_,.str x=>.str x
 |_,_,.tup h t=>.tup h (aM.less e n t)
 |_,_,.lst h t=>.lst (h.elim (λz=>.inl ⟨z.1,λy=>z.2 (n _ y)⟩) .inr) (aM.less e n t)
 |_,_,.obj h=>.obj (by rw[e];exact h)
theorem aM.less(e:g'.tbl=g.tbl)(n:∀a,g'.A a->g.A a):∀{vs:List V} {ds:List Dat},aM K g H vs ds->aM K g' H vs ds
 |_,_,.nil=>.nil
 |_,_,.cons h t=>.cons (Rep.less e n h) (aM.less e n t)
end
mutual
def lf:Dat->Bool
 |.list _=>false
 |.tuple ds=>lfs ds
 |.dict _=>true
 |.none=>true
 |.bool _=>true
 |.int _=>true
 |.str _=>true
def lfs:List Dat->Bool
 |[]=>true
 |d::ds=>lf d&&lfs ds
end
mutual
theorem Rep.free(e:g'.tbl=g.tbl):∀{v:V} {d:Dat},lf d=true->Rep K g H v d->Rep K g' H v d
 |_,_,_,.non=>.non
 |_,_,_,.bl b=>.bl b
 |_,_,_,.int i=>.int i
 |_,_,_,.str x=>.str x
 |_,_,f,.tup h t=>.tup h (aM.free e (by rw[lf]at f;exact f) t)
 |_,_,f,.lst h t=>by rw[lf]at f;cases f
 |_,_,_,.obj h=>.obj (by rw[e];exact h)
theorem aM.free(e:g'.tbl=g.tbl):∀{vs:List V} {ds:List Dat},lfs ds=true->aM K g H vs ds->aM K g' H vs ds
 |_,_,_,.nil=>.nil
 |_,_,f,.cons h t=>.cons (Rep.free e (by rw[lfs,arP]at f;exact f.1) h) (aM.free e (by rw[lfs,arP]at f;exact f.2) t)
end
theorem aM.length:∀{vs:List V} {ds:List Dat},aM K g H vs ds->vs.length=ds.length
 |_,_,.nil=>rfl
 |_,_,.cons _ t=>congrArg (· + 1) t.length
theorem aM.get:∀{vs:List V} {ds:List Dat} {i:Nat} {d:Dat},aM K g H vs ds->ds[i]?=some d->∃v,vs[i]?=some v/\Rep K g H v d
 |_,_,_,_,.nil,e=>by simp at e
 |_,_,0,_,.cons h _,e=>by simp at e;subst e;exact⟨_,rfl,h⟩
 |_,_,i+1,_,.cons _ t,e=>by simpa using t.get (i:=i) (by simpa using e)
theorem aM.get':∀{vs:List V} {ds:List Dat} {i:Nat} {v:V},aM K g H vs ds->vs[i]?=some v->∃d,ds[i]?=some d/\Rep K g H v d
 |_,_,_,_,.nil,e=>by simp at e
 |_,_,0,_,.cons h _,e=>by simp at e;subst e;exact⟨_,rfl,h⟩
 |_,_,i+1,_,.cons _ t,e=>by simpa using t.get' (i:=i) (by simpa using e)
theorem aM.append:∀{vs ws:List V} {ds es:List Dat},aM K g H vs ds->aM K g H ws es->aM K g H (vs++ws) (ds++es)
 |_,_,_,_,.nil,t=>t
 |_,_,_,_,.cons h r,t=>.cons h (r.append t)
theorem aM.take:∀{vs:List V} {ds:List Dat} (n:Nat),aM K g H vs ds->aM K g H (vs.take n) (ds.take n)
 |_,_,0,_=>.nil
 |_,_,_+1,.nil=>.nil
 |_,_,n+1,.cons h t=>.cons h (t.take n)
theorem aM.drop:∀{vs:List V} {ds:List Dat} (n:Nat),aM K g H vs ds->aM K g H (vs.drop n) (ds.drop n)
 |_,_,0,t=>t
 |_,_,_+1,.nil=>.nil
 |_,_,n+1,.cons _ t=>t.drop n
theorem aM.set{v:V}{d:Dat}(r:Rep K g H v d):∀{vs:List V} {ds:List Dat} (i:Nat),aM K g H vs ds->aM K g H (vs.set i v) (ds.set i d)
 |_,_,_,.nil=>.nil
 |_,_,0,.cons _ t=>.cons r t
 |_,_,i+1,.cons h t=>.cons h (t.set r i)
theorem Gr.upd{l:Addr}{o o':HO}(k:Kd g H)(h:H l=some o)(w:(g.W l/\q=false)∨g.Lo l):Gr q g g H (L2.upd H l o') where
 keep:=λa u e nw nl=>by
  rw[upd_ne (λz=>by subst z;exact w.elim (λw=>nw w.1) nl)];exact e
 keepW:=λhq a u e wa=>by
  rcases w with w|w
  ·rw[hq]at w;cases w.2
  ·rw[upd_ne (λz=>by subst z;exact k.lo _ w wa)];exact e
 dom:=λa e=>by
  by_cases z:a=l
  ·subst z;rw[upd_same]at e;cases e
  ·rw[upd_ne z]at e;exact e
 tbl:=⟨[],by simp⟩
 W:=λ_ h=>h
 nW:=λ_ h=>.inl h
 qg:=λ_=>⟨rfl,rfl⟩
 Lc:=rfl
 Lo:=λ_ h=>h
 nLo:=λ_ h=>.inl h
theorem Kd.ex(k:Kd g H)(e:Ex H H'):Kd g H':=⟨λa z=>let ⟨o,h,m⟩:=k.ob a z;⟨o,e a o h,m⟩,k.lo,k.lc⟩
theorem Kd.upd(k:Kd g H){l:Addr}{o:HO}(m:Ir o):Kd g (L2.upd H l o):=⟨λa z=>by
 by_cases e:a=l
 ·subst e;exact⟨o,upd_same,m⟩
 ·rw[upd_ne e];exact k.ob a z,k.lo,k.lc⟩
theorem Rep.ex(e:Ex H H')(k:Kd g H)(h:Rep K g H v d):Rep K g H' v d:=h.gr (Gr.ex (q:=true) e) k
theorem aM.ex{vs:List V}{ds:List Dat}(e:Ex H H')(k:Kd g H)(h:aM K g H vs ds):aM K g H' vs ds:=h.gr (Gr.ex (q:=true) e) k
end
def keyD:Key->Dat
 |.inl i=>.int i
 |.inr x=>.str x
def iG(l:Addr)(o:Obj):HO:=.ext λh=>h.get? l=some o
abbrev mY:Type:=NestedKey×Addr×Value
def aep(w:World)(x:mY):DictEntry:=⟨x.1.hash w,.ref x.2.1,x.2.2⟩
structure lF(w:World)(l:Addr)(o:Obj)(xs:List mY):Prop where
 sys:(l==sysModules)=false
 ex:o.ExactDict
 ent:∃es ep,o.data=.dict es ep/\es.toList=xs.map (aep w)
 nd:(xs.map (·.1)).Nodup
 len:xs.length<=sizeLine
 dep:∀x∈xs,x.1.depth<=8
def jy(K:arO)(aj:aR)(g:Gh)(H:Hp)(l:Addr):Bool->List (Dat×Dat)->Prop
 |false,kvs=>∃kv:List (Key×V),H l=some (.dK kv)/\kvs.map (·.1)=kv.map (λp=>keyD p.1)/\aM K g H (kv.map (·.2)) (kvs.map (·.2))
 |true,kvs=>∃(o:Obj) (xs:List mY) (vs:List V),H l=some (iG l o)/\lF aj.w l o xs/\kvs.map (·.1)=xs.map (λx=>x.1.data)/\aM K g H (xs.map λx=>V.ref x.2.1) (kvs.map (·.1))/\Vals vs (xs.map (·.2.2))/\aM K g H vs (kvs.map (·.2))
def dU(K:arO)(aj:aR)(g:Gh)(H:Hp)(h:Nat)(f:Str)(v:V):jc->Prop
 |.dat d=>Rep K g H v d
 |.lst n xs=>∃l us,v=.ref l/\H l=some (.lst us)/\g.ow l=some (h,f)/\aM K g H us xs/\g.tbl[n]?=some l
 |.dic n kvs=>∃l,v=.ref l/\g.ow l=some (h,f)/\jy K aj g H l n kvs
inductive cM(K:arO)(aj:aR)(g:Gh)(H:Hp)(h:Nat):List (Str×V)->List (Str×jc)->Prop
 |nil:cM K aj g H h [] []
 |cons {f:Str} {v:V} {fl:jc} {fs:List (Str×V)} {gs:List (Str×jc)}:dU K aj g H h f v fl->cM K aj g H h fs gs->cM K aj g H h ((f,v)::fs) ((f,fl)::gs)
structure fZ(K:arO)(aj:aR)(g:Gh)(H:Hp)(M:Mo):Prop where
 len:g.tbl.length=M.length
 inj:∀(h k:Nat) (a:Addr),g.tbl[h]?=some a->g.tbl[k]?=some a->h=k
 ins:∀(h:Nat) (a:Addr) (i:Inst),g.tbl[h]?=some a->M[h]?=some i->i.cls≠""->∃C dx fs,aj i.cls=some C/\H a=some (.ins C dx fs)/\cM K aj g H h fs i.fs
 nd:∀(h:Nat) (i:Inst),M[h]?=some i->(i.fs.map (·.1)).Nodup
 fd:∀(h:Nat) (i:Inst),M[h]?=some i->∀f∈i.fs.map (·.1),f∈aj.fl i.cls
 tw:∀(h:Nat) (a:Addr) (i:Inst),g.tbl[h]?=some a->M[h]?=some i->i.cls≠""->g.ow a=none
 dm:∀(h:Nat) (i:Inst),M[h]?=some i->i.cls=""->i.fs=[]
 nc:aj ""=none
structure SInv(K:arO)(aj:aR)(σ:L2.St)(H:Hp)(g:Gh)(Z:Env)(M:Mo):Prop where
 kd:Kd g H
 wok:fZ K aj g H M
 len:σ.length=Z.length
 dat:∀(i:Nat) (d:Dat),Z[i]?=some (some (.dat d))->∃v,σ[i]?=some (some v)/\Rep K g H v d
 own:∀(i:Nat) (xs:List Dat),Z[i]?=some (some (.mut xs))->∃l us,σ[i]?=some (some (.ref l))/\H l=some (.lst us)/\g.Lo l/\aM K g H us xs
 sep:∀(i j:Nat) (xs ys:List Dat) (l:Addr),i≠j->Z[i]?=some (some (.mut xs))->Z[j]?=some (some (.mut ys))->σ[i]?=some (some (.ref l))->σ[j]?≠some (some (.ref l))
section
variable{K:arO}{aj:aR}{q:Bool}{g g' g2:Gh}{H H' H2:Hp}{v:V}{d:Dat}{σ:L2.St}{Z:Env}{M:Mo}
theorem jy.ex{l:Addr}:∀{n:Bool} {kvs:List (Dat×Dat)} (e:Ex H H') (k:Kd g H) (h:jy K aj g H l n kvs),jy K aj g H' l n kvs
 |false,_,e,k,⟨kv,h1,h2,h3⟩=>⟨kv,e _ _ h1,h2,h3.ex e k⟩
 |true,_,e,k,⟨o,xs,vs,h1,h2,h3,h4,h5,h6⟩=>⟨o,xs,vs,e _ _ h1,h2,h3,h4.ex e k,h5,h6.ex e k⟩
theorem dU.ex{h:Nat}{f:Str}(e:Ex H H')(k:Kd g H):∀{fl:jc},dU K aj g H h f v fl->dU K aj g H' h f v fl
 |.dat _,r=>Rep.ex e k r
 |.lst _ _,⟨l,us,h1,h2,h3,h4,h5⟩=>⟨l,us,h1,e _ _ h2,h3,h4.ex e k,h5⟩
 |.dic _ _,⟨l,h1,h2,h3⟩=>⟨l,h1,h2,h3.ex e k⟩
theorem cM.ex{h:Nat}(e:Ex H H')(k:Kd g H):∀{fs:List (Str×V)} {gs:List (Str×jc)},cM K aj g H h fs gs->cM K aj g H' h fs gs
 |_,_,.nil=>.nil
 |_,_,.cons r t=>.cons (dU.ex e k r) (cM.ex e k t)
theorem fZ.ex(e:Ex H H')(k:Kd g H)(w:fZ K aj g H M):fZ K aj g H' M:=⟨w.len,w.inj,λh a i ha hi hc=>by
 obtain⟨C,dx,fs,c1,c2,c3⟩:=w.ins h a i ha hi hc;exact⟨C,dx,fs,c1,e _ _ c2,c3.ex e k⟩,w.nd,w.fd,w.tw,w.dm,w.nc⟩
theorem SInv.ex(e:Ex H H')(I:SInv K aj σ H g Z M):SInv K aj σ H' g Z M:=⟨I.kd.ex e,I.wok.ex e I.kd,I.len,λi d h=>by
 obtain⟨v,h1,h2⟩:=I.dat i d h;exact⟨v,h1,h2.ex e I.kd⟩,λi xs h=>by
 obtain⟨l,us,h1,h2,h3,h4⟩:=I.own i xs h;exact⟨l,us,h1,e _ _ h2,h3,h4.ex e I.kd⟩,I.sep⟩
theorem cM.get{h:Nat}{f:Str}{fl:jc}:∀{fs:List (Str×V)} {gs:List (Str×jc)},cM K aj g H h fs gs->gs.lookup f=some fl->∃v,fs.lookup f=some v/\dU K aj g H h f v fl
 |_,_,.nil,e=>nomatch e
 |_,_,.cons (f:=f') (v:=v) (fl:=fl') r t,e=>by
  rw[asp]at e;rw[asp];cases hb:f==f' with
  |true=>
   rw[hb]at e;cases e;have ef:f=f':=by simpa using hb
   subst ef;exact⟨v,rfl,r⟩
  |false=>
   rw[hb]at e;exact t.get e
theorem cM.no{h:Nat}{f:Str}:∀{fs:List (Str×V)} {gs:List (Str×jc)},cM K aj g H h fs gs->gs.lookup f=none->fs.lookup f=none
 |_,_,.nil,_=>rfl
 |_,_,.cons (f:=f') (v:=v) (fl:=fl') r t,e=>by
  rw[asp]at e;rw[asp];cases hb:f==f' with
  |true=>
   rw[hb]at e;cases e
  |false=>
   rw[hb]at e;exact t.no e
end
def Out.bind{α β:Type}(o:Out α)(k:α->Out β):Out β:=
 match o with
 |.ok a=>k a
 |.exc x=>.exc x
 |.bad=>.bad
def Out.sat{α:Type}(o:Out α)(P:α->Prop)(E:dG->Prop):Prop:=
 match o with
 |.ok a=>P a
 |.exc x=>E x
 |.bad=>False
@[simp]theorem Out.yS {α β:Type} (a:α) (k:α->Out β):(Out.ok a).bind k=k a:=rfl
@[simp]theorem Out.af4 {α β:Type} (x:dG) (k:α->Out β):(Out.exc x:Out α).bind k=.exc x:=rfl
@[simp]theorem Out.afe {α β:Type} (k:α->Out β):(Out.bad:Out α).bind k=.bad:=rfl
theorem Out.sat.bnd{α β:Type}{o:Out α}{k:α->Out β}{P:β->Prop}{E:dG->Prop}(h:(o.bind k).sat P E):o.sat (λa=>(k a).sat P E) E:=by cases o<;>exact h
theorem Out.sat.mono{α:Type}{o:Out α}{P P':α->Prop}{E E':dG->Prop}(h:o.sat P E)(hp:∀a,P a->P' a)(he:∀x,E x->E' x):o.sat P' E':=by
 cases o
 ·exact hp _ h
 ·exact he _ h
 ·exact h
def Out.when{α:Type}(b:Bool)(o:Out α):Out α:=if b=true then o else .bad
@[simp]theorem Out.W6 {α:Type} (o:Out α):Out.when true o=o:=rfl
@[simp]theorem Out.al0 {α:Type} (o:Out α):Out.when false o=.bad:=rfl
theorem Out.sat.pJ{α:Type}{b:Bool}{o:Out α}{P:α->Prop}{E:dG->Prop}(h:(Out.when b o).sat P E):b=true/\o.sat P E:=by
 cases b
 ·exact atn h
 ·exact⟨rfl,h⟩
inductive lA(K:arO)(g:Gh)(H:Hp):List (Str×V)->List (Str×Dat)->Prop
 |nil:lA K g H [] []
 |cons {f:Str} {v:V} {d:Dat} {fs:List (Str×V)} {gs:List (Str×Dat)}:Rep K g H v d->lA K g H fs gs->lA K g H ((f,v)::fs) ((f,d)::gs)
def qH(K:arO)(aj:aR)(g:Gh)(H:Hp)(x:dG)(c:Value)(dd:Option Addr):Prop:=
 ∃C,aj x.cls=some C/\c=.ref C/\((x.fs=[]/\dd=none)∨∃a fs,dd=some a/\H a=some (.xd fs)/\lA K g H fs x.fs)
abbrev QF:=Mo->Env->Out Dat
abbrev QT:=Mo->Env->Out Bool
abbrev QA:=Mo->Env->Out (List Dat)
section
variable(K:arO)(aj:aR)(W:WX)
def rG(g:Gh)(H:Hp)(σ:L2.St)(x:dG):Prop:=∀H' c dd,Ex H H'->qH K aj g H' x c dd->W c dd σ H'
def tQ(f:QF):TE:=λσ H Q=>∃g Z M,SInv K aj σ H g Z M/\(f M Z).sat (λd=>∀v H',Ex H H'->Rep K g H' v d->Q v H') (rG K aj W g H σ)
def j7(f:QT):TT:=λσ H Q=>∃g Z M,SInv K aj σ H g Z M/\(f M Z).sat (λb=>∀H',Ex H H'->Q b H') (rG K aj W g H σ)
def Ov(f:QA):TA:=λσ H Q=>∃g Z M,SInv K aj σ H g Z M/\(f M Z).sat (λds=>∀vs H',Ex H H'->aM K g H' vs ds->Q vs H') (rG K aj W g H σ)
end
section
variable{K:arO}{aj:aR}{W:WX}{g:Gh}{H H1:Hp}{σ:L2.St}{Z:Env}{M:Mo}
theorem rG.ex{x:dG}(e:Ex H H1)(h:rG K aj W g H σ x):rG K aj W g H1 σ x:=λH' c dd e' r=>h H' c dd (e.trans e') r
theorem tQ.go{f:QF}{k:Dat->Prop}{Q:VK}(I:SInv K aj σ H g Z M)(h:(f M Z).sat k (rG K aj W g H σ))(hk:∀d v H',k d->Ex H H'->Rep K g H' v d->Q v H'):tQ K aj W f σ H Q:=
 ⟨g,Z,M,I,h.mono (λd hd v H' e r=>hk d v H' hd e r) λ_ z=>z⟩
theorem j7.go{f:QT}{k:Bool->Prop}{Q:Bool->Hp->Prop}(I:SInv K aj σ H g Z M)(h:(f M Z).sat k (rG K aj W g H σ))(hk:∀b H',k b->Ex H H'->Q b H'):j7 K aj W f σ H Q:=
 ⟨g,Z,M,I,h.mono (λd hd H' e=>hk d H' hd e) λ_ z=>z⟩
theorem Ov.go{f:QA}{k:List Dat->Prop}{Q:List V->Hp->Prop}(I:SInv K aj σ H g Z M)(h:(f M Z).sat k (rG K aj W g H σ))(hk:∀ds vs H',k ds->Ex H H'->aM K g H' vs ds->Q vs H'):Ov K aj W f σ H Q:=
 ⟨g,Z,M,I,h.mono (λd hd v H' e r=>hk d v H' hd e r) λ_ z=>z⟩
end
def QE(aj:aR)(X:Cx)(W:WX)(e:Expr)(f:QF):Prop:=PE X e (tQ X.K aj W f)
def sU(aj:aR)(X:Cx)(W:WX)(e:Expr)(f:QT):Prop:=PT X e (j7 X.K aj W f)
def DQ(aj:aR)(X:Cx)(W:WX)(es:List Expr)(f:QA):Prop:=PA X es (Ov X.K aj W f)
theorem PE.weak{X:Cx}{e:Expr}{t t':TE}(h:PE X e t)(k:∀σ H Q,t' σ H Q->t σ H Q):PE X e t':=⟨λpins s σ H Q I q=>h.run pins s σ H Q I (k σ H Q q)⟩
theorem PT.weak{X:Cx}{e:Expr}{t t':TT}(h:PT X e t)(k:∀σ H Q,t' σ H Q->t σ H Q):PT X e t':=⟨λpins s σ H Q I q=>h.run pins s σ H Q I (k σ H Q q)⟩
theorem PA.weak{X:Cx}{e:List Expr}{t t':TA}(h:PA X e t)(k:∀σ H Q,t' σ H Q->t σ H Q):PA X e t':=⟨λpos pins s σ H Q I q=>h.run pos pins s σ H Q I (k σ H Q q)⟩
def aq(i:Nat):QF:=λ_ Z=>match Z[i]? with
 |some (some (.dat d))=>.ok d
 |_=>.bad
def qC(d:Dat):QF:=λ_ _=>.ok d
def aA(o:Dat->Dat->Out Dat)(a b:QF):QF:=λM Z=>(a M Z).bind λx=>(b M Z).bind λy=>o x y
def eV(o:Dat->Out Dat)(a:QF):QF:=λM Z=>(a M Z).bind o
def au:QA:=λ_ _=>.ok []
def ak(a:QF)(r:QA):QA:=λM Z=>(a M Z).bind λx=>(r M Z).bind λxs=>.ok (x::xs)
def bB(r:QA):QF:=λM Z=>(r M Z).bind λxs=>Out.when (decide (xs.length<=100000)) (.ok (.tuple xs))
def vP(r:QA):QF:=λM Z=>(r M Z).bind λxs=>Out.when (decide (xs.length<=100000)) (.ok (.list xs))
section
variable{X:Cx}{aj:aR}{W:WX}{a b:Expr}{fa fb:QF}{pos:Pos}
theorem ajp{i:Nat}{x:Str}(hN:X.N[i]?=some x)(hv:Vis X.env.scope x)(hd:(x==("__debug__" : Str))=false)(hcd:(x==("__classdict__" : Str))=false):QE aj X W (.Name x pos) (aq i):=
 PE.weak (pe_var hN hv hd hcd) λσ H Q ⟨g,Z,M,I,h⟩=>by
  unfold aq at h;split at h
  ·next d e=>
   obtain⟨v,h1,h2⟩:=I.dat i d e;exact⟨v,h1,h v H (Ex.refl H) h2⟩
  ·exact atn h
theorem akh{i:Int}{j:Nat}:QE aj X W (.Constant (.int i) j pos) (qC (.int i)):=PE.weak pe_int λσ H Q ⟨g,Z,M,I,h⟩=>h _ H (Ex.refl H) (.int i)
theorem akv{x:Str}{j:Nat}:QE aj X W (.Constant (.str x) j pos) (qC (.str x)):=PE.weak pe_str λσ H Q ⟨g,Z,M,I,h⟩=>h _ H (Ex.refl H) (.str x)
theorem amW{x:Bool}{j:Nat}:QE aj X W (.Constant (.bool x) j pos) (qC (.bool x)):=PE.weak pe_bl λσ H Q ⟨g,Z,M,I,h⟩=>h _ H (Ex.refl H) (.bl x)
theorem ajs{j:Nat}:QE aj X W (.Constant .none j pos) (qC .none):=PE.weak pe_non λσ H Q ⟨g,Z,M,I,h⟩=>h _ H (Ex.refl H) .non
theorem ai8:DQ aj X W [] au:=PA.weak pa_nil λσ H Q ⟨g,Z,M,I,h⟩=>h [] H (Ex.refl H) .nil
theorem ah5{es:List Expr}{fr:QA}(ha:QE aj X W a fa)(hr:DQ aj X W es fr)(hs:starEach (a::es) X.env=(false,eval a X.env)::starEach es X.env):DQ aj X W (a::es) (ak fa fr):=
 PA.weak (pa_cons ha hr hs) λσ H Q ⟨g,Z,M,I,h⟩=>by
  refine tQ.go I h.bnd λd v H1 h1 e1 r1=>?_;refine Ov.go (I.ex e1) (h1.bnd.mono (λ_ z=>z) λ_ z=>z.ex e1) λds vs H2 h2 e2 r2=>?_;exact h2 (v::vs) H2 (e1.trans e2) (.cons (r1.ex e2 (I.kd.ex e1)) r2)
theorem ajI{es:List Expr}{fr:QA}{k:Nat}(h:DQ aj X W es fr):QE aj X W (.Tuple es k pos) (bB fr):=
 PE.weak (pe_tup h) λσ H Q ⟨g,Z,M,I,h⟩=>by
  refine Ov.go I h.bnd λds vs H1 h1 e1 r1=>?_;obtain⟨hz,h1⟩:=h1.pJ;have hl:vs.length<=100000:=by rw[r1.length];exact atp hz
  refine⟨sz_of hl,λp np=>h1 (.ref p) _ (e1.trans (Ex.new np)) (.tup (st_of upd_same) (r1.ex (Ex.new np) (I.kd.ex e1)))⟩
theorem Kd.fresh{g:Gh}{H:Hp}(k:Kd g H){p:Addr}(n:H p=none):¬g.A p:=λz=>by
 obtain⟨o,e,_⟩:=k.ob p z;rw[n]at e;cases e
theorem ajJ{es:List Expr}{fr:QA}(h:DQ aj X W es fr):QE aj X W (.List es pos) (vP fr):=
 PE.weak (pe_lst h) λσ H Q ⟨g,Z,M,I,h⟩=>by
  refine Ov.go I h.bnd λds vs H1 h1 e1 r1=>?_;obtain⟨hz,h1⟩:=h1.pJ;have hl:vs.length<=100000:=by rw[r1.length];exact atp hz
  refine⟨sz_of hl,λp np=>h1 (.ref p) _ (e1.trans (Ex.new np)) (.lst (.inl ⟨.inl upd_same,(I.kd.ex e1).fresh np⟩) (r1.ex (Ex.new np) (I.kd.ex e1)))⟩
end
def dX(K:arO)(g:Gh)(H:Hp)(v:V):Dat->Prop
 |.list ds=>∃a us,v=.ref a/\SqL K H a us/\aM K g H us ds
 |d=>Rep K g H v d
section
variable{K:arO}{g:Gh}{H H':Hp}{v:V}{d:Dat}
theorem Rep.weak(h:Rep K g H v d):dX K g H v d:=by
 cases h with
 |lst a t=>exact⟨_,_,rfl,a.sq,t⟩
 |non=>exact .non
 |bl b=>exact .bl b
 |int i=>exact .int i
 |str x=>exact .str x
 |tup a t=>exact .tup a t
 |obj a=>exact .obj a
theorem dX.ex(e:Ex H H')(k:Kd g H)(h:dX K g H v d):dX K g H' v d:=by
 cases d with
 |list ds=>
  obtain⟨a,us,h1,h2,h3⟩:=h;exact⟨a,us,h1,ex_l e h2,h3.ex e k⟩
 |_=>exact Rep.ex e k h
theorem cG{i:Int}(h:dX K g H v (.int i)):v=.int i:=by cases h;rfl
theorem jP{x:Str}(h:dX K g H v (.str x)):v=.str x:=by cases h;rfl
theorem Es{b:Bool}(h:dX K g H v (.bool b)):v=.bl b:=by cases h;rfl
theorem Gi(h:dX K g H v .none):v=.non:=by cases h;rfl
theorem lK{ds:List Dat}(h:dX K g H v (.tuple ds)):∃a us,v=.ref a/\SqT K H a us/\aM K g H us ds:=by
 cases h with
 |tup a t=>exact⟨_,_,rfl,a,t⟩
theorem gH{ds:List Dat}(h:dX K g H v (.list ds)):∃a us,v=.ref a/\SqL K H a us/\aM K g H us ds:=h
theorem Ls{n:Nat}(h:dX K g H v (obj n)):∃a,v=.ref a/\g.tbl[n]?=some a:=by
 cases h with
 |obj a=>exact⟨_,rfl,a⟩
end
section
variable(K:arO)(aj:aR)(W:WX)
def tW(f:QF):TE:=λσ H Q=>∃g Z M,SInv K aj σ H g Z M/\(f M Z).sat (λd=>∀v H',Ex H H'->dX K g H' v d->Q v H') (rG K aj W g H σ)
end
theorem tW.go{K:arO}{aj:aR}{W:WX}{g:Gh}{H:Hp}{σ:L2.St}{Z:Env}{M:Mo}{f:QF}{k:Dat->Prop}{Q:VK}(I:SInv K aj σ H g Z M)(h:(f M Z).sat k (rG K aj W g H σ))(hk:∀d v H',k d->Ex H H'->dX K g H' v d->Q v H'):tW K aj W f σ H Q:=
 ⟨g,Z,M,I,h.mono (λd hd v H' e r=>hk d v H' hd e r) λ_ z=>z⟩
def QW(aj:aR)(X:Cx)(W:WX)(e:Expr)(f:QF):Prop:=PE X e (tW X.K aj W f)
theorem QE.w{aj:aR}{X:Cx}{W:WX}{e:Expr}{f:QF}(h:QE aj X W e f):QW aj X W e f:=
 PE.weak h λσ H Q ⟨g,Z,M,I,z⟩=>⟨g,Z,M,I,z.mono (λ_ k v H' e r=>k v H' e r.weak) λ_ y=>y⟩
def ao(i:Nat):QF:=λ_ Z=>match Z[i]? with
 |some (some (.dat d))=>.ok d
 |some (some (.mut xs))=>.ok (.list xs)
 |_=>.bad
def qp(aj:aR)(K:arO)(W:WX)(o:Dat->Dat->Out Dat)(r:R2):Prop:=∀(σ:L2.St) (g:Gh) (H:Hp) (x y:V) (d e:Dat) (Q:VK),Kd g H->dX K g H x d->dX K g H y e->
 (o d e).sat (λz=>∀v H',Ex H H'->Rep K g H' v z->Q v H') (rG K aj W g H σ)->r x y H Q
section
variable{X:Cx}{aj:aR}{W:WX}{a b c:Expr}{fa fb fc:QF}{pos:Pos}
theorem akH{i:Nat}{x:Str}(hN:X.N[i]?=some x)(hv:Vis X.env.scope x)(hd:(x==("__debug__" : Str))=false)(hcd:(x==("__classdict__" : Str))=false):QW aj X W (.Name x pos) (ao i):=
 PE.weak (pe_var hN hv hd hcd) λσ H Q ⟨g,Z,M,I,h⟩=>by
  unfold ao at h;split at h
  ·next d e=>
   obtain⟨v,h1,h2⟩:=I.dat i d e;exact⟨v,h1,h v H (Ex.refl H) h2.weak⟩
  ·next xs e=>
   obtain⟨l,us,h1,h2,h3,h4⟩:=I.own i xs e;exact⟨.ref l,h1,h _ H (Ex.refl H) ⟨l,us,rfl,sq_of h2,h4⟩⟩
  ·exact atn h
theorem S8{o:Dat->Dat->Out Dat}{r:R2}(ho:qp aj X.K W o r)(σ:L2.St)(H:Hp)(Q:VK)(h:tQ X.K aj W (aA o fa fb) σ H Q):tOp r (tW X.K aj W fa) (tW X.K aj W fb) σ H Q:=by obtain⟨g,Z,M,I,h⟩:=h;refine tW.go I h.bnd λd v H1 h1 e1 r1=>?_;refine tW.go (I.ex e1) (h1.bnd.mono (λ_ z=>z) λ_ z=>z.ex e1) λd2 v2 H2 h2 e2 r2=>?_;refine ho σ g H2 v v2 d d2 Q ((I.kd.ex e1).ex e2) (r1.ex e2 (I.kd.ex e1)) r2 (h2.mono (λz hz u H' e' r'=>hz u H' ((e1.trans e2).trans e') r') λ_ z=>(z.ex e1).ex e2)
theorem akb{op:Operator}{r:R2}{o:Dat->Dat->Out Dat}(hr:OpR X (binaryOp op) r)(ho:qp aj X.K W o r)(ha:QW aj X W a fa)(hb:QW aj X W b fb):QE aj X W (.BinOp a op b pos) (aA o fa fb):=
 PE.weak (pe_op hr ha hb) λσ H Q h=>S8 ho σ H Q h
theorem ahm{op:CmpOp}{r:R2}{o:Dat->Dat->Out Dat}(hr:OpR X (compareOp op) r)(ho:qp aj X.K W o r)(ha:QW aj X W a fa)(hb:QW aj X W b fb)(hm:behindInMarks op b=false):QE aj X W (.Compare a [op] [b] pos) (aA o fa fb):=
 PE.weak (pe_cmpR hr ha hb hm) λσ H Q h=>S8 ho σ H Q h
end
instance:DecidableRel CMul:=λi j=>by unfold CMul;infer_instance
instance:DecidableRel CDiv:=λi j=>by unfold CDiv;infer_instance
instance:DecidableRel CPow:=λi j=>by unfold CPow;infer_instance
def fu:Dat->Dat->Out Dat
 |.int i,.int j=>.ok (.int (i+j))
 |.str x,.str y=>Out.when (decide (x.length+y.length<=100000)) (.ok (.str (x++y)))
 |.list xs,.list ys=>Out.when (decide (xs.length+ys.length<=100000)) (.ok (.list (xs++ys)))
 |.tuple xs,.tuple ys=>Out.when (decide (xs.length+ys.length<=100000)) (.ok (.tuple (xs++ys)))
 |_,_=>.bad
def kY:Dat->Dat->Out Dat
 |.int i,.int j=>.ok (.int (i - j))
 |_,_=>.bad
def wZ:Dat->Dat->Out Dat
 |.int i,.int j=>Out.when (decide (CMul i j)) (.ok (.int (i * j)))
 |_,_=>.bad
def Bc:Dat->Dat->Out Dat
 |.int i,.int j=>Out.when (decide (CDiv i j)) (.ok (.int (i / j)))
 |_,_=>.bad
def kh:Dat->Dat->Out Dat
 |.int i,.int j=>Out.when (decide (0 < j)) (.ok (.int (i % j)))
 |_,_=>.bad
def O9:Dat->Dat->Out Dat
 |.int i,.int j=>Out.when (decide (CPow i j)) (.ok (.int (i ^ j.toNat)))
 |_,_=>.bad
def rCatS(K:arO):R2:=λx y H Q=>∃l b xs zs,x=.ref l/\y=.ref b/\SqL K H l xs/\SqL K H b zs/\xs.length+zs.length<=sizeLine/\∀p,H p=none->Q (.ref p) (upd H p (.lst (xs++zs)))
theorem ah3{X:Cx}:OpR X (binaryOp .Add) (rCatS X.K):=by
 intro pins s σ H x y v u Q I rx ry h;obtain⟨l,b,xs,zs,rfl,rfl,hH,hB,hz,q⟩:=h;cases rx;cases ry;obtain⟨its,r,⟨⟨c1,d1,da1,s1⟩,n,e,hc,hd,hs⟩,_⟩:=I.list hH;obtain⟨its2,r2,⟨⟨c2,d2,da2,s2⟩,n2,e2,hc2,hd2,hs2⟩,_⟩:=I.list hB;simp only at hc hd hs hc2 hd2 hs2;subst hc hd hs hc2 hd2 hs2;have l1:=r.length;have l2:=r2.length;have ea:its.toArray++its2.toArray=(its++its2).toArray:=by simp
 refine concat_meets ⟨_,e,rfl⟩ ⟨_,e2,rfl⟩ noFill_list_add seq_list_add PySem.F.slot_list_add PySem.F.entry_list_add (PySem.F.args_list_add_2 _ _) (list_addW l b its.toArray its2.toArray n n2 none none s1 s2 (by rw[atf,atf];omega)) ⟨e,e2,?_⟩;rw[ea];exact⟨.ref _,_,I.lnew (t':=s.toks) (r.append r2) (by rw[asF];omega),rfl,q _ I.fresh⟩
def ag1(K:arO):R2:=λx y H Q=>rI0 (λi j=>.int (i+j)) x y H Q∨(∃i j,x=.str i/\y=.str j/\i.length+j.length<=sizeLine/\Q (.str (i++j)) H)∨rCatS K x y H Q∨rCatA K x y H Q
theorem ahu{X:Cx}:OpR X (binaryOp .Add) (ag1 X.K):=by
 intro pins s σ H x y v u Q I rx ry h;rcases h with h|h|h|h
 ·exact op_add pins s σ H x y v u Q I rx ry h
 ·exact op_add_str pins s σ H x y v u Q I rx ry h
 ·exact ah3 pins s σ H x y v u Q I rx ry h
 ·exact op_catA pins s σ H x y v u Q I rx ry h
section
variable{K:arO}{aj:aR}{W:WX}
theorem akO:qp aj K W fu (ag1 K):=λσ g H x y d e Q k rx ry h=>by
 unfold fu at h;split at h
 ·exact .inl ⟨_,_,cG rx,cG ry,h _ H (Ex.refl H) (.int _)⟩
 ·obtain⟨hz,h⟩:=h.pJ;exact .inr (.inl ⟨_,_,jP rx,jP ry,sz_of (atp hz),h _ H (Ex.refl H) (.str _)⟩)
 ·obtain⟨hz,h⟩:=h.pJ;obtain⟨l,us,e1,s1,t1⟩:=gH rx;obtain⟨l2,us2,e2,s2,t2⟩:=gH ry;have hl:=atp hz;rw[←t1.length,←t2.length]at hl;refine .inr (.inr (.inl ⟨l,l2,us,us2,e1,e2,s1,s2,sz_of hl,λp np=>h _ _ (Ex.new np) (.lst (.inl ⟨.inl upd_same,k.fresh np⟩) ((t1.append t2).ex (Ex.new np) k))⟩))
 ·obtain⟨hz,h⟩:=h.pJ;obtain⟨l,us,e1,s1,t1⟩:=lK rx;obtain⟨l2,us2,e2,s2,t2⟩:=lK ry;have hl:=atp hz;rw[←t1.length,←t2.length]at hl;refine .inr (.inr (.inr ⟨l,l2,us,us2,e1,e2,s1,s2,sz_of hl,λz=>?_,λ_ z=>?_,λ_ _ p np=>h _ _ (Ex.new np) (.tup (st_of upd_same) ((t1.append t2).ex (Ex.new np) k))⟩))
  ·subst z;cases t1;exact h _ H (Ex.refl H) (.tup s2 t2)
  ·subst z;cases t2;rw[asR]at h;exact h _ H (Ex.refl H) (.tup s1 t1)
 ·exact atn h
theorem ajQ:qp aj K W kY (rI0 λi j=>.int (i - j)):=λσ g H x y d e Q k rx ry h=>by
 unfold kY at h;split at h
 ·exact⟨_,_,cG rx,cG ry,h _ H (Ex.refl H) (.int _)⟩
 ·exact atn h
theorem akm:qp aj K W wZ (rI CMul λi j=>.int (i * j)):=λσ g H x y d e Q k rx ry h=>by
 unfold wZ at h;split at h
 ·obtain⟨hz,h⟩:=h.pJ;exact⟨_,_,cG rx,cG ry,atp hz,h _ H (Ex.refl H) (.int _)⟩
 ·exact atn h
theorem als:qp aj K W Bc (rI CDiv λi j=>.int (i / j)):=λσ g H x y d e Q k rx ry h=>by
 unfold Bc at h;split at h
 ·obtain⟨hz,h⟩:=h.pJ;exact⟨_,_,cG rx,cG ry,atp hz,h _ H (Ex.refl H) (.int _)⟩
 ·exact atn h
theorem akk:qp aj K W kh (rI (λ_ j=>0 < j) λi j=>.int (i % j)):=λσ g H x y d e Q k rx ry h=>by
 unfold kh at h;split at h
 ·obtain⟨hz,h⟩:=h.pJ;exact⟨_,_,cG rx,cG ry,atp hz,h _ H (Ex.refl H) (.int _)⟩
 ·exact atn h
theorem akr:qp aj K W O9 (rI CPow λi j=>.int (i ^ j.toNat)):=λσ g H x y d e Q k rx ry h=>by
 unfold O9 at h;split at h
 ·obtain⟨hz,h⟩:=h.pJ;exact⟨_,_,cG rx,cG ry,atp hz,h _ H (Ex.refl H) (.int _)⟩
 ·exact atn h
end
mutual
def okd:Nat->Dat->Bool
 |_,.none=>true
 |_,.bool _=>true
 |_,.int _=>true
 |_,.str x=>PyData.strOk x
 |n+1,.list ds=>lZ n ds
 |n+1,.tuple ds=>lZ n ds
 |0,.list _=>false
 |0,.tuple _=>false
 |_,.dict _=>false
def lZ:Nat->List Dat->Bool
 |_,[]=>true
 |n,d::ds=>okd n d&&lZ n ds
end
mutual
theorem Ua:∀(n:Nat) (d:Dat),okd n d=true->d.canLay0=true/\d.depth<=n
 |n,.none,_=>⟨by simp[PyData.canLay0],by simp[PyData.depth]⟩
 |n,.bool _,_=>⟨by simp[PyData.canLay0],by simp[PyData.depth]⟩
 |n,.int _,_=>⟨by simp[PyData.canLay0],by simp[PyData.depth]⟩
 |n,.str x,h=>⟨by rw[okd]at h;simp[PyData.canLay0,h],by simp[PyData.depth]⟩
 |n+1,.list ds,h=>by
  rw[okd]at h;obtain⟨h1,h2⟩:=Ig n ds h;exact⟨by simp[PyData.canLay0,h1],by simp[PyData.depth];omega⟩
 |n+1,.tuple ds,h=>by
  rw[okd]at h;obtain⟨h1,h2⟩:=Ig n ds h;exact⟨by simp[PyData.canLay0,h1],by simp[PyData.depth];omega⟩
 |0,.list _,h=>by rw[okd]at h;cases h
 |0,.tuple _,h=>by rw[okd]at h;cases h
 |n,.dict _,h=>by rw[okd]at h;cases h
theorem Ig:∀(n:Nat) (ds:List Dat),lZ n ds=true->PyData.canLayAll0 ds=true/\PyData.depthAll ds<=n
 |n,[],_=>⟨by simp[PyData.canLayAll0],by simp[PyData.depthAll]⟩
 |n,d::ds,h=>by
  rw[lZ,arP]at h;obtain⟨h1,h2⟩:=Ua n d h.1;obtain⟨h3,h4⟩:=Ig n ds h.2;exact⟨by simp[PyData.canLayAll0,h1,h3],by simp[PyData.depthAll];omega⟩
end
mutual
theorem Rep.dp{K:arO}{g:Gh}{H:Hp}:∀{n:Nat} {v:V} {d:Dat},okd n d=true->Rep K g H v d->Dp K H v d
 |_,_,_,_,.non=>.non
 |_,_,_,_,.bl b=>.bl b
 |_,_,_,_,.int i=>.int i
 |_,_,_,_,.str x=>.str x
 |n+1,_,_,f,.tup h t=>.tup h (aM.dp (n:=n) (by rw[okd]at f;exact f) t)
 |n+1,_,_,f,.lst h t=>.lst h.sq (aM.dp (n:=n) (by rw[okd]at f;exact f) t)
 |0,_,_,f,.tup h t=>by rw[okd]at f;cases f
 |0,_,_,f,.lst h t=>by rw[okd]at f;cases f
 |_,_,_,f,.obj h=>by rw[okd]at f;cases f
theorem aM.dp{K:arO}{g:Gh}{H:Hp}:∀{n:Nat} {vs:List V} {ds:List Dat},lZ n ds=true->aM K g H vs ds->DpAll K H vs ds
 |_,_,_,_,.nil=>.nil
 |n,_,_,f,.cons h t=>.cons (Rep.dp (n:=n) (by rw[lZ,arP]at f;exact f.1) h) (aM.dp (n:=n) (by rw[lZ,arP]at f;exact f.2) t)
end
theorem dX.dp{K:arO}{g:Gh}{H:Hp}{n:Nat}{v:V}{d:Dat}(f:okd n d=true)(h:dX K g H v d):Dp K H v d:=by
 cases d with
 |list ds=>
  obtain⟨a,us,rfl,h2,h3⟩:=h;cases n with
  |zero=>rw[okd]at f;cases f
  |succ n=>
   rw[okd]at f;exact .lst h2 (h3.dp f)
 |_=>exact Rep.dp f h
theorem BX{n:Nat}{d:Dat}(h:okd n d=true)(hn:n<=64):SeqAt.shaped d=true:=by obtain⟨h1,h2⟩:=Ua n d h;unfold SeqAt.shaped;rw[h1,Bool.true_and];exact decide_eq_true (asl h2 hn)
def eqB:Dat->Dat->Out Bool
 |.int i,.int j=>.ok (i==j)
 |.str x,.str y=>.ok (x==y)
 |.bool x,.bool y=>.ok (x==y)
 |.none,.none=>.ok true
 |d,e=>Out.when (okd 12 d&&okd 12 e) (.ok (PyData.eqv d e))
def bW(d e:Dat):Out Dat:=(eqB d e).bind λb=>.ok (.bool b)
def uZ(d e:Dat):Out Dat:=(eqB d e).bind λb=>.ok (.bool (!b))
def akD(K:arO):R2:=λx y H Q=>rEq x y H Q∨rEqD K x y H Q
def ai1(K:arO):R2:=λx y H Q=>rNe x y H Q∨rNeD K x y H Q
theorem ajY{X:Cx}(hu:X.A.units+64 < cLine):OpR X (compareOp .Eq) (akD X.K):=λpins s σ H x y v u Q I rx ry h=>h.elim (λh=>op_eq pins s σ H x y v u Q I rx ry h) (λh=>op_eqD hu pins s σ H x y v u Q I rx ry h)
theorem akJ{X:Cx}(hu:X.A.units+64 < cLine):OpR X (compareOp .NotEq) (ai1 X.K):=λpins s σ H x y v u Q I rx ry h=>h.elim (λh=>op_ne pins s σ H x y v u Q I rx ry h) (λh=>op_neD hu pins s σ H x y v u Q I rx ry h)
section
variable{K:arO}{aj:aR}{W:WX}{g:Gh}{H:Hp}
theorem aem{x y:V}{d e:Dat}{P:Bool->Prop}{E:dG->Prop}(rx:dX K g H x d)(ry:dX K g H y e)(h:(eqB d e).sat P E):(scal x y=true/\P (decide (x=y)))∨(∃d e,Dp K H x d/\Dp K H y e/\SeqAt.shaped d=true/\SeqAt.shaped e=true/\P (PyData.eqv d e)):=by
 unfold eqB at h;split at h
 ·cases cG rx;cases cG ry;rw[dec_int];exact .inl ⟨rfl,h⟩
 ·cases jP rx;cases jP ry;rw[dec_str];exact .inl ⟨rfl,h⟩
 ·cases Es rx;cases Es ry;rw[dec_bl];exact .inl ⟨rfl,h⟩
 ·cases Gi rx;cases Gi ry;exact .inl ⟨rfl,h⟩
 ·obtain⟨hz,h⟩:=h.pJ;rw[arP]at hz;exact .inr ⟨_,_,rx.dp hz.1,ry.dp hz.2,BX hz.1 (by decide),BX hz.2 (by decide),h⟩
theorem amK:qp aj K W bW (akD K):=λσ g H x y d e Q k rx ry h=>by
 rcases aem rx ry h.bnd with⟨h1,h2⟩|⟨d,e,h1,h2,h3,h4,h5⟩
 ·exact .inl ⟨h1,h2 _ H (Ex.refl H) (.bl _)⟩
 ·exact .inr ⟨d,e,h1,h2,h3,h4,h5 _ H (Ex.refl H) (.bl _)⟩
theorem ami:qp aj K W uZ (ai1 K):=λσ g H x y d e Q k rx ry h=>by
 rcases aem rx ry h.bnd with⟨h1,h2⟩|⟨d,e,h1,h2,h3,h4,h5⟩
 ·exact .inl ⟨h1,h2 _ H (Ex.refl H) (.bl _)⟩
 ·exact .inr ⟨d,e,h1,h2,h3,h4,h5 _ H (Ex.refl H) (.bl _)⟩
end
def Ox:Dat->Dat->Out Dat
 |.int i,.int j=>.ok (.bool (decide (i < j)))
 |.tuple ds,.tuple es=>Out.when (okd 12 (.tuple ds)&&okd 12 (.tuple es)&&PySem.W.alike (.tuple ds) (.tuple es)) (.ok (.bool (PySem.W.dataLt (.tuple ds) (.tuple es))))
 |_,_=>.bad
def sV:Dat->Dat->Out Dat
 |.int i,.int j=>.ok (.bool (decide (i<=j)))
 |_,_=>.bad
def Wv:Dat->Dat->Out Dat
 |.int i,.int j=>.ok (.bool (decide (j < i)))
 |_,_=>.bad
def geD:Dat->Dat->Out Dat
 |.int i,.int j=>.ok (.bool (decide (j<=i)))
 |_,_=>.bad
def aki(K:arO):R2:=λx y H Q=>rI0 (λi j=>.bl (decide (i < j))) x y H Q∨Ear.Rb K x y H Q
theorem alp{X:Cx}(hu:X.A.units+65 < cLine):OpR X (compareOp .Lt) (aki X.K):=λpins s σ H x y v u Q I rx ry h=>h.elim (λh=>op_lt pins s σ H x y v u Q I rx ry h) (λh=>Ear.afr hu pins s σ H x y v u Q I rx ry h)
section
variable{K:arO}{aj:aR}{W:WX}{g:Gh}{H:Hp}
theorem amD:qp aj K W Ox (aki K):=λσ g H x y d e Q k rx ry h=>by
 unfold Ox at h;split at h
 ·exact .inl ⟨_,_,cG rx,cG ry,h _ H (Ex.refl H) (.bl _)⟩
 ·obtain⟨hz,h⟩:=h.pJ;simp only[arP]at hz;refine .inr ?_;unfold Ear.Rb;exact⟨_,_,rx.dp hz.1.1,ry.dp hz.1.2,hz.2,(λz=>nomatch z),asl (Ua _ _ hz.1.1).2 (by decide),h _ H (Ex.refl H) (.bl _)⟩
 ·exact atn h
theorem amd:qp aj K W sV (rI0 λi j=>.bl (decide (i<=j))):=λσ g H x y d e Q k rx ry h=>by
 unfold sV at h;split at h
 ·exact⟨_,_,cG rx,cG ry,h _ H (Ex.refl H) (.bl _)⟩
 ·exact atn h
theorem al8:qp aj K W Wv (rI0 λi j=>.bl (decide (j < i))):=λσ g H x y d e Q k rx ry h=>by
 unfold Wv at h;split at h
 ·exact⟨_,_,cG rx,cG ry,h _ H (Ex.refl H) (.bl _)⟩
 ·exact atn h
theorem alP:qp aj K W geD (rI0 λi j=>.bl (decide (j<=i))):=λσ g H x y d e Q k rx ry h=>by
 unfold geD at h;split at h
 ·exact⟨_,_,cG rx,cG ry,h _ H (Ex.refl H) (.bl _)⟩
 ·exact atn h
end
def j9(c:Dat):Dat->Bool
 |.none=>match c with
  |.none=>true
  |_=>false
 |.bool b=>match c with
  |.bool b'=>b==b'
  |_=>false
 |_=>false
def scD:Dat->Option V
 |.none=>some .non
 |.bool b=>some (.bl b)
 |_=>none
theorem abj{K:arO}{g:Gh}{H:Hp}{x:V}{d c:Dat}{v:V}(h:dX K g H x d)(hc:scD c=some v):decide (x=v)=j9 c d:=by
 cases c with
 |none=>
  cases hc;cases d with
  |none=>cases Gi h;rfl
  |bool b=>cases Es h;rfl
  |int b=>cases cG h;rfl
  |str b=>cases jP h;rfl
  |list b=>obtain⟨a,us,rfl,_⟩:=gH h;rfl
  |tuple b=>obtain⟨a,us,rfl,_⟩:=lK h;rfl
  |dict b=>cases h;rfl
 |bool c=>
  cases hc;cases d with
  |none=>cases Gi h;rfl
  |bool b=>cases Es h;exact dec_bl
  |int b=>cases cG h;rfl
  |str b=>cases jP h;rfl
  |list b=>obtain⟨a,us,rfl,_⟩:=gH h;rfl
  |tuple b=>obtain⟨a,us,rfl,_⟩:=lK h;rfl
  |dict b=>cases h;rfl
 |_=>cases hc
def aag(neg:Bool)(v:V):R2:=λx y H Q=>y=v/\Q (.bl (neg ^^ decide (x=v))) H
theorem adu{x v:V}{u w:Value}(hv:v=.non∨∃b,v=.bl b)(rx:RelV x u)(rv:RelV v w):(u==w)=decide (x=v):=by
 rcases hv with rfl|⟨b,rfl⟩
 ·cases rv;exact rx.none_iff
 ·cases rv;rw[asQ,beq_iff_eq,ato];constructor
  ·rintro rfl;cases x with
   |bl c=>cases rx;rfl
   |non=>cases rx
   |ref _=>cases rx
   |ty _=>cases rx
   |_=>obtain⟨t,z⟩:=rx;cases z
  ·rintro rfl;exact rx
theorem Wi{x v:V}{u w:Value}(hv:v=.non∨∃b,v=.bl b)(rx:RelV x u)(rv:RelV v w):plainIs u w=true:=by rcases hv with rfl | ⟨b,rfl⟩<;>(cases rv;cases x<;>first | (cases rx;rfl) | (obtain⟨t,rfl⟩:=rx;rfl))
theorem akz{X:Cx}{v:V}(hv:v=.non∨∃b,v=.bl b):OpR X (compareOp .Is) (aag false v):=by intro pins s σ H x y u w Q I rx ry h;obtain⟨rfl,q⟩:=h;refine wpAny_is_plain (Wi hv rx ry) ?_;rw[adu hv rx ry];rw[Bool.false_xor]at q;exact⟨.bl _,H,I,rfl,q⟩
theorem aeo{X:Cx}{v:V}(hv:v=.non∨∃b,v=.bl b):OpR X (compareOp .IsNot) (aag true v):=by intro pins s σ H x y u w Q I rx ry h;obtain⟨rfl,q⟩:=h;refine wpAny_isNot_plain (Wi hv rx ry) ?_;rw[adu hv rx ry];rw[Bool.true_xor]at q;exact⟨.bl _,H,I,rfl,q⟩
def xK(neg:Bool)(c:Dat)(a:QF):QF:=λM Z=>(a M Z).bind λd=>.ok (.bool (neg ^^ j9 c d))
section
variable{X:Cx}{aj:aR}{W:WX}{a b c:Expr}{fa fb fc:QF}{pos:Pos}
theorem amV{op:CmpOp}{neg:Bool}{d:Dat}{v:V}(hc:scD d=some v)(hr:OpR X (compareOp op) (aag neg v))(ha:QW aj X W a fa)(hb:PE X b (tC v))(hm:behindInMarks op b=false):QE aj X W (.Compare a [op] [b] pos) (xK neg d fa):=
 PE.weak (pe_cmpR hr ha hb hm) λσ H Q ⟨g,Z,M,I,h⟩=>by
  refine tW.go I h.bnd λe x H1 h1 e1 r1=>?_;refine⟨rfl,?_⟩;rw[abj r1 hc];exact h1 _ H1 e1 (.bl _)
end
def Eo:Dat->Bool
 |.none=>true
 |.bool _=>true
 |.int _=>true
 |.str _=>true
 |_=>false
def inB:Dat->Dat->Out Bool
 |d,.list ds=>Out.when (okd 12 d&&lZ 12 ds) (.ok (ds.any λz=>PyData.eqv z d))
 |d,.tuple ds=>Out.when (Eo d&&ds.all Eo) (.ok (ds.any λz=>PyData.eqv z d))
 |.str x,.str z=>match x.cps.toList with
  |[c]=>.ok (decide (c∈z.cps.toList))
  |_=>.bad
 |_,_=>.bad
def inD(neg:Bool)(d e:Dat):Out Dat:=(inB d e).bind λb=>.ok (.bool (neg ^^ b))
section
variable{K:arO}{g:Gh}{H:Hp}
theorem Yp{v:V}{d:Dat}(f:Eo d=true)(h:Rep K g H v d):flatV v=true:=by
 cases h with
 |tup _ _=>cases f
 |lst _ _=>cases f
 |obj _=>cases f
 |_=>rfl
theorem WQ:∀{vs:List V} {ds:List Dat},ds.all Eo=true->aM K g H vs ds->vs.all flatV=true
 |_,_,_,.nil=>rfl
 |_,_,f,.cons h t=>by
  rw[asC,arP]at f;rw[asC,Yp f.1 h,WQ f.2 t];rfl
theorem aiM{v w:V}{d e:Dat}(f1:Eo d=true)(f2:Eo e=true)(h1:Rep K g H v d)(h2:Rep K g H w e):eqV v w=PyData.eqv d e:=by
 cases h1 with
 |tup _ _=>cases f1
 |lst _ _=>cases f1
 |obj _=>cases f1
 |non=>cases h2 with
  |tup _ _=>cases f2
  |lst _ _=>cases f2
  |obj _=>cases f2
  |_=>simp[eqV,PyData.eqv]
 |bl b=>cases h2 with
  |tup _ _=>cases f2
  |lst _ _=>cases f2
  |obj _=>cases f2
  |_=>simp[eqV,PyData.eqv]
 |int b=>cases h2 with
  |tup _ _=>cases f2
  |lst _ _=>cases f2
  |obj _=>cases f2
  |_=>simp[eqV,PyData.eqv]
 |str b=>cases h2 with
  |tup _ _=>cases f2
  |lst _ _=>cases f2
  |obj _=>cases f2
  |_=>simp[eqV,PyData.eqv]
theorem abz{w:V}{e:Dat}(f2:Eo e=true)(h2:Rep K g H w e):∀{vs:List V} {ds:List Dat},ds.all Eo=true->aM K g H vs ds->inV w vs=ds.any λz=>PyData.eqv z e
 |_,_,_,.nil=>rfl
 |v::vs,d::ds,f,.cons h t=>by
  rw[asC,arP]at f;have ih:=abz f2 h2 f.2 t;unfold inV at ih ⊢;rw[as3,as3,ih,aiM f.1 f2 h h2]
theorem abR{v:V}{d:Dat}(f:Eo d=true)(h:dX K g H v d):Rep K g H v d:=by
 cases d with
 |list _=>cases f
 |_=>exact h
end
def Y4(K:arO)(neg:Bool):R2:=λx y H Q=>(∃d ds,Dp K H x d/\Dp K H y (.list ds)/\SeqAt.shaped d=true/\SeqAt.shaped (.list ds)=true/\Q (.bl (neg ^^ (ds.any λz=>PyData.eqv z d))) H)∨
 (∃p xs,y=.ref p/\(SqL K H p xs∨SqT K H p xs)/\flatV x=true/\xs.all flatV=true/\Q (.bl (neg ^^ inV x xs)) H)∨∃(c:Nat) (z:Str),x=.str ⟨#[c]⟩/\y=.str z/\Q (.bl (neg ^^ decide (c∈z.cps.toList))) H
theorem akT{X:Cx}(hu:X.A.units+65 < cLine):OpR X (compareOp .In) (Y4 X.K false):=λpins s σ H x y v u Q I rx ry h=>by
 unfold Y4 at h;simp only[Bool.false_xor]at h;rcases h with⟨d,ds,h⟩|⟨p,xs,h⟩|h
 ·exact op_inD hu pins s σ H x y v u Q I rx ry ⟨d,ds,h⟩
 ·exact op_in_seq pins s σ H x y v u Q I rx ry ⟨p,xs,h⟩
 ·exact op_in_sign pins s σ H x y v u Q I rx ry h
theorem ac0{X:Cx}(hu:X.A.units+65 < cLine):OpR X (compareOp .NotIn) (Y4 X.K true):=λpins s σ H x y v u Q I rx ry h=>by
 unfold Y4 at h;simp only[Bool.true_xor]at h;rcases h with⟨d,ds,h⟩|⟨p,xs,h⟩|h
 ·exact op_notInD hu pins s σ H x y v u Q I rx ry ⟨d,ds,h⟩
 ·exact op_notIn_seq pins s σ H x y v u Q I rx ry ⟨p,xs,h⟩
 ·exact op_notIn_sign pins s σ H x y v u Q I rx ry h
theorem agT{K:arO}{aj:aR}{W:WX}{neg:Bool}:qp aj K W (inD neg) (Y4 K neg):=λσ g H x y d e Q k rx ry h=>by
 replace h:=Out.sat.bnd h
 unfold inB at h;split at h
 ·next ds=>
  obtain⟨hz,h⟩:=h.pJ;rw[arP]at hz;have e2:okd 13 (.list ds)=true:=by rw[okd];exact hz.2
  exact .inl ⟨_,ds,rx.dp hz.1,ry.dp e2,BX hz.1 (by decide),BX e2 (by decide),h _ H (Ex.refl H) (.bl _)⟩
 ·next ds=>
  obtain⟨hz,h⟩:=h.pJ;rw[arP]at hz;obtain⟨p,us,rfl,h1,h2⟩:=lK ry;have rx':=abR hz.1 rx;refine .inr (.inl ⟨p,us,rfl,.inr h1,Yp hz.1 rx',WQ hz.2 h2,?_⟩);rw[abz hz.1 rx' hz.2 h2];exact h _ H (Ex.refl H) (.bl _)
 ·next xs z=>
  split at h
  ·next c e=>
   refine .inr (.inr ⟨c,z,?_,jP ry,h _ H (Ex.refl H) (.bl _)⟩);rw[jP rx];congr 1;have:xs.cps=#[c]:=by apply Array.toList_inj.mp;rw[e]
   cases xs;simp only at this;rw[this]
  ·exact atn h
 ·exact atn h
def Qx:Dat->Out Dat
 |.int i=>.ok (.int (-i))
 |_=>.bad
def IV:Dat->Out Bool
 |.none=>.ok false
 |.bool b=>.ok b
 |.int i=>.ok (i != 0)
 |.str x=>Out.when (decide (x.length<=100000)) (.ok (!x.cps.toList.isEmpty))
 |.list ds=>.ok (!ds.isEmpty)
 |.tuple ds=>.ok (!ds.isEmpty)
 |_=>.bad
def jh(a:QF):QT:=λM Z=>(a M Z).bind IV
def Bx:Dat->Out Bool
 |.bool b=>.ok b
 |_=>.bad
def bh(a:QF):QT:=λM Z=>(a M Z).bind Bx
def jZ(a:QT):QT:=λM Z=>(a M Z).bind λb=>.ok (!b)
def jK(a b:QT):QT:=λM Z=>(a M Z).bind λx=>if x=true then b M Z else .ok false
def JF(a b:QT):QT:=λM Z=>(a M Z).bind λx=>if x=true then .ok true else b M Z
def Tn(a:QT):QF:=λM Z=>(a M Z).bind λb=>.ok (.bool b)
def S7(t:QT)(a b:QF):QF:=λM Z=>(t M Z).bind λx=>if x=true then a M Z else b M Z
theorem Rc{K:arO}{g:Gh}{H:Hp}{us:List V}{ds:List Dat}(h:aM K g H us ds):(!ds.isEmpty)=!us.isEmpty:=by cases h<;>rfl
section
variable{X:Cx}{aj:aR}{W:WX}{a b c:Expr}{fa fb fc:QF}{ta tb:QT}{pos:Pos}
theorem ajv(ha:QW aj X W a fa):QE aj X W (.UnaryOp .USub a pos) (eV Qx fa):=
 PE.weak (pe_un un_neg ha) λσ H Q ⟨g,Z,M,I,h⟩=>by
  refine tW.go I h.bnd λd v H1 h1 e1 r1=>?_;unfold Qx at h1;split at h1
  ·exact⟨_,cG r1,h1 _ H1 e1 (.int _)⟩
  ·exact atn h1
theorem aku{g:Gh}{H:Hp}{v:V}{d:Dat}{P:Bool->Prop}{E:dG->Prop}(r:dX X.K g H v d)(h:(IV d).sat P E):∃k,TruV X.K v H k/\P k:=by
 unfold IV at h;split at h
 ·cases Gi r;exact⟨_,rfl,h⟩
 ·cases Es r;exact⟨_,rfl,h⟩
 ·cases cG r;exact⟨_,rfl,h⟩
 ·next x=>
  obtain⟨hz,h⟩:=h.pJ;cases jP r;refine⟨_,⟨sz_of (atp hz),?_⟩,h⟩;have e:x.length=x.cps.toList.length:=by rw[asB];rfl
  rw[e];cases x.cps.toList with
  |nil=>rfl
  |cons y ys=>
   refine Eq.symm (bne_iff_ne.mpr ?_);simp;omega
 ·obtain⟨p,us,rfl,h1,h2⟩:=gH r;rw[Rc h2]at h;exact⟨_,.inl ⟨us,h1,rfl⟩,h⟩
 ·obtain⟨p,us,rfl,h1,h2⟩:=lK r;rw[Rc h2]at h;exact⟨_,.inr (.inl ⟨us,h1,rfl⟩),h⟩
 ·exact atn h
theorem ajw(ha:QW aj X W a fa)(he:∀whole,isTrue a X.env whole=(do let v ←whole;standAt a.pos;holding [v] (truthy v))):sU aj X W a (jh fa):=
 PT.weak (pt_truth ha he) λσ H Q ⟨g,Z,M,I,h⟩=>by
  refine tW.go I h.bnd λd v H1 h1 e1 r1=>?_;obtain⟨k,h2,h3⟩:=aku r1 h1;exact⟨k,h2,h3 H1 e1⟩
theorem Ez{g:Gh}{H:Hp}{v:V}{d:Dat}{P:Bool->Prop}{E:dG->Prop}(r:dX X.K g H v d)(h:(Bx d).sat P E):∃k,v=.bl k/\P k:=by
 unfold Bx at h;split at h
 ·cases Es r;exact⟨_,rfl,h⟩
 ·exact atn h
theorem akI{op:CmpOp}{r:R2}{o:Dat->Dat->Out Dat}(hr:OpR X (compareOp op) r)(ho:qp aj X.K W o r)(ha:QW aj X W a fa)(hb:QW aj X W b fb)(hm:behindInMarks op b=false):sU aj X W (.Compare a [op] [b] pos) (bh (aA o fa fb)):=
 PT.weak (pt_cmpR hr ha hb hm) λσ H Q ⟨g,Z,M,I,h⟩=>by
  refine S8 ho σ H _ ⟨g,Z,M,I,h.bnd.mono (λd h1 v H' e' r'=>?_) λ_ z=>z⟩;obtain⟨k,h2,h3⟩:=Ez r'.weak h1;exact⟨k,h2,h3 H' e'⟩
theorem al2{op:CmpOp}{neg:Bool}{d:Dat}{v:V}(hc:scD d=some v)(hr:OpR X (compareOp op) (aag neg v))(ha:QW aj X W a fa)(hb:PE X b (tC v))(hm:behindInMarks op b=false):sU aj X W (.Compare a [op] [b] pos) (bh (xK neg d fa)):=
 PT.weak (pt_cmpR hr ha hb hm) λσ H Q ⟨g,Z,M,I,h⟩=>by
  refine tW.go I h.bnd.bnd λe x H1 h1 e1 r1=>?_;refine⟨rfl,_,rfl,?_⟩;rw[abj r1 hc];exact h1 H1 e1
theorem aj0(ha:sU aj X W a ta):sU aj X W (.UnaryOp .Not a pos) (jZ ta):=
 PT.weak (pt_not ha) λσ H Q ⟨g,Z,M,I,h⟩=>j7.go I h.bnd λb H1 h1 e1=>h1 H1 e1
def QWt(aj:aR)(X:Cx)(W:WX)(e:Expr)(f:QT):Prop:=PW X e (j7 X.K aj W f)
theorem PW.weak{X:Cx}{e:Expr}{t t':TT}(h:PW X e t)(k:∀σ H Q,t' σ H Q->t σ H Q):PW X e t':=⟨λwh pins s σ H Q I q=>h.run wh pins s σ H Q I (k σ H Q q)⟩
theorem alr{rest:List Expr}(ha:sU aj X W a ta)(hb:QWt aj X W (.BoolOp .And (b::rest) pos) tb):QWt aj X W (.BoolOp .And (a::b::rest) pos) (jK ta tb):=
 PW.weak (pw_and ha hb) λσ H Q ⟨g,Z,M,I,h⟩=>by
  refine j7.go I h.bnd λx H1 h1 e1=>?_;cases x with
  |true=>exact⟨g,Z,M,I.ex e1,h1.mono (λb k H' e'=>k H' (e1.trans e')) λ_ z=>z.ex e1⟩
  |false=>exact h1 H1 e1
theorem amm{rest:List Expr}(ha:sU aj X W a ta)(hb:QWt aj X W (.BoolOp .Or (b::rest) pos) tb):QWt aj X W (.BoolOp .Or (a::b::rest) pos) (JF ta tb):=
 PW.weak (pw_or ha hb) λσ H Q ⟨g,Z,M,I,h⟩=>by
  refine j7.go I h.bnd λx H1 h1 e1=>?_;cases x with
  |true=>exact h1 H1 e1
  |false=>exact⟨g,Z,M,I.ex e1,h1.mono (λb k H' e'=>k H' (e1.trans e')) λ_ z=>z.ex e1⟩
def Sh(a:QF):QF:=Tn (jZ (bh a))
def yc(a b:QF):QF:=λM Z=>(a M Z).bind λd=>(Bx d).bind λx=>if x=true then b M Z else .ok (.bool false)
def af9(a b:QF):QF:=λM Z=>(a M Z).bind λd=>(Bx d).bind λx=>if x=true then .ok (.bool true) else b M Z
theorem ahA(ha:QW aj X W a fa):QE aj X W (.UnaryOp .Not a pos) (Sh fa):=
 PE.weak (pe_not ha) λσ H Q ⟨g,Z,M,I,h⟩=>by
  refine tW.go I h.bnd.bnd.bnd λd v H1 h1 e1 r1=>?_;obtain⟨k,h2,h3⟩:=Ez r1 h1;exact⟨k,h2,h3 _ H1 e1 (.bl _)⟩
theorem ahU{rest:List Expr}(ha:QE aj X W a fa)(hb:QE aj X W (.BoolOp .And (b::rest) pos) fb):QE aj X W (.BoolOp .And (a::b::rest) pos) (yc fa fb):=
 PE.weak (pe_and ha hb) λσ H Q ⟨g,Z,M,I,h⟩=>by
  refine tQ.go I h.bnd λd v H1 h1 e1 r1=>?_;obtain⟨k,h2,h3⟩:=Ez r1.weak h1.bnd;refine⟨k,h2,?_⟩;cases k with
  |true=>exact⟨g,Z,M,I.ex e1,h3.mono (λb k v' H' e' r'=>k v' H' (e1.trans e') r') λ_ z=>z.ex e1⟩
  |false=>exact h3 _ H1 e1 (.bl false)
theorem ajG{rest:List Expr}(ha:QE aj X W a fa)(hb:QE aj X W (.BoolOp .Or (b::rest) pos) fb):QE aj X W (.BoolOp .Or (a::b::rest) pos) (af9 fa fb):=
 PE.weak (pe_or ha hb) λσ H Q ⟨g,Z,M,I,h⟩=>by
  refine tQ.go I h.bnd λd v H1 h1 e1 r1=>?_;obtain⟨k,h2,h3⟩:=Ez r1.weak h1.bnd;refine⟨k,h2,?_⟩;cases k with
  |false=>exact⟨g,Z,M,I.ex e1,h3.mono (λb k v' H' e' r'=>k v' H' (e1.trans e') r') λ_ z=>z.ex e1⟩
  |true=>exact h3 _ H1 e1 (.bl true)
theorem agb(hc:sU aj X W c ta)(ha:QE aj X W a fa)(hb:QE aj X W b fb):QE aj X W (.IfExp c a b pos) (S7 ta fa fb):=
 PE.weak (pe_ifExp hc ha hb) λσ H Q ⟨g,Z,M,I,h⟩=>by
  refine j7.go I h.bnd λx H1 h1 e1=>?_;cases x with
  |true=>exact⟨g,Z,M,I.ex e1,h1.mono (λb k v' H' e' r'=>k v' H' (e1.trans e') r') λ_ z=>z.ex e1⟩
  |false=>exact⟨g,Z,M,I.ex e1,h1.mono (λb k v' H' e' r'=>k v' H' (e1.trans e') r') λ_ z=>z.ex e1⟩
def lN(o o':Dat->Dat->Out Dat)(a b c:QF):QT:=λM Z=>(a M Z).bind λx=>(b M Z).bind λy=>(o x y).bind λz=>(Bx z).bind λk=>if k=true then(c M Z).bind λw=>(o' y w).bind Bx else .ok false
theorem Zf{r r':R2}{o o':Dat->Dat->Out Dat}(ho:qp aj X.K W o r)(ho':qp aj X.K W o' r'){σ:L2.St}{H:Hp}{Q:VK}{P:Bool->Hp->Prop}(hP:∀k H',P k H'->Q (.bl k) H')(h:j7 X.K aj W (lN o o' fa fb fc) σ H P):tChain r r' (tW X.K aj W fa) (tW X.K aj W fb) (tW X.K aj W fc) σ H Q:=by
 obtain⟨g,Z,M,I,h⟩:=h;refine tW.go I h.bnd λd v H1 h1 e1 r1=>?_;have I1:=I.ex e1;refine tW.go I1 (h1.bnd.mono (λ_ z=>z) λ_ z=>z.ex e1) λd2 v2 H2 h2 e2 r2=>?_;have I2:=I1.ex e2;have r1':=r1.ex e2 I1.kd;refine ho σ g H2 v v2 d d2 _ I2.kd r1' r2 (h2.bnd.mono (λz hz u H3 e3 r3=>?_) λ_ z=>(z.ex e1).ex e2);obtain⟨k,h4,h5⟩:=Ez r3.weak hz.bnd;refine⟨k,h4,?_⟩;have I3:=I2.ex e3;have e13:=(e1.trans e2).trans e3;cases k with
 |false=>exact hP _ _ (h5 H3 e13)
 |true=>
  refine tW.go I3 (h5.bnd.mono (λ_ z=>z) λ_ z=>z.ex e13) λd4 v4 H4 h6 e4 r4=>?_;refine ho' σ g H4 v2 v4 d2 d4 _ (I3.ex e4).kd ((r2.ex e3 I2.kd).ex e4 I3.kd) r4 (h6.bnd.mono (λz hz u H5 e5 r5=>?_) λ_ z=>(z.ex e13).ex e4);obtain⟨k,rfl,h8⟩:=Ez r5.weak hz;exact hP _ _ (h8 H5 ((e13.trans e4).trans e5))
theorem agt{op op':CmpOp}{r r':R2}{o o':Dat->Dat->Out Dat}(hr:OpR X (compareOp op) r)(hr':OpR X (compareOp op') r')(ho:qp aj X.K W o r)(ho':qp aj X.K W o' r')(ha:QW aj X W a fa)(hb:QW aj X W b fb)(hc:QW aj X W c fc)(hm:lastMarks [op,op'] [b,c]=false) :
  sU aj X W (.Compare a [op,op'] [b,c] pos) (lN o o' fa fb fc):=
 PT.weak (pt_chain hr hr' ha hb hc hm) λσ H Q h=>Zf ho ho' (λk H' z=>⟨k,rfl,z⟩) h
theorem agr{op op':CmpOp}{r r':R2}{o o':Dat->Dat->Out Dat}(hr:OpR X (compareOp op) r)(hr':OpR X (compareOp op') r')(ho:qp aj X.K W o r)(ho':qp aj X.K W o' r')(ha:QW aj X W a fa)(hb:QW aj X W b fb)(hc:QW aj X W c fc)(hm:lastMarks [op,op'] [b,c]=false) :
  QE aj X W (.Compare a [op,op'] [b,c] pos) (Tn (lN o o' fa fb fc)):=
 PE.weak (pe_chain hr hr' ha hb hc hm) λσ H Q ⟨g,Z,M,I,h⟩=>Zf (P:=λb H1=>Q (.bl b) H1) ho ho' (λk H' z=>z) ⟨g,Z,M,I,h.bnd.mono (λb h1 H' e'=>h1 _ H' e' (.bl b)) λ_ z=>z⟩
end
def aP:Dat->Dat->Out Dat
 |.list ds,.int i=>match atI ds i with
  |some d=>.ok d
  |none=>.bad
 |.tuple ds,.int i=>match atI ds i with
  |some d=>.ok d
  |none=>.bad
 |.str z,.int i=>Out.when (decide (z.length<=100000)) (match atI z.cps.toList i with
  |some c=>.ok (.str ⟨#[c]⟩)
  |none=>.bad)
 |_,_=>.bad
theorem abS{K:arO}{g:Gh}{H:Hp}{us:List V}{ds:List Dat}{i:Int}{d:Dat}(h:aM K g H us ds)(e:atI ds i=some d):∃v,atI us i=some v/\Rep K g H v d:=by
 unfold atI at e ⊢;rw[h.length];cases hj:ixN ds.length i with
 |none=>rw[hj]at e;cases e
 |some j=>
  rw[hj]at e;obtain⟨v,h1,h2⟩:=h.get (i:=j) e;exact⟨v,h1,h2⟩
def akt(K:arO):R2:=λx y H Q=>rIxL K x y H Q∨rIxT K x y H Q∨rIxS x y H Q
theorem anL{X:Cx}:IxR X (akt X.K):=λvalue slice pins s σ H x y v u Q I rx ry h hs=>by
 rcases h with h|h|h
 ·exact ix_list value slice pins s σ H x y v u Q I rx ry h hs
 ·exact ix_tup value slice pins s σ H x y v u Q I rx ry h hs
 ·exact ix_str value slice pins s σ H x y v u Q I rx ry h hs
theorem amb{K:arO}{aj:aR}{W:WX}:qp aj K W aP (akt K):=λσ g H x y d e Q k rx ry h=>by
 unfold aP at h;split at h
 ·split at h
  ·next z hz=>
   obtain⟨p,us,rfl,h1,h2⟩:=gH rx;obtain⟨v,h3,h4⟩:=abS h2 hz;exact .inl ⟨p,us,_,v,rfl,cG ry,h1,h3,h v H (Ex.refl H) h4⟩
  ·exact atn h
 ·split at h
  ·next z hz=>
   obtain⟨p,us,rfl,h1,h2⟩:=lK rx;obtain⟨v,h3,h4⟩:=abS h2 hz;exact .inr (.inl ⟨p,us,_,v,rfl,cG ry,h1,h3,h v H (Ex.refl H) h4⟩)
  ·exact atn h
 ·obtain⟨hl,h⟩:=h.pJ;split at h
  ·next c hz=>exact .inr (.inr ⟨_,_,c,jP rx,cG ry,sz_of (atp hl),hz,h _ H (Ex.refl H) (.str _)⟩)
  ·exact atn h
 ·exact atn h
def cutD{α:Type}(xs:List α)(lo hi:Option Int):List α:=(xs.drop (HT.sIx xs.length 0 lo)).take (HT.sIx xs.length xs.length hi - HT.sIx xs.length 0 lo)
abbrev QO:=Mo->Env->Out (Option Int)
def Ah:QO:=λ_ _=>.ok none
def Bj:Dat->Out Int
 |.int i=>.ok i
 |_=>.bad
def rC(a:QF):QO:=λM Z=>(a M Z).bind λd=>(Bj d).bind λi=>.ok (some i)
def slD(d:Dat)(lo hi:Option Int):Out Dat:=
 match d with
 |.list ds=>.ok (.list (cutD ds lo hi))
 |.tuple ds=>.ok (.tuple (cutD ds lo hi))
 |.str z=>Out.when (decide (z.length<=100000)) (.ok (.str (cutS z lo hi)))
 |_=>.bad
def OJ(a:QF)(lo hi:QO):QF:=λM Z=>(a M Z).bind λd=>(lo M Z).bind λl=>(hi M Z).bind λh=>slD d l h
def tQO(K:arO)(aj:aR)(W:WX)(f:QO):TO:=λσ H Q=>∃g Z M,SInv K aj σ H g Z M/\(f M Z).sat (λo=>∀H',Ex H H'->Q o H') (rG K aj W g H σ)
def QOe(aj:aR)(X:Cx)(W:WX)(e:Option Expr)(f:QO):Prop:=PO X e (tQO X.K aj W f)
def akj(K:arO):V->Option Int->Option Int->Hp->VK->Prop:=λx lo hi H Q=>rSlL K x lo hi H Q∨rSlA K x lo hi H Q∨rSlS x lo hi H Q
theorem anN{X:Cx}:SlR X (akj X.K):=λpins s σ H x v vl vu lo hi sl Q I rx hs pl pu h=>by
 rcases h with h|h|h
 ·exact sl_list pins s σ H x v vl vu lo hi sl Q I rx hs pl pu h
 ·exact sl_tupA pins s σ H x v vl vu lo hi sl Q I rx hs pl pu h
 ·exact sl_str pins s σ H x v vl vu lo hi sl Q I rx hs pl pu h
theorem alV{K:arO}{g:Gh}{H:Hp}{x:V}{d:Dat}{lo hi:Option Int}{Q:VK}{E:dG->Prop}(k:Kd g H)(rx:dX K g H x d)(h:(slD d lo hi).sat (λz=>∀v H',Ex H H'->Rep K g H' v z->Q v H') E):akj K x lo hi H Q:=by
 unfold slD at h;have hc:∀{us:List V} {ds:List Dat},aM K g H us ds->aM K g H (cutV us lo hi) (cutD ds lo hi):=λ{us ds} t=>by
  unfold cutV cutD;rw[t.length];exact(t.drop _).take _
 split at h
 ·obtain⟨p,us,rfl,h1,h2⟩:=gH rx;exact .inl ⟨p,us,rfl,h1,λq nq=>h _ _ (Ex.new nq) (.lst (.inl ⟨.inl upd_same,k.fresh nq⟩) ((hc h2).ex (Ex.new nq) k))⟩
 ·next ds=>
  obtain⟨p,us,rfl,h1,h2⟩:=lK rx;refine .inr (.inl ⟨p,us,rfl,h1,λz=>?_,λ_ q nq=>h _ _ (Ex.new nq) (.tup (st_of upd_same) ((hc h2).ex (Ex.new nq) k))⟩);have e:cutD ds lo hi=ds:=by unfold cutD;rw[←h2.length,z.1,z.2,h2.length];simp
  rw[e]at h;exact h _ H (Ex.refl H) (.tup h1 h2)
 ·obtain⟨hz,h⟩:=h.pJ;exact .inr (.inr ⟨_,jP rx,sz_of (atp hz),h _ H (Ex.refl H) (.str _)⟩)
 ·exact atn h
section
variable{X:Cx}{aj:aR}{W:WX}{a b:Expr}{fa fb:QF}{pos p2:Pos}
theorem amH(ha:QW aj X W a fa)(hb:QW aj X W b fb)(hs:PlainIx b):QE aj X W (.Subscript a b pos) (aA aP fa fb):=
 PE.weak (pe_ix anL ha hb hs) λσ H Q h=>S8 amb σ H Q h
theorem PO.weak{X:Cx}{e:Option Expr}{t t':TO}(h:PO X e t)(k:∀σ H Q,t' σ H Q->t σ H Q):PO X e t':=⟨λpins s σ H Q I q=>h.run pins s σ H Q I (k σ H Q q)⟩
theorem aho:QOe aj X W none Ah:=PO.weak po_none λσ H Q ⟨g,Z,M,I,h⟩=>h H (Ex.refl H)
theorem aik(ha:QW aj X W a fa):QOe aj X W (some a) (rC fa):=PO.weak (po_some ha) λσ H Q ⟨g,Z,M,I,h⟩=>by
 refine tW.go I h.bnd λd v H1 h1 e1 r1=>?_;have h1:=h1.bnd;unfold Bj at h1;split at h1
 ·exact⟨_,cG r1,h1 H1 e1⟩
 ·exact atn h1
theorem ame{lo hi:Option Expr}{fl fh:QO}(ha:QW aj X W a fa)(hl:QOe aj X W lo fl)(hh:QOe aj X W hi fh):QE aj X W (.Subscript a (.Slice lo hi none p2) pos) (OJ fa fl fh):=
 PE.weak (pe_slice anN ha hl hh) λσ H Q ⟨g,Z,M,I,h⟩=>by
  refine tW.go I h.bnd λd v H1 h1 e1 r1=>?_;have I1:=I.ex e1;refine⟨g,Z,M,I1,h1.bnd.mono (λl h2 H2 e2=>?_) λ_ z=>z.ex e1⟩;have I2:=I1.ex e2;refine⟨g,Z,M,I2,h2.bnd.mono (λu h3 H3 e3=>?_) λ_ z=>(z.ex e1).ex e2⟩;exact alV (I2.ex e3).kd ((r1.ex e2 I1.kd).ex e3 I2.kd) (h3.mono (λz hz v' H' e' r'=>hz v' H' (((e1.trans e2).trans e3).trans e') r') λ_ z=>z)
end
def JM(aj:aR)(K:arO)(W:WX)(o:Dat->Out Dat)(r:List V->Hp->VK->Prop):Prop:=∀(σ:L2.St) (g:Gh) (H:Hp) (x:V) (d:Dat) (Q:VK),Kd g H->dX K g H x d->
 (o d).sat (λz=>∀v H',Ex H H'->Rep K g H' v z->Q v H') (rG K aj W g H σ)->r [x] H Q
def Fn2(aj:aR)(K:arO)(W:WX)(o:Dat->Dat->Out Dat)(r:List V->Hp->VK->Prop):Prop:=∀(σ:L2.St) (g:Gh) (H:Hp) (x y:V) (d e:Dat) (Q:VK),Kd g H->dX K g H x d->dX K g H y e->
 (o d e).sat (λz=>∀v H',Ex H H'->Rep K g H' v z->Q v H') (rG K aj W g H σ)->r [x,y] H Q
def BV(f:Value)(x:Str):Prop:=bootBuiltins x=some f/\x≠"__name__"/\(x==("__debug__" : Str))=false
def nst:Expr->Bool
 |.Starred _ _=>false
 |_=>true
section
variable{X:Cx}{aj:aR}{W:WX}{a b c:Expr}{fa fb fc:QF}{pos p:Pos}{x:Str}
theorem cJ{env:PySem.Env}{a:Expr}(h:nst a=true)(es:List Expr):starEach (a::es) env=(false,eval a env)::starEach es env:=by cases a<;>first | rfl | cases h
theorem star_any{env:PySem.Env}{pos:Pos}:∀(es:List Expr),es.all nst=true->(backTo pos (starEach es env)).any (·.1)=false
 |[],_=>by with_unfolding_all rfl
 |a::es,h=>by
  rw[asC,arP]at h;rw[cJ h.1];have ih:=star_any (env:=env) (pos:=pos) es h.2;unfold backTo at ih ⊢;rw[arT,as3,ih];rfl
theorem ag3{f:Value}{id:String}{r:List V->Hp->VK->Prop}{o:Dat->Out Dat}(hf:f=.builtin id∨f=.type id)(hc:CallR X f r)(ho:JM aj X.K W o r)(hg:Gl X x)(hm:X.mg x=none)(hv:BV f x)(ha:QW aj X W a fa)(hs:nst a=true):QE aj X W (.Call (.Name x p) [a] [] pos) (eV o fa):=by
 have h1:=pa_cons ha pa_nil (cJ hs []);have key:PE X (.Call (.Name x p) [a] [] pos) (tCB r (tCons (tW X.K aj W fa) tNil)):=by
  rcases hf with rfl|rfl
  ·exact pe_callB hc hg hm hv.1 h1 hv.2.1 hv.2.2 (cJ hs []) (by with_unfolding_all rfl)
  ·exact pe_callTy hc hg hm hv.1 h1 hv.2.1 hv.2.2 (cJ hs []) (by with_unfolding_all rfl)
 refine PE.weak key λσ H Q ⟨g,Z,M,I,h⟩=>?_;refine tW.go I h.bnd λd v H1 h1 e1 r1=>?_;exact ho σ g H1 v d Q (I.kd.ex e1) r1 (h1.mono (λz hz u H' e' r'=>hz u H' (e1.trans e') r') λ_ z=>z.ex e1)
theorem amy{f:Value}{id:String}{r:List V->Hp->VK->Prop}{o:Dat->Dat->Out Dat}(hf:f=.builtin id∨f=.type id)(hc:CallR X f r)(ho:Fn2 aj X.K W o r)(hg:Gl X x)(hm:X.mg x=none)(hv:BV f x)(ha:QW aj X W a fa)(hb:QW aj X W b fb)(hs:nst a=true)(hs2:nst b=true):QE aj X W (.Call (.Name x p) [a,b] [] pos) (aA o fa fb):=by
 have h1:=pa_cons ha (pa_cons hb pa_nil (cJ hs2 [])) (cJ hs [b]);have key:PE X (.Call (.Name x p) [a,b] [] pos) (tCB r (tCons (tW X.K aj W fa) (tCons (tW X.K aj W fb) tNil))):=by
  rcases hf with rfl|rfl
  ·exact pe_callB hc hg hm hv.1 h1 hv.2.1 hv.2.2 (cJ hs [b]) (star_any [b] (by simp[hs2]))
  ·exact pe_callTy hc hg hm hv.1 h1 hv.2.1 hv.2.2 (cJ hs [b]) (star_any [b] (by simp[hs2]))
 refine PE.weak key λσ H Q ⟨g,Z,M,I,h⟩=>?_;refine tW.go I h.bnd λd v H1 h1 e1 r1=>?_;have I1:=I.ex e1;refine tW.go I1 (h1.bnd.mono (λ_ z=>z) λ_ z=>z.ex e1) λd2 v2 H2 h2 e2 r2=>?_;exact ho σ g H2 v v2 d d2 Q (I1.ex e2).kd (r1.ex e2 I1.kd) r2 (h2.mono (λz hz u H' e' r'=>hz u H' ((e1.trans e2).trans e') r') λ_ z=>(z.ex e1).ex e2)
end
def oZ:Dat->Out Dat
 |.list ds=>.ok (.int ds.length)
 |.tuple ds=>.ok (.int ds.length)
 |.str x=>Out.when (decide (x.length<=100000)) (.ok (.int x.length))
 |_=>.bad
def T8:Dat->Out Dat
 |.int i=>.ok (.int (if i < 0 then -i else i))
 |_=>.bad
def qL:Dat->Dat->Out Dat
 |.int i,.int j=>.ok (.int (if j > i then j else i))
 |_,_=>.bad
def Il:Dat->Dat->Out Dat
 |.int i,.int j=>.ok (.int (if j < i then j else i))
 |_,_=>.bad
def intsOf:List Dat->Option (List Int)
 |[]=>some []
 |.int i::r=>(intsOf r).map (i::·)
 |_::_=>none
def uE:List Dat->Option (List Bool)
 |[]=>some []
 |.bool i::r=>(uE r).map (i::·)
 |_::_=>none
theorem xU{K:arO}{g:Gh}{H:Hp}:∀{us:List V} {ds:List Dat} {ns:List Int},aM K g H us ds->intsOf ds=some ns->us=ns.map V.int
 |_,_,ns,.nil,e=>by cases e;rfl
 |_,_,ns,.cons (d:=d) (ds:=ds) h t,e=>by
  cases d with
  |int i=>
   rw[intsOf]at e;cases hr:intsOf ds with
   |none=>rw[hr]at e;cases e
   |some r=>
    rw[hr]at e;cases e;cases h;rw[xU t hr];rfl
  |_=>cases e
theorem KQ{K:arO}{g:Gh}{H:Hp}:∀{us:List V} {ds:List Dat} {ns:List Bool},aM K g H us ds->uE ds=some ns->us=ns.map V.bl
 |_,_,ns,.nil,e=>by cases e;rfl
 |_,_,ns,.cons (d:=d) (ds:=ds) h t,e=>by
  cases d with
  |bool i=>
   rw[uE]at e;cases hr:uE ds with
   |none=>rw[hr]at e;cases e
   |some r=>
    rw[hr]at e;cases e;cases h;rw[KQ t hr];rfl
  |_=>cases e
@[simp]theorem xV (ns:List Int):intsOf (ns.map PyData.int)=some ns:=by
 induction ns with
 |nil=>rfl
 |cons n ns ih=>rw[arT,intsOf,ih];rfl
@[simp]theorem Em (ns:List Bool):uE (ns.map PyData.bool)=some ns:=by
 induction ns with
 |nil=>rfl
 |cons n ns ih=>rw[arT,uE,ih];rfl
def Vd:Dat->Out Dat
 |.list ds=>match intsOf ds with
  |some ns=>.ok (.int ns.sum)
  |none=>.bad
 |_=>.bad
def Fx:Int->List Int->Int
 |m,[]=>m
 |m,n::ns=>Fx (if n > m then n else m) ns
theorem Ed:∀(ns:List Int) (m:Int),(Fx m ns∈m::ns)/\∀y∈m::ns,y<=Fx m ns
 |[],m=>⟨by simp[Fx],λy h=>by simp at h;subst h;exact Int.le_refl _⟩
 |n::ns,m=>by
  obtain⟨h1,h2⟩:=Ed ns (if n > m then n else m);have hm:m<=(if n > m then n else m):=by split<;>omega
  have hn:n<=(if n > m then n else m):=by split<;>omega
  have h3:=h2 _ arU;refine⟨?_,λy hy=>?_⟩
  ·show Fx (if n > m then n else m) ns∈_;rcases ar4.mp h1 with e|e
   ·rw[e];split
    ·exact arS _ arU
    ·exact arU
   ·exact arS _ (arS _ e)
  ·show y<=Fx (if n > m then n else m) ns;rcases ar4.mp hy with e|hy
   ·omega
   ·rcases ar4.mp hy with e|hy
    ·omega
    ·exact h2 y (arS _ hy)
def maxD:Dat->Out Dat
 |.list ds=>match intsOf ds with
  |some (n::ns)=>.ok (.int (Fx n ns))
  |_=>.bad
 |_=>.bad
def Qn:Dat->Out Dat
 |.list ds=>match uE ds with
  |some bs=>.ok (.bool (bs.all id))
  |none=>.bad
 |_=>.bad
def Py:Dat->Out Dat
 |.list ds=>match uE ds with
  |some bs=>.ok (.bool (bs.any id))
  |none=>.bad
 |_=>.bad
def m7:Dat->Out Dat
 |.list ds=>.ok (.tuple ds)
 |.tuple ds=>.ok (.tuple ds)
 |_=>.bad
def N5:Dat->Out Dat
 |.list ds=>.ok (.list ds)
 |.tuple ds=>.ok (.list ds)
 |_=>.bad
def intD:Dat->Out Dat
 |.int i=>.ok (.int i)
 |.bool k=>.ok (.int (if k then 1 else 0))
 |.str x=>Out.when (decide (x.length<=640)) (match PySem.intText? x with
  |some n=>.ok (.int n)
  |none=>.bad)
 |_=>.bad
def agV(K:arO):List V->Hp->VK->Prop:=λxs H Q=>(∃p ys,xs=[.ref p]/\(SqL K H p ys∨SqT K H p ys)/\Q (.int ys.length) H)∨∃z,xs=[.str z]/\z.length<=sizeLine/\Q (.int z.length) H
theorem ajC{X:Cx}:CallR X (.builtin "len") (agV X.K):=λpins s σ H xs us Q I r h=>h.elim (λh=>call_len_seq pins s σ H xs us Q I r h) λh=>call_len_str pins s σ H xs us Q I r h
def agS:List V->Hp->VK->Prop:=λxs H Q=>((∃i,xs=[.int i]/\Q (.int i) H)∨∃k,xs=[.bl k]/\Q (.int (if k then 1 else 0)) H)∨∃a n,xs=[.str a]/\PySem.intText? a=some n/\a.length<=640/\Q (.int n) H
theorem aly{X:Cx}:CallR X (.type "int") agS:=λpins s σ H xs us Q I r h=>h.elim (λh=>call_int1 pins s σ H xs us Q I r h) λh=>call_int_str pins s σ H xs us Q I r h
section
variable{K:arO}{aj:aR}{W:WX}
theorem ajF:JM aj K W oZ (agV K):=λσ g H x d Q k rx h=>by
 unfold oZ at h;split at h
 ·obtain⟨p,us,rfl,h1,h2⟩:=gH rx;rw[←h2.length]at h;exact .inl ⟨p,us,rfl,.inl h1,h _ H (Ex.refl H) (.int _)⟩
 ·obtain⟨p,us,rfl,h1,h2⟩:=lK rx;rw[←h2.length]at h;exact .inl ⟨p,us,rfl,.inr h1,h _ H (Ex.refl H) (.int _)⟩
 ·obtain⟨hz,h⟩:=h.pJ;cases jP rx;exact .inr ⟨_,rfl,sz_of (atp hz),h _ H (Ex.refl H) (.int _)⟩
 ·exact atn h
theorem ai2:JM aj K W T8 (λxs H Q=>∃i,xs=[.int i]/\Q (.int (if i < 0 then -i else i)) H):=λσ g H x d Q k rx h=>by
 unfold T8 at h;split at h
 ·cases cG rx;exact⟨_,rfl,h _ H (Ex.refl H) (.int _)⟩
 ·exact atn h
theorem aiP:Fn2 aj K W qL (λxs H Q=>∃i j,xs=[.int i,.int j]/\Q (.int (if j > i then j else i)) H):=λσ g H x y d e Q k rx ry h=>by
 unfold qL at h;split at h
 ·cases cG rx;cases cG ry;exact⟨_,_,rfl,h _ H (Ex.refl H) (.int _)⟩
 ·exact atn h
theorem ahl:Fn2 aj K W Il (λxs H Q=>∃i j,xs=[.int i,.int j]/\Q (.int (if j < i then j else i)) H):=λσ g H x y d e Q k rx ry h=>by
 unfold Il at h;split at h
 ·cases cG rx;cases cG ry;exact⟨_,_,rfl,h _ H (Ex.refl H) (.int _)⟩
 ·exact atn h
theorem ak7:JM aj K W Vd (rSum K):=λσ g H x d Q k rx h=>by
 unfold Vd at h;split at h
 ·split at h
  ·next ns e=>
   obtain⟨p,us,rfl,h1,h2⟩:=gH rx;have:=xU h2 e;subst this;exact⟨p,ns,rfl,h1,h _ H (Ex.refl H) (.int _)⟩
  ·exact atn h
 ·exact atn h
theorem ak0:JM aj K W maxD (rMax K):=λσ g H x d Q k rx h=>by
 unfold maxD at h;split at h
 ·split at h
  ·next n ns e=>
   obtain⟨p,us,rfl,h1,h2⟩:=gH rx;have:=xU h2 e;subst this;obtain⟨m1,m2⟩:=Ed ns n;refine⟨p,n::ns,rfl,h1,by simp,λm hm hy=>?_⟩;have e2:m=Fx n ns:=Int.le_antisymm (m2 m hm) (hy _ m1);rw[e2];exact h _ H (Ex.refl H) (.int _)
  ·exact atn h
 ·exact atn h
theorem alg:JM aj K W Qn (rAll K):=λσ g H x d Q k rx h=>by
 unfold Qn at h;split at h
 ·split at h
  ·next ns e=>
   obtain⟨p,us,rfl,h1,h2⟩:=gH rx;have:=KQ h2 e;subst this;exact⟨p,ns,rfl,h1,h _ H (Ex.refl H) (.bl _)⟩
  ·exact atn h
 ·exact atn h
theorem ak6:JM aj K W Py (rAny K):=λσ g H x d Q k rx h=>by
 unfold Py at h;split at h
 ·split at h
  ·next ns e=>
   obtain⟨p,us,rfl,h1,h2⟩:=gH rx;have:=KQ h2 e;subst this;exact⟨p,ns,rfl,h1,h _ H (Ex.refl H) (.bl _)⟩
  ·exact atn h
 ·exact atn h
theorem afP:JM aj K W m7 (λxs H Q=>∃p ys,xs=[.ref p]/\((SqL K H p ys/\∀l,H l=none->Q (.ref l) (upd H l (.tup ys)))∨(SqT K H p ys/\Q (.ref p) H))):=λσ g H x d Q k rx h=>by
 unfold m7 at h;split at h
 ·obtain⟨p,us,rfl,h1,h2⟩:=gH rx;exact⟨p,us,rfl,.inl ⟨h1,λl nl=>h _ _ (Ex.new nl) (.tup (st_of upd_same) (h2.ex (Ex.new nl) k))⟩⟩
 ·obtain⟨p,us,rfl,h1,h2⟩:=lK rx;exact⟨p,us,rfl,.inr ⟨h1,h _ H (Ex.refl H) (.tup h1 h2)⟩⟩
 ·exact atn h
theorem ahj:JM aj K W N5 (λxs H Q=>∃p ys,xs=[.ref p]/\(SqL K H p ys∨SqT K H p ys)/\∀l,H l=none->Q (.ref l) (upd H l (.lst ys))):=λσ g H x d Q k rx h=>by
 unfold N5 at h;split at h
 ·obtain⟨p,us,rfl,h1,h2⟩:=gH rx;exact⟨p,us,rfl,.inl h1,λl nl=>h _ _ (Ex.new nl) (.lst (.inl ⟨.inl upd_same,k.fresh nl⟩) (h2.ex (Ex.new nl) k))⟩
 ·obtain⟨p,us,rfl,h1,h2⟩:=lK rx;exact⟨p,us,rfl,.inr h1,λl nl=>h _ _ (Ex.new nl) (.lst (.inl ⟨.inl upd_same,k.fresh nl⟩) (h2.ex (Ex.new nl) k))⟩
 ·exact atn h
theorem aj6:JM aj K W intD agS:=λσ g H x d Q k rx h=>by
 unfold intD at h;split at h
 ·cases cG rx;exact .inl (.inl ⟨_,rfl,h _ H (Ex.refl H) (.int _)⟩)
 ·cases Es rx;exact .inl (.inr ⟨_,rfl,h _ H (Ex.refl H) (.int _)⟩)
 ·obtain⟨hz,h⟩:=h.pJ;split at h
  ·next n e=>
   cases jP rx;exact .inr ⟨_,n,rfl,e,atp hz,h _ H (Ex.refl H) (.int _)⟩
  ·exact atn h
 ·exact atn h
end
inductive Ol where
 |int|bool|str|tuple|list
def Ol.name:Ol->String
 |.int=>"int"
 |.bool=>"bool"
 |.str=>"str"
 |.tuple=>"tuple"
 |.list=>"list"
def Bl(t:Ol):Dat->Option Bool
 |.none=>some false
 |.int _=>some (match t with
  |.int=>true
  |_=>false)
 |.bool _=>some (match t with
  |.int=>true
  |.bool=>true
  |_=>false)
 |.str _=>some (match t with
  |.str=>true
  |_=>false)
 |.tuple _=>some (match t with
  |.tuple=>true
  |_=>false)
 |.list _=>some (match t with
  |.list=>true
  |_=>false)
 |.dict _=>none
def yO(t:Ol)(d:Dat):Out Dat:=match Bl t d with
 |some b=>.ok (.bool b)
 |none=>.bad
def ajZ:Dat->String
 |.none=>"NoneType"
 |.int _=>"int"
 |.bool _=>"bool"
 |.str _=>"str"
 |.tuple _=>"tuple"
 |.list _=>"list"
 |.dict _=>"dict"
theorem ale{K:arO}{H:Hp}{a:Addr}{xs:List V}(h:SqL K H a xs):TyX K H (.ref a) (.type "list"):=by
 rcases h with(h|⟨o,h⟩)|⟨o,its,n,h1,h2,_⟩
 ·exact .base (.lst h)
 ·exact .base (.frz h)
 ·exact .kList h1 h2
theorem akn{K:arO}{H:Hp}{a:Addr}{xs:List V}(h:SqT K H a xs):TyX K H (.ref a) (.type "tuple"):=by
 rcases h with(h|⟨o,h⟩)|⟨o,its,n,h1,h2,_⟩
 ·exact .base (.tup h)
 ·exact .fTuple h
 ·exact .kTuple h1 h2
theorem aml{K:arO}{g:Gh}{H:Hp}{x:V}{d:Dat}(h:dX K g H x d)(hd:∀kv,d≠.dict kv):TyX K H x (.type (ajZ d)):=by
 cases d with
 |none=>cases Gi h;exact .base .non
 |bool b=>cases Es h;exact .base (.bl _)
 |int b=>cases cG h;exact .base (.int _)
 |str b=>cases jP h;exact .base (.str _)
 |list b=>obtain⟨a,us,rfl,h1,_⟩:=gH h;exact ale h1
 |tuple b=>obtain⟨a,us,rfl,h1,_⟩:=lK h;exact akn h1
 |dict kv=>exact absurd rfl (hd kv)
theorem aaG{K:arO}:PySem.W.kitOne K (.type "int") (.type "int")=some true:=kit_ty (by decide +kernel)
theorem Zy{K:arO}:PySem.W.kitOne K (.type "int") (.type "bool")=some false:=kit_ty (by decide +kernel)
theorem aaB{K:arO}:PySem.W.kitOne K (.type "int") (.type "str")=some false:=kit_ty (by decide +kernel)
theorem Xr{K:arO}:PySem.W.kitOne K (.type "int") (.type "tuple")=some false:=kit_ty (by decide +kernel)
theorem Yh{K:arO}:PySem.W.kitOne K (.type "int") (.type "list")=some false:=kit_ty (by decide +kernel)
theorem Yw{K:arO}:PySem.W.kitOne K (.type "bool") (.type "int")=some true:=kit_ty (by decide +kernel)
theorem Xe{K:arO}:PySem.W.kitOne K (.type "bool") (.type "bool")=some true:=kit_ty (by decide +kernel)
theorem ZC{K:arO}:PySem.W.kitOne K (.type "bool") (.type "str")=some false:=kit_ty (by decide +kernel)
theorem Vw{K:arO}:PySem.W.kitOne K (.type "bool") (.type "tuple")=some false:=kit_ty (by decide +kernel)
theorem Xw{K:arO}:PySem.W.kitOne K (.type "bool") (.type "list")=some false:=kit_ty (by decide +kernel)
theorem aaD{K:arO}:PySem.W.kitOne K (.type "str") (.type "int")=some false:=kit_ty (by decide +kernel)
theorem aat{K:arO}:PySem.W.kitOne K (.type "str") (.type "bool")=some false:=kit_ty (by decide +kernel)
theorem aaS{K:arO}:PySem.W.kitOne K (.type "str") (.type "str")=some true:=kit_ty (by decide +kernel)
theorem Xc{K:arO}:PySem.W.kitOne K (.type "str") (.type "tuple")=some false:=kit_ty (by decide +kernel)
theorem Z4{K:arO}:PySem.W.kitOne K (.type "str") (.type "list")=some false:=kit_ty (by decide +kernel)
theorem Xx{K:arO}:PySem.W.kitOne K (.type "tuple") (.type "int")=some false:=kit_ty (by decide +kernel)
theorem Ub{K:arO}:PySem.W.kitOne K (.type "tuple") (.type "bool")=some false:=kit_ty (by decide +kernel)
theorem Xq{K:arO}:PySem.W.kitOne K (.type "tuple") (.type "str")=some false:=kit_ty (by decide +kernel)
theorem RX{K:arO}:PySem.W.kitOne K (.type "tuple") (.type "tuple")=some true:=kit_ty (by decide +kernel)
theorem TQ{K:arO}:PySem.W.kitOne K (.type "tuple") (.type "list")=some false:=kit_ty (by decide +kernel)
theorem Yk{K:arO}:PySem.W.kitOne K (.type "list") (.type "int")=some false:=kit_ty (by decide +kernel)
theorem Xo{K:arO}:PySem.W.kitOne K (.type "list") (.type "bool")=some false:=kit_ty (by decide +kernel)
theorem Yj{K:arO}:PySem.W.kitOne K (.type "list") (.type "str")=some false:=kit_ty (by decide +kernel)
theorem U6{K:arO}:PySem.W.kitOne K (.type "list") (.type "tuple")=some false:=kit_ty (by decide +kernel)
theorem Xp{K:arO}:PySem.W.kitOne K (.type "list") (.type "list")=some true:=kit_ty (by decide +kernel)
theorem O6{K:arO}:PySem.W.kitOne K (.type "NoneType") (.type "int")=some false:=kit_ty (by decide +kernel)
theorem Og{K:arO}:PySem.W.kitOne K (.type "NoneType") (.type "bool")=some false:=kit_ty (by decide +kernel)
theorem Qa{K:arO}:PySem.W.kitOne K (.type "NoneType") (.type "str")=some false:=kit_ty (by decide +kernel)
theorem K9{K:arO}:PySem.W.kitOne K (.type "NoneType") (.type "tuple")=some false:=kit_ty (by decide +kernel)
theorem Oe{K:arO}:PySem.W.kitOne K (.type "NoneType") (.type "list")=some false:=kit_ty (by decide +kernel)
theorem ahq{K:arO}{t:Ol}{d:Dat}{b:Bool}(h:Bl t d=some b):PySem.W.kitOne K (.type (ajZ d)) (.type t.name)=some b/\∀kv,d≠.dict kv:=by
 cases d with
 |dict kv=>cases h
 |none=>
  refine⟨?_,λ_ z=>nomatch z⟩;cases t<;>cases h
  ·exact O6
  ·exact Og
  ·exact Qa
  ·exact K9
  ·exact Oe
 |bool x=>
  refine⟨?_,λ_ z=>nomatch z⟩;cases t<;>cases h
  ·exact Yw
  ·exact Xe
  ·exact ZC
  ·exact Vw
  ·exact Xw
 |int x=>
  refine⟨?_,λ_ z=>nomatch z⟩;cases t<;>cases h
  ·exact aaG
  ·exact Zy
  ·exact aaB
  ·exact Xr
  ·exact Yh
 |str x=>
  refine⟨?_,λ_ z=>nomatch z⟩;cases t<;>cases h
  ·exact aaD
  ·exact aat
  ·exact aaS
  ·exact Xc
  ·exact Z4
 |list x=>
  refine⟨?_,λ_ z=>nomatch z⟩;cases t<;>cases h
  ·exact Yk
  ·exact Xo
  ·exact Yj
  ·exact U6
  ·exact Xp
 |tuple x=>
  refine⟨?_,λ_ z=>nomatch z⟩;cases t<;>cases h
  ·exact Xx
  ·exact Ub
  ·exact Xq
  ·exact RX
  ·exact TQ
def yg(t:Ol)(a:QF):QF:=eV (yO t) a
section
variable{X:Cx}{aj:aR}{W:WX}{a b:Expr}{fa:QF}{pos p p2:Pos}{x y:Str}
theorem ajB{t:Ol}(hg:Gl X x)(hm:X.mg x=none)(hv:BV (.builtin "isinstance") x)(hg2:Gl X y)(hm2:X.mg y=none)(hv2:BV (.type t.name) y)(ha:QW aj X W a fa)(hs:nst a=true):QE aj X W (.Call (.Name x p) [a,.Name y p2] [] pos) (yg t fa):=by
 have hb:PE X (.Name y p2) (tC (.ty t.name)):=pe_bltn hg2 hm2 hv2.1 rfl hv2.2.1 hv2.2.2;have h1:=pa_cons ha (pa_cons hb pa_nil (cJ (a:=.Name y p2) rfl [])) (cJ hs [.Name y p2]);have key:=pe_callB (pos:=pos) (p:=p) call_isi hg hm hv.1 h1 hv.2.1 hv.2.2 (cJ hs [.Name y p2]) (star_any [.Name y p2] rfl);refine PE.weak key λσ H Q ⟨g,Z,M,I,h⟩=>?_;refine tW.go I h.bnd λd v H1 h1 e1 r1=>?_;unfold yO at h1;split at h1
 ·next bb e=>
  obtain⟨k1,k2⟩:=ahq (K:=X.K) e;exact⟨v,_,_,_,bb,rfl,.ty _,aml r1 k2,k1,h1 _ H1 e1 (.bl _)⟩
 ·exact atn h1
end
inductive Src where
 |lst (a:Addr)|tup (a:Addr)|str (x:Str)
def chars(x:Str):List V:=x.cps.toList.map λc=>V.str ⟨#[c]⟩
def Src.sq(K:arO)(H:Hp)(us:List V):Src->Prop
 |.lst a=>SqL K H a us
 |.tup a=>SqT K H a us
 |.str x=>us=chars x
def Src.it(h:Heap)(i:Addr)(n:Nat):Src->Prop
 |.lst a=>h.IsListIter i a n
 |.tup a=>h.IsTupleIter i a n
 |.str x=>∃t,h.IsStrIter i (strIterType x) x t n
def Src.ad:Src->List Addr
 |.lst a=>[a]
 |.tup a=>[a]
 |.str _=>[]
section
variable{X:Cx}{pins:List (Addr×Obj)}{σ:L2.St}{H:Hp}{s:Shared}
theorem Src.inj{S:Src}{us ws:List V}(I:L2.Inv X pins σ H s)(h:S.sq X.K H us)(h':S.sq X.K H ws):us=ws:=by
 cases S with
 |lst a=>exact I.list_inj h h'
 |tup a=>exact I.tuple_inj h h'
 |str x=>exact Eq.trans h (Eq.symm h')
theorem Src.draws{S:Src}{us:List V}{i:Addr}{n:Nat}(I:L2.Inv X pins σ H s)(hA:X.A.handled=none)(hs:S.sq X.K H us)(hi:S.it s.heap i n)(hne:∀a∈S.ad,a≠i) :
  ∃(P:Nat->Value->Prop) (St:Nat->Heap->Prop),Draws X.prog X.w X.A.in1 i (i::S.ad) us.length P St/\St n s.heap/\(∀m h,St m h->S.it h i m)/\∀(m:Nat) (v:Value) (x:V),P m v->us[m]?=some x->RelV x v:=by
 cases S with
 |lst a=>
  obtain⟨its,rv,p,hz⟩:=I.list hs;have hl:=rv.length;have D:=Draws.list (prog:=X.prog) (w:=X.w) (A:=X.A.in1) hA i a (hne a (by simp[Src.ad])) its.toArray;rw[atf,←hl]at D;refine⟨_,_,D,⟨hi,p.isList⟩,λm h z=>z.1,λm v x hv hx=>?_⟩;obtain⟨u,hu,ru⟩:=rv.get hx;have:v=u:=ase (hv.symm.trans (by simpa using hu));rw[this];exact ru
 |tup a=>
  obtain⟨its,rv,p,hz⟩:=I.tuple hs;have hl:=rv.length;have D:=Draws.tuple (prog:=X.prog) (w:=X.w) (A:=X.A.in1) hA i a (hne a (by simp[Src.ad])) its.toArray;rw[atf,←hl]at D;refine⟨_,_,D,⟨hi,p⟩,λm h z=>z.1,λm v x hv hx=>?_⟩;obtain⟨u,hu,ru⟩:=rv.get hx;have:v=u:=ase (hv.symm.trans (by simpa using hu));rw[this];exact ru
 |str x=>
  obtain⟨t,hi⟩:=hi;have hl:us.length=x.cps.size:=by rw[show us=chars x from hs];unfold chars;rw[arZ,asB]
  have D:=Draws.text (prog:=X.prog) (w:=X.w) (A:=X.A.in1) hA i x t;rw[←hl]at D;refine⟨_,_,D,hi,λm h z=>⟨t,z⟩,λm v y hv hy=>?_⟩;obtain⟨c,u,hc,rfl⟩:=hv;rw[show us=chars x from hs]at hy;unfold chars at hy;rw[ar5,asK,hc]at hy;cases hy;exact⟨u,rfl⟩
theorem Src.M7{S:Src}{h:Heap}{i:Addr}{n:Nat}(hi:S.it h i n):∃o,h.get? i=some o/\∀v,o.data≠.cell v:=by
 cases S with
 |lst a=>obtain⟨o,e,_,d⟩:=hi;exact⟨o,e,λv q=>by rw[d]at q;cases q⟩
 |tup a=>obtain⟨o,e,_,d⟩:=hi;exact⟨o,e,λv q=>by rw[d]at q;cases q⟩
 |str x=>obtain⟨t,o,e,_,d⟩:=hi;exact⟨o,e,λv q=>by rw[d]at q;cases q⟩
theorem Src.N6{S:Src}{h h':Heap}{i:Addr}{n:Nat}(hi:S.it h i n)(k:∀o,h.get? i=some o->h'.get? i=some o):S.it h' i n:=by
 cases S with
 |lst a=>exact hi.at k
 |tup a=>exact hi.at k
 |str x=>obtain⟨t,o,e,r⟩:=hi;exact⟨t,o,k o e,r⟩
end
def ItE(K:arO)(S:Src)(k₀:Int):It:=
 ⟨λi H=>∃(us:List V) (x:V),S.sq K H us/\us[i]?=some x,λi H v H'=>∃T x,v=.ref T/\H T=none/\H'=upd H T (.tup [.int (k₀+(i:Int)),x])/\∀us,S.sq K H us->us[i]?=some x,λi H=>∃us:List V,S.sq K H us/\us.length=i⟩
theorem amN{P:Program}{w:World}{K:arO}{elts:List Expr}{kk:Nat}{tpos:Pos}(S:Src)(e i0:Addr)(k₀:Int)(hne:e≠i0)(ha:∀a∈S.ad,e≠a/\a≠i0) :
  Turn P w K (.Tuple elts kk tpos) (ItE K S k₀) [e,i0] e (λi h=>(∃old,IsEnum h e i0 (k₀+(i:Int)) old)/\S.it h i0 i) where
 mem:=by simp
 obj:=λi h st b hb=>by
  obtain⟨⟨old,he⟩,hi⟩:=st;have e':b=e∨b=i0:=by simpa using hb
  rcases e' with z|z
  ·rw[z];exact⟨_,he,λv q=>nomatch q⟩
  ·rw[z];exact Src.M7 hi
 keep:=λi h h' st k=>let ⟨⟨old,he⟩,hi⟩:=st;⟨⟨old,k e (by simp) _ he⟩,Src.N6 hi λo q=>k i0 (by simp) o q⟩
 item:=by
  intro X hP hw hK hc i pins s σ H E I hf st hg;subst hP hw hK;obtain⟨⟨old,he⟩,hit⟩:=st;obtain⟨us,x,hq,hx⟩:=hg;obtain⟨PP,St,D,st0,stI,rel⟩:=Src.draws I (I.ok.hd hc) hq hit λa z=>(ha a z).2;have hel:e < s.heap.objs.size:=Heap.lt_size he;have hil:i0 < s.heap.objs.size:=by obtain⟨_,q,_⟩:=Src.M7 hit;exact Heap.lt_size q
  have hin:i < us.length:=(arQ.mp hx).1;refine wpAny_pyNext_enum_itemC D he st0 hin hne (λz=>?_) λv h' tk hP ho hst' hT hsz hk=>?_
  ·rcases ar4.mp z with z|z
   ·exact hne z
   ·exact(ha e z).1 rfl
  have ru:=rel i v x hP hx;refine⟨_,rfl,wpAny_letOwnedTupleGo_enum (s:={ s with heap:=h',toks:=tk+1 }) ho λh'' he' sb=>?_⟩;have hT2:h''.get? s.heap.objs.size=some { cls:=.type "tuple",data:=.seq #[.int (k₀+(i:Int)) tk,v] }:=(sb.2 _ (Nat.ne_of_gt hel)).trans hT
  have new:ObjOk X.prog X.w (upd H s.heap.objs.size (.tup [.int (k₀+(i:Int)),x])) h'' s.heap.objs.size (.tup [.int (k₀+(i:Int)),x]):=
   ⟨by show 2<=sizeLine;decide,[.int (k₀+(i:Int)) tk,v],.cons ⟨_,rfl⟩ (.cons ru .nil),⟨_,hT2,rfl,_,rfl⟩⟩
  have I1:L2.Inv X pins σ (upd H s.heap.objs.size (.tup [.int (k₀+(i:Int)),x])) { s with heap:=h'',toks:=tk+1 }:=
   I.turnedNew (ch:=[e,i0]) (λb ob hb q=>(sb.2 b (λz=>hb (by simp[z]))).trans (hk b ob (λz=>hb (by simp[z])) (λz=>hb (by simp[z])) q)) hf (asn _) new
  refine⟨.ref s.heap.objs.size,_,I1,rfl,⟨_,x,rfl,I.hok.fresh (asn _),rfl,λys hy=>by rw[Src.inj I hy hq];exact hx⟩,⟨⟨v,?_⟩,Src.N6 (stI _ _ hst') λo q=>(sb.2 i0 (Ne.symm hne)).trans q⟩,λb hb=>?_⟩
  ·have e1:k₀+((i+1:Nat):Int)=k₀+(i:Int)+1:=by omega
   rw[e1];exact he'
  ·have hb':b < s.heap.objs.size:=by
    have e':b=e∨b=i0:=by simpa using hb
    rcases e' with z|z
    ·rw[z];exact hel
    ·rw[z];exact hil
   rw[upd_ne (asw hb')];exact(hf b hb).1
 done:=by intro X hP hw hK hc i pins s σ H E I hf st hg;subst hP hw hK;obtain⟨⟨old,he⟩,hit⟩:=st;obtain⟨us,hq,hx⟩:=hg;obtain⟨PP,St,D,st0,stI,rel⟩:=Src.draws I (I.ok.hd hc) hq hit λa z=>(ha a z).2;obtain⟨f0,f1,f2,f3,f4,f5⟩:=hf i0 (by simp);rw[←hx]at st0;exact wpAny_pyNext_enum_endD D he st0 λh' eb=>⟨rfl,I.turned (t':=s.toks) (λb o hb q=>eb b o hb q) f0 f1 f3 f4 f5⟩
 self:=λA i s Q E st h=>let ⟨⟨_,he⟩,_⟩:=st;wpAny_pyIter_enum he h
theorem Src.begins{X:Cx}{pins:List (Addr×Obj)}{σ:L2.St}{H:Hp}{s:Shared}{S:Src}{us:List V}{x:V}{v:Value}(I:L2.Inv X pins σ H s)(hs:S.sq X.K H us)(hx:(∃a,x=.ref a/\S.ad=[a]/\(S=.lst a∨S=.tup a))∨∃y,S=.str y/\x=.str y)(r:RelV x v) :
  ∃(o:Obj) (B:Heap->Prop),Begins v o B/\B s.heap/\(∀h i,h.get? i=some o->S.it h i 0)/\∀a∈S.ad,a < s.heap.objs.size:=by
 rcases hx with⟨a,rfl,ha,h|h⟩|⟨y,h,rfl⟩
 ·subst h;cases r;obtain⟨its,rv,p,_⟩:=I.list hs;obtain⟨o1,ho1,_⟩:=id p.isList;refine⟨_,_,begins_list a its.toArray,p.isList,λh i e=>⟨_,e,rfl,rfl⟩,λb hb=>?_⟩;rw[ha]at hb;rw[arV.mp hb];exact Heap.lt_size ho1
 ·subst h;cases r;obtain⟨its,rv,p,_⟩:=I.tuple hs;obtain⟨o1,ho1,_⟩:=id p;refine⟨_,_,begins_tuple a its.toArray,p,λh i e=>⟨_,e,rfl,rfl⟩,λb hb=>?_⟩;rw[ha]at hb;rw[arV.mp hb];exact Heap.lt_size ho1
 ·subst h;obtain⟨t,rfl⟩:=r;exact⟨_,_,begins_text y t,atm,λh i e=>⟨t,_,e,rfl,rfl⟩,λb hb=>nomatch hb⟩
def srcOf(x:V)(S:Src):Prop:=(∃a,x=.ref a/\S.ad=[a]/\(S=.lst a∨S=.tup a))∨∃y,S=.str y/\x=.str y
def iEn(K:arO)(ta:TA)(k₀:Int):TI:=λσ H R=>ta σ H λvs H1=>∃x S us,vs=[x]/\srcOf x S/\S.sq K H1 us/\R (ItE K S k₀) H1
section
variable{X:Cx}{a b:Expr}{ta tb:TA}{p pos tpos:Pos}{elts:List Expr}{kk:Nat}
theorem alA{pins:List (Addr×Obj)}{σ:L2.St}{H:Hp}{s:Shared}(I:L2.Inv X pins σ H s):∀b∈[s.heap.objs.size+1,s.heap.objs.size],FpOk X pins H b:=λb hb=>by
 have e':b=s.heap.objs.size+1∨b=s.heap.objs.size:=by simpa using hb
 have hle:s.heap.objs.size<=b:=by
  rcases e' with z|z
  ·rw[z];exact Nat.le_add_right _ _
  ·rw[z];exact asn _
 exact I.fpOk hle (I.hok.fresh hle)
theorem agx{pins:List (Addr×Obj)}{σ:L2.St}{H:Hp}{s:Shared}{S:Src}{us:List V}{x:V}{v:Value}{o:Obj}{k₀:Int}{R:It->Hp->Prop}{h':Heap}(I:L2.Inv X pins σ H s)(hlt:∀a∈S.ad,a < s.heap.objs.size)(hit:∀h i,h.get? i=some o->S.it h i 0)
  (he:IsEnum h' (s.heap.objs.size+1) s.heap.objs.size k₀ .none) (ho:h'.get? s.heap.objs.size=some o) (hk:∀b o,s.heap.get? b=some o->h'.get? b=some o) (q:R (ItE X.K S k₀) H) :
  wpAny (model X.prog X.w) X.A (pyIter (.ref (s.heap.objs.size+1))) (PIE X pins σ (.Tuple elts kk tpos) R) X.xe { s with heap:=h' }:=by
 refine wpAny_pyIter_enum he ?_;have I2:L2.Inv X pins σ H { s with heap:=h' }:=I.kept (t':=s.toks) hk;refine⟨s.heap.objs.size+1,[s.heap.objs.size+1,s.heap.objs.size],_,_,H,rfl,I2,amN S (s.heap.objs.size+1) s.heap.objs.size k₀ (Nat.succ_ne_self _) (λa z=>?_),⟨⟨.none,?_⟩,hit _ _ ho⟩,alA I,q⟩
 ·have:=hlt a z;exact⟨Nat.ne_of_gt (as7 this),asw this⟩
 ·rw[show k₀+((0:Nat):Int)=k₀ by simp];exact he
theorem af2{v:Value}{o:Obj}{B:Heap->Prop}(hB:Begins v o B) :
  Meets (Builtin.«enumerate.__new__» ⟨[.type "enumerate",v],[]⟩) (λ_ R s=>B s.heap/\
   R (.ok (.ret (.ref (s.heap.push o).objs.size))) { s with heap:=(s.heap.push o).push { cls:=.type "enumerate",data:=.fields #[.none,.bool false,.ref s.heap.objs.size,rawInt 0,.none,.none] } }):=
 .of_wp λprog w A R s hh=>by
  obtain⟨hp,gs,dr,tk,os⟩:=s;obtain⟨hb,hr⟩:=hh;have hsub:=sub_enumerate;have qi:∀{A':Around} {E:Value->Shared->Prop} {Q:Value->Shared->Prop},Q (.ref hp.objs.size) ⟨hp.push o,gs,dr,tk,os⟩->wpAny (model prog w) A' (pyIter v) Q E ⟨hp,gs,dr,tk,os⟩:=λz=>hB.iter prog w _ _ ⟨hp,gs,dr,tk,os⟩ _ hb z
  wp_walk using qi
  refine wpAny_stack_any λst=>wpAny_pure ?_;split
  ·next c _ _ _ _ _=>
   cases(c==Value.type "enumerate")<;>(wp_walk using qi;exact⟨_,rfl,hr⟩)
  ·wp_walk using qi
   exact⟨_,rfl,hr⟩
theorem ac9{prog:Program}{w:World}{A:Around}{E:Value->Shared->Prop}{s:Shared}{v:Value}{o:Obj}{B:Heap->Prop}{Q:Value->Shared->Prop}(hB:Begins v o B)(hb:B s.heap)
  (h:∀h',IsEnum h' (s.heap.objs.size+1) s.heap.objs.size 0 .none->h'.get? s.heap.objs.size=some o->(∀b o,s.heap.get? b=some o->h'.get? b=some o)->Q (.ref (s.heap.objs.size+1)) { s with heap:=h' }) :
  wpAny (model prog w) A (call (.type "enumerate") [v]) Q E s:=by
 refine callType_new F.called_enumerate (by decide) (F.typeCall_enumerate_1 _) (F.newCall_enumerate_1 _) (λob=>F.args_object_init_2 ob _) F.entry_enumerate_new (af2 hB) ⟨hb,?_⟩;have hz:(s.heap.push o).objs.size=s.heap.objs.size+1:=Heap.size_push ..;have he:=Heap.get?_push_size (s.heap.push o) (o:={ cls:=.type "enumerate",data:=.fields #[.none,.bool false,.ref s.heap.objs.size,rawInt 0,.none,.none] }) rfl
 show _/\_;rw[hz]at he ⊢;exact⟨⟨_,he,rfl⟩,h _ he (Heap.get?_push_of_some _ (Heap.get?_push_size _ hB.free)) λb u z=>Heap.get?_push_of_some _ (Heap.get?_push_of_some _ z)⟩
theorem amG(hg:Gl X "enumerate")(hm:X.mg "enumerate"=none)(ha:PA X [a] ta)(hs:nst a=true):PI X (.Tuple elts kk tpos) (.Call (.Name "enumerate" p) [a] [] pos) (iEn X.K ta 0):=by refine⟨λpins s σ H R I h=>?_⟩;refine Call_ (ld_blt I hg hm boot_enumerate (PyProof.Rows.callWith_type1 (thn (ha.run pos pins s σ H _ I h) λus s1 ⟨vs,H1,I1,r1,x,S,us',ev,hx,hq,q⟩=>?_) (cJ hs []) (by with_unfolding_all rfl)));subst ev;obtain⟨v,rfl,r⟩:=vals1 r1;obtain⟨o,B,hB,hb,hit,hlt⟩:=Src.begins I1 hq hx r;exact ac9 hB hb λh' he ho hk=>agx (x:=x) (v:=v) (us:=us') I1 hlt hit he ho hk q
theorem ae7{M:Model}{A:Around}{E:Value->Shared->Prop}{s:Shared}{pos:Pos}{T:String}{args:List (Bool×Sem Value)}{kws:List (Option Str×Sem Value)}{Q:Value->Shared->Prop}(h1:args.any (·.1)=false)(h2:kws.any (·.1.isNone)=false)
  (h:wpAny M A (evalArgs (.type T) true args kws) (λz s₁=>wpAny M A (call (.type T) z.pos z.kw) Q E s₁) E s):wpAny M A (callWith pos (.type T) [] args kws) Q E s:=by
 unfold callWith;refine wpAny_bind (wpAny_holding (wpAny_mono h (λz s₁ hz=>wpAny_bind (wpAny_standAt ?_)) λ_ _ y=>y));rw[h1,h2];refine wpAny_bind (wpAny_pure ?_);exact wpAny_bind (wpAny_mono hz (λr s₂ hr=>wpAny_bind (wpAny_holding (wpAny_point (wpAny_pure hr)))) λ_ _ y=>y)
theorem ai0{k₀:Int}{j:Nat}{kp kp2:Pos}(hk0 : -(2 ^ 63)<=k₀)(hk1:k₀ < 2 ^ 63)(hg:Gl X "enumerate")(hm:X.mg "enumerate"=none)(ha:PA X [a] ta)(hs:nst a=true) :
  PI X (.Tuple elts kk tpos) (.Call (.Name "enumerate" p) [a] [⟨some "start",.Constant (.int k₀) j kp,kp2⟩] pos) (iEn X.K ta k₀):=by
 refine⟨λpins s σ H R I h=>?_⟩;have hpk:PK X [⟨some "start",.Constant (.int k₀) j kp,kp2⟩] (tCons (tC (.int k₀)) tNil):=pk_cons pe_int pk_nil
 refine wpAny_Call_Name_kw (ld_blt I hg hm boot_enumerate (ae7 (star_any [a] (by simp[hs])) (by with_unfolding_all rfl) ?_));refine PyProof.Rows.evalArgs_kw2 (by with_unfolding_all rfl) (thn (ha.run pos pins s σ H _ I h) λus s1 ⟨vs,H1,I1,r1,x,S,us',ev,hx,hq,q⟩=>?_) (by first | (rw[cJ hs];done) | (rw[cJ hs];rfl) | rw[cJ hs]);refine thn (hpk.run pos pins s1 σ H1 (λzs H2=>zs=[.int k₀]/\H2=H1) I1 ⟨rfl,rfl⟩) λws s2 ⟨zs,H2,I2,r2,e1,e2⟩=>?_;subst ev e1 e2;obtain⟨v,rfl,r⟩:=vals1 r1;obtain⟨w,rfl,t,rfl⟩:=vals1 r2;obtain⟨o,B,hB,hb,hit,hlt⟩:=Src.begins I2 hq hx r;exact enum_begins_start hB hb hk0 hk1 λh' he ho _ hk=>agx (x:=x) (v:=v) (us:=us') I2 hlt hit he ho hk q
def ItZ(K:arO)(S T:Src):It:=
 ⟨λi H=>∃(us ws:List V) (x y:V),S.sq K H us/\T.sq K H ws/\us[i]?=some x/\ws[i]?=some y,λi H v H'=>∃U x y,v=.ref U/\H U=none/\H'=upd H U (.tup [x,y])/\(∀us,S.sq K H us->us[i]?=some x)/\∀ws,T.sq K H ws->ws[i]?=some y,
  λi H=>∃us ws:List V,S.sq K H us/\T.sq K H ws/\i=min us.length ws.length⟩
theorem al3{P:Program}{w:World}{K:arO}{S T:Src}{N:Addr}(h1:∀a∈S.ad,a < N)(h2:∀a∈T.ad,a < N) :
  Turn P w K (.Tuple elts kk tpos) (ItZ K S T) [N+4,N+2,N+3,N,N+1] (N+4) (λn h=>IsZip h (N+4) (N+2) (N+3) .none/\IsPair h (N+2) (.ref N) (.ref (N+1))/\(∃x y,IsPair h (N+3) x y)/\S.it h N n/\T.it h (N+1) n) where
 mem:=by simp
 obj:=λn h q c hc=>by
  obtain⟨gz,gI,⟨x,y,gO⟩,i1,i2⟩:=q;simp only[ar4,asz,or_false]at hc;rcases hc with rfl|rfl|rfl|rfl|rfl
  ·exact⟨_,gz,λv q=>nomatch q⟩
  ·exact⟨_,gI,λv q=>nomatch q⟩
  ·exact⟨_,gO,λv q=>nomatch q⟩
  ·exact Src.M7 i1
  ·exact Src.M7 i2
 keep:=λn h h' q k=>by
  obtain⟨gz,gI,⟨x,y,gO⟩,i1,i2⟩:=q;exact⟨k _ (by simp) _ gz,k _ (by simp) _ gI,⟨x,y,k _ (by simp) _ gO⟩,Src.N6 i1 λo e=>k _ (by simp) o e,Src.N6 i2 λo e=>k _ (by simp) o e⟩
 item:=by
  intro X hP hw hK hc n pins s σ H E I hf q hg;subst hP hw hK;obtain⟨gz,gI,⟨x0,y0,gO⟩,i1,i2⟩:=q;obtain⟨us,ws,x,y,qx,qy,hx,hy⟩:=hg;obtain⟨P1,St1,D1,st1,b1,rel1⟩:=Src.draws I (I.ok.hd hc) qx i1 λa z=>asw (h1 a z);obtain⟨P2,St2,D2,st2,b2,rel2⟩:=Src.draws I (I.ok.hd hc) qy i2 λa z=>asw (as7 (h2 a z));have hzl:N+4 < s.heap.objs.size:=Heap.lt_size gz;refine wpAny_pyNext_zipD2_item (zip_sep2 h1 h2) D1 D2 gz gI gO st1 st2 (arQ.mp hx).1 (arQ.mp hy).1 λv1 v2 h' tk p1 p2 z' o' s1 s2 hT hsz hk=>?_;refine⟨_,rfl,wpAny_letOwnedTupleGo_zip (s:={ s with heap:=h',toks:=tk }) z' λh'' z'' sb=>?_⟩;have hT2:=(sb.2 _ (Nat.ne_of_gt hzl)).trans hT;have new:ObjOk X.prog X.w (upd H s.heap.objs.size (.tup [x,y])) h'' s.heap.objs.size (.tup [x,y]):=⟨by show 2<=sizeLine;decide,[v1,v2],.cons (rel1 n v1 x p1 hx) (.cons (rel2 n v2 y p2 hy) .nil),⟨_,hT2,rfl,_,rfl⟩⟩;have I1:L2.Inv X pins σ (upd H s.heap.objs.size (.tup [x,y])) { s with heap:=h'',toks:=tk }:=by refine I.turnedNew (t':=tk) (ch:=[N+4,N+2,N+3,N,N+1]) (λc o hb e=>?_) hf (asn _) new;simp only[ar4,asz,or_false,not_or]at hb;exact(sb.2 c hb.1).trans (hk c o hb.1 hb.2.2.1 hb.2.2.2.1 hb.2.2.2.2 e)
  have ne4:∀k,k≠4->N+k≠N+4:=λk hk z=>hk (atk z);refine⟨.ref s.heap.objs.size,_,I1,rfl,⟨_,x,y,rfl,I.hok.fresh (asn _),rfl,λl hl=>by rw[Src.inj I hl qx];exact hx,λl hl=>by rw[Src.inj I hl qy];exact hy⟩,⟨z'',?_,⟨v1,v2,?_⟩,?_,?_⟩,λc hcm=>?_⟩
  ·exact(sb.2 _ (ne4 2 (by decide))).trans (hk _ _ (ne4 2 (by decide)) (λz=>absurd (atk z) (by decide)) (λz=>absurd (atk (z.trans (Nat.add_zero N).symm)) (by decide)) (λz=>absurd (atk z) (by decide)) gI)
  ·exact(sb.2 _ (ne4 3 (by decide))).trans o'
  ·exact Src.N6 (b1 _ _ s1) λo e=>(sb.2 _ (ne4 0 (by decide))).trans e
  ·exact Src.N6 (b2 _ _ s2) λo e=>(sb.2 _ (ne4 1 (by decide))).trans e
  ·have hlt:c < s.heap.objs.size:=by
    simp only[ar4,asz,or_false]at hcm;rcases hcm with rfl|rfl|rfl|rfl|rfl
    ·exact hzl
    ·exact Heap.lt_size gI
    ·exact Heap.lt_size gO
    ·obtain⟨_,e1,_⟩:=Src.M7 i1;exact Heap.lt_size e1
    ·obtain⟨_,e2,_⟩:=Src.M7 i2;exact Heap.lt_size e2
   rw[upd_ne (asw hlt)];exact(hf c hcm).1
 done:=by intro X hP hw hK hc n pins s σ H E I hf q hg;subst hP hw hK;obtain⟨gz,gI,⟨x0,y0,gO⟩,i1,i2⟩:=q;obtain⟨us,ws,qx,qy,hn⟩:=hg;obtain⟨P1,St1,D1,st1,b1,rel1⟩:=Src.draws I (I.ok.hd hc) qx i1 λa z=>asw (h1 a z);obtain⟨P2,St2,D2,st2,b2,rel2⟩:=Src.draws I (I.ok.hd hc) qy i2 λa z=>asw (as7 (h2 a z));refine wpAny_pyNext_zipD2_end (zip_sep2 h1 h2) D1 D2 gz gI gO st1 st2 (by omega) (by omega) (by omega) λh' tk hk=>⟨rfl,?_⟩;refine I.turnedL (t':=tk) (ch:=[N+4,N+2,N+3,N,N+1]) (λc o hb e=>?_) hf;simp only[ar4,asz,or_false,not_or]at hb;exact hk c o hb.1 hb.2.2.1 hb.2.2.2.1 hb.2.2.2.2 e
 self:=λA n s Q E q h=>wpAny_pyIter_zip q.1 h
def iZp(K:arO)(ta:TA):TI:=λσ H R=>ta σ H λvs H1=>∃x y S T us ws,vs=[x,y]/\srcOf x S/\srcOf y T/\S.sq K H1 us/\T.sq K H1 ws/\R (ItZ K S T) H1
theorem al6(hg:Gl X "zip")(hm:X.mg "zip"=none)(ha:PA X [a,b] ta)(hs:nst a=true)(hs2:nst b=true):PI X (.Tuple elts kk tpos) (.Call (.Name "zip" p) [a,b] [] pos) (iZp X.K ta):=by
 refine⟨λpins s σ H R I h=>?_⟩;refine Call_ (ld_blt I hg hm PyProof.Rows.boot_zip (PyProof.Rows.callWith_type1 (thn (ha.run pos pins s σ H _ I h) λus s1 ⟨vs,H1,I1,r1,x,y,S,T,us',ws',ev,hx,hy,hq,hq2,q⟩=>?_) (cJ hs [b]) (star_any [b] (by simp[hs2]))));subst ev;obtain⟨v1,v2,rfl,rv1,rv2⟩:=vals2 r1;obtain⟨o1,B1,hB1,hb1,hit1,hlt1⟩:=Src.begins I1 hq hx rv1;obtain⟨o2,B2,hB2,hb2,hit2,hlt2⟩:=Src.begins I1 hq2 hy rv2;refine zip_begins2 hB1 hB2 hb1 hb2 λh' hz hTI hTO e1 e2 hsz hk=>wpAny_pyIter_zip hz ?_;have I2:L2.Inv X pins σ H1 { s1 with heap:=h' }:=I1.kept (t':=s1.toks) hk;refine⟨s1.heap.objs.size+4,_,_,_,H1,rfl,I2,al3 hlt1 hlt2,⟨hz,hTI,⟨_,_,hTO⟩,hit1 _ _ e1,hit2 _ _ e2⟩,λc hcm=>?_,q⟩;have hle:s1.heap.objs.size<=c:=by simp only[ar4,asz,or_false]at hcm;rcases hcm with rfl | rfl | rfl | rfl | rfl<;>first | exact asn _ | exact Nat.le_add_right _ _
 exact I1.fpOk hle (I1.hok.fresh hle)
end
section
variable{K:arO}{aj:aR}{q:Bool}{g g':Gh}{H H':Hp}{v:V}{d:Dat}{σ:L2.St}{Z:Env}{M:Mo}
theorem jy.up{l:Addr}:∀{n:Bool} {kvs:List (Dat×Dat)} (r:Gr true g g' H H') (e:Ex H H') (k:Kd g H) (h:jy K aj g H l n kvs),jy K aj g' H' l n kvs
 |false,_,r,e,k,⟨kv,h1,h2,h3⟩=>⟨kv,e _ _ h1,h2,h3.gr r k⟩
 |true,_,r,e,k,⟨o,xs,vs,h1,h2,h3,h4,h5,h6⟩=>⟨o,xs,vs,e _ _ h1,h2,h3,h4.gr r k,h5,h6.gr r k⟩
theorem dU.up{h:Nat}{f:Str}(r:Gr true g g' H H')(e:Ex H H')(k:Kd g H):∀{fl:jc},dU K aj g H h f v fl->dU K aj g' H' h f v fl
 |.dat _,z=>Rep.gr r k z
 |.lst _ _,⟨l,us,h1,h2,h3,h4,h5⟩=>⟨l,us,h1,e _ _ h2,by rw[(r.qg rfl).2];exact h3,h4.gr r k,r.tb h5⟩
 |.dic _ _,⟨l,h1,h2,h3⟩=>⟨l,h1,by rw[(r.qg rfl).2];exact h2,h3.up r e k⟩
theorem cM.up{h:Nat}(r:Gr true g g' H H')(e:Ex H H')(k:Kd g H):∀{fs:List (Str×V)} {gs:List (Str×jc)},cM K aj g H h fs gs->cM K aj g' H' h fs gs
 |_,_,.nil=>.nil
 |_,_,.cons z t=>.cons (dU.up r e k z) (cM.up r e k t)
theorem fZ.up(r:Gr true g g' H H')(e:Ex H H')(k:Kd g H)(w:fZ K aj g H M):fZ K aj g' H' M where
 len:=by rw[(r.qg rfl).1];exact w.len
 inj:=by rw[(r.qg rfl).1];exact w.inj
 ins:=λh a i ha hi hc=>by
  rw[(r.qg rfl).1]at ha;obtain⟨C,dx,fs,c1,c2,c3⟩:=w.ins h a i ha hi hc;exact⟨C,dx,fs,c1,e _ _ c2,c3.up r e k⟩
 nd:=w.nd
 fd:=w.fd
 tw:=by rw[(r.qg rfl).1,(r.qg rfl).2];exact w.tw
 dm:=w.dm
 nc:=w.nc
theorem SInv.up(r:Gr true g g' H H')(e:Ex H H')(k':Kd g' H')(I:SInv K aj σ H g Z M):SInv K aj σ H' g' Z M where
 kd:=k'
 wok:=I.wok.up r e I.kd
 len:=I.len
 dat:=λi d h=>by
  obtain⟨v,h1,h2⟩:=I.dat i d h;exact⟨v,h1,h2.gr r I.kd⟩
 own:=λi xs h=>by
  obtain⟨l,us,h1,h2,h3,h4⟩:=I.own i xs h;exact⟨l,us,h1,e _ _ h2,r.Lo l h3,h4.gr r I.kd⟩
 sep:=I.sep
def Gh.add(g:Gh)(D:Addr):Gh:={ g with Lo:=λa=>g.Lo a∨a=D }
theorem Gh.FZ{D:Addr}(n:H D=none)(e:Ex H H'):Gr true g (g.add D) H H' where
 keep:=λa o h _ _=>e a o h
 keepW:=λ_ a o h _=>e a o h
 dom:=Ds e
 tbl:=⟨[],by simp[Gh.add]⟩
 W:=λ_ h=>h
 nW:=λ_ h=>.inl h
 qg:=λ_=>⟨rfl,rfl⟩
 Lc:=rfl
 Lo:=λ_ h=>.inl h
 nLo:=λa h=>h.elim .inl λz=>.inr (by rw[z];exact n)
theorem Gh.akR{D:Addr}{o:HO}(k:Kd g H)(n:H D=none)(e:Ex H H')(hD:H' D=some o)(m:Ir o):Kd (g.add D) H' where
 ob:=λa z=>by
  rcases z with z|z|z|z
  ·obtain⟨o,h,m⟩:=k.ob a (.inl z);exact⟨o,e a o h,m⟩
  ·obtain⟨o,h,m⟩:=k.ob a (.inr (.inl z));exact⟨o,e a o h,m⟩
  ·obtain⟨o,h,m⟩:=k.ob a (.inr (.inr z));exact⟨o,e a o h,m⟩
  ·rw[z];exact⟨o,hD,m⟩
 lo:=λa z=>by
  rcases z with z|z
  ·exact k.lo a z
  ·intro w;subst z;exact k.fresh n (.inl w)
 lc:=λa z=>⟨(k.lc a z).1,λy=>y.elim (k.lc a z).2 λy=>by subst y;exact k.fresh n (.inr (.inl z))⟩
theorem SInv.add{D:Addr}{o:HO}(I:SInv K aj σ H g Z M)(n:H D=none)(e:Ex H H')(hD:H' D=some o)(m:Ir o):SInv K aj σ H' (g.add D) Z M:=
 I.up (Gh.FZ n e) e (Gh.akR I.kd n e hD m)
theorem SInv.set{j:Nat}(I:SInv K aj σ H g Z M)(r:Rep K g H v d):SInv K aj (σ.set j (some v)) H g (Z.set j (some (.dat d))) M where
 kd:=I.kd
 wok:=I.wok
 len:=by rw[aso,aso];exact I.len
 dat:=λi e h=>by
  by_cases z:j=i
  ·subst z;have hj:j < Z.length:=by
    have:=(arQ.mp h).1;rw[aso]at this;exact this
   rw[ar8 hj]at h;cases h;exact⟨v,by rw[ar8 (by rw[I.len];exact hj)],r⟩
  ·rw[arX z]at h;obtain⟨u,h1,h2⟩:=I.dat i e h;exact⟨u,by rw[arX z];exact h1,h2⟩
 own:=λi xs h=>by
  by_cases z:j=i
  ·subst z;have hj:j < Z.length:=by
    have:=(arQ.mp h).1;rw[aso]at this;exact this
   rw[ar8 hj]at h;cases h
  ·rw[arX z]at h;obtain⟨l,us,h1,h2⟩:=I.own i xs h;exact⟨l,us,by rw[arX z];exact h1,h2⟩
 sep:=λi k xs ys l ne h1 h2 h3=>by
  have nj:∀{i:Nat} {xs:List Dat},(Z.set j (some (.dat d)))[i]?=some (some (.mut xs))->j≠i:=λ{i xs} h z=>by
   subst z;have hj:j < Z.length:=by have:=(arQ.mp h).1;rw[aso]at this;exact this
   rw[ar8 hj]at h;cases h
  have n1:=nj h1;have n2:=nj h2;rw[arX n1]at h1 h3;rw[arX n2]at h2;rw[arX n2];exact I.sep i k xs ys l ne h1 h2 h3
theorem SInv.forget{j:Nat}(I:SInv K aj σ H g Z M):SInv K aj (σ.set j none) H g (Z.set j none) M where
 kd:=I.kd
 wok:=I.wok
 len:=by rw[aso,aso];exact I.len
 dat:=λi e h=>by
  by_cases z:j=i
  ·subst z;have hj:j < Z.length:=by
    have:=(arQ.mp h).1;rw[aso]at this;exact this
   rw[ar8 hj]at h;cases h
  ·rw[arX z]at h ⊢;exact I.dat i e h
 own:=λi xs h=>by
  by_cases z:j=i
  ·subst z;have hj:j < Z.length:=by
    have:=(arQ.mp h).1;rw[aso]at this;exact this
   rw[ar8 hj]at h;cases h
  ·rw[arX z]at h ⊢;exact I.own i xs h
 sep:=λi k xs ys l ne h1 h2 h3=>by
  have nj:∀{i:Nat} {xs:List Dat},(Z.set j none)[i]?=some (some (.mut xs))->j≠i:=λ{i xs} h z=>by
   subst z;have hj:j < Z.length:=by have:=(arQ.mp h).1;rw[aso]at this;exact this
   rw[ar8 hj]at h;cases h
  have n1:=nj h1;have n2:=nj h2;rw[arX n1]at h1 h3;rw[arX n2]at h2;rw[arX n2];exact I.sep i k xs ys l ne h1 h2 h3
def cC(Z:Env):List Nat->Env
 |[]=>Z
 |j::js=>(cC Z js).set j none
theorem SInv.wipe(I:SInv K aj σ H g Z M):∀vs:List Nat,SInv K aj (L2.wipe σ vs) H g (cC Z vs) M
 |[]=>I
 |j::js=>(SInv.wipe I js).forget
end
abbrev fO:=Dat->Env->Option Env
def aF(j:Nat):fO:=λd Z=>some (Z.set j (some (.dat d)))
def rJ:List Nat->List Dat->Env->Option Env
 |[],[],Z=>some Z
 |j::js,d::ds,Z=>rJ js ds (Z.set j (some (.dat d)))
 |_,_,_=>none
def bH(js:List Nat):fO:=λd Z=>match d with
 |.tuple ds=>rJ js ds Z
 |_=>none
def sets(σ:L2.St):List Nat->List V->L2.St
 |j::js,v::vs=>sets (σ.set j (some v)) js vs
 |_,_=>σ
def Av(K:arO)(aj:aR)(js:List Nat)(f:fO):TG:=λv σ H Q=>∃g Z M d Z',SInv K aj σ H g Z M/\Rep K g H v d/\f d Z=some Z'/\∀vs,SInv K aj (sets σ js vs) H g Z' M->Q (sets σ js vs) H
def QG(aj:aR)(X:Cx)(tg:Expr)(js:List Nat)(f:fO):Prop:=PG X tg (Av X.K aj js f)
theorem PG.weak{X:Cx}{e:Expr}{t t':TG}(h:PG X e t)(k:∀v σ H Q,t' v σ H Q->t v σ H Q):PG X e t':=⟨λpins s σ H v u Q I r q=>h.run pins s σ H v u Q I r (k v σ H Q q)⟩
section
variable{X:Cx}{aj:aR}{pos:Pos}
theorem Uh{j:Nat}{x:Str}(hN:X.N.Nodup)(hi:X.N[j]?=some x)(hx:Loc X.env.scope x)(hf:X.fn x=true∨X.env.scope.names.lookup x=some .local):QG aj X (.Name x pos) [j] (aF j):=
 PG.weak (pg_name hN hi hx hf) λv σ H Q ⟨g,Z,M,d,Z',I,r,e,q⟩=>by
  cases e;exact q [v] (I.set r)
def Sv(X:Cx):List Expr->List Nat->Prop
 |[],[]=>True
 |.Name x _::es,j::js=>X.N[j]?=some x/\Loc X.env.scope x/\(X.fn x=true∨X.env.scope.names.lookup x=some .local)/\Sv X es js
 |_,_=>False
theorem ago{es:List Expr}{js:List Nat}(h:Sv X es js):(assignEach es X.env).length=js.length/\(assignEach es X.env).findIdx? (·.1)=none:=by
 induction es generalizing js with
 |nil=>
  cases js with
  |nil=>exact⟨by with_unfolding_all rfl,by with_unfolding_all rfl⟩
  |cons j js=>exact atn h
 |cons e es ih=>
  cases js with
  |nil=>cases e<;>exact atn h
  |cons j js=>
   cases e with
   |Name x p=>
    obtain⟨h1,h2⟩:=ih h.2.2.2;have e1:assignEach (.Name x p::es) X.env=(false,assign (.Name x p) X.env)::assignEach es X.env:=by with_unfolding_all rfl
    rw[e1];refine⟨by simp[h1],?_⟩;rw[List.findIdx?_cons,h2];rfl
   |_=>exact atn h
def gNs(js:List Nat):TGs:=λvs σ H Q=>vs.length=js.length/\Q (sets σ js vs) H
theorem W9(hN:X.N.Nodup):∀{es:List Expr} {js:List Nat},Sv X es js->PGs X es (gNs js)
 |[],[],_=>⟨λpins s σ H vs us Q I r h=>by
  obtain⟨e,h⟩:=h;have:vs=[]:=List.length_eq_zero_iff.mp e;subst this;exact pgs_nil.run pins s σ H [] us Q I r ⟨rfl,h⟩⟩
 |.Name x p::es,j::js,h=>by
  have hp:=pgs_cons (pg_name (pos:=p) hN h.1 h.2.1 h.2.2.1) (W9 hN h.2.2.2) (by with_unfolding_all rfl);refine⟨λpins s σ H vs us Q I r hq=>?_⟩;obtain⟨e,hq⟩:=hq;cases vs with
  |nil=>cases e
  |cons v vs=>exact hp.run pins s σ H (v::vs) us Q I r ⟨v,vs,rfl,asT e,hq⟩
 |[],_::_,h=>atn h
 |.Name _ _::_,[],h=>atn h
theorem Jq{K:arO}{g:Gh}{H:Hp}{M:Mo}:∀{js:List Nat} {ds:List Dat} {vs:List V} {σ:L2.St} {Z Z':Env},SInv K aj σ H g Z M->aM K g H vs ds->rJ js ds Z=some Z'->vs.length=js.length/\SInv K aj (sets σ js vs) H g Z' M
 |[],_,_,_,_,_,I,.nil,e=>by cases e;exact⟨rfl,I⟩
 |[],_,_,_,_,_,I,.cons _ _,e=>by cases e
 |j::js,_,_,_,_,_,I,.nil,e=>by cases e
 |j::js,_,_,_,_,_,I,.cons r t,e=>by
  obtain⟨h1,h2⟩:=Jq (js:=js) (I.set (j:=j) r) t e;exact⟨by simp[h1],h2⟩
theorem afa{es:List Expr}{js:List Nat}{k:Nat}(hc:X.calm=true)(hN:X.N.Nodup)(h:Sv X es js):QG aj X (.Tuple es k pos) js (bH js):=by
 obtain⟨h1,h2⟩:=ago h;refine PG.weak (pg_tup (n:=js.length) hc (W9 hN h) h1 h2) λv σ H Q ⟨g,Z,M,d,Z',I,r,e,q⟩=>?_;unfold bH at e;split at e
 ·obtain⟨a,us,rfl,s1,t1⟩:=lK r.weak;obtain⟨l1,I1⟩:=Jq I t1 e;exact⟨a,us,rfl,s1,l1,l1,q us I1⟩
 ·cases e
theorem Ak:∀(js:List Nat) (vs:List V) (σ:L2.St) (ws:List Nat),(∀j∈js,j∈ws)->L2.wipe (sets σ js vs) ws=L2.wipe σ ws
 |[],_,_,_,_=>by unfold sets;rfl
 |_::_,[],_,_,_=>by unfold sets;rfl
 |j::js,v::vs,σ,ws,h=>by
  show L2.wipe (sets (σ.set j (some v)) js vs) ws=_;rw[Ak js vs _ ws λk hk=>h k (arS _ hk)];have hj:j∈ws:=h j arU;have key:∀(ws:List Nat) (σ:L2.St),j∈ws->L2.wipe (σ.set j (some v)) ws=L2.wipe σ ws:=by
   intro ws
   induction ws with
   |nil=>intro σ z;cases z
   |cons k ws ih=>
    intro σ z
    show(L2.wipe (σ.set j (some v)) ws).set k none=(L2.wipe σ ws).set k none
    by_cases hk:j∈ws
    ·rw[ih σ hk]
    ·have e:j=k:=by
      rcases ar4.mp z with z|z
      ·exact z
      ·exact absurd z hk
     subst e;have comm:∀(ws:List Nat),j∉ws->L2.wipe (σ.set j (some v)) ws=(L2.wipe σ ws).set j (some v):=by
      intro ws
      induction ws with
      |nil=>intro _;rfl
      |cons m ws ih2=>
       intro hm
       show(L2.wipe (σ.set j (some v)) ws).set m none=((L2.wipe σ ws).set m none).set j (some v)
       rw[ih2 λz=>hm (arS _ z),List.set_comm _ _ (λz=>hm (by rw[z];exact arU))]
     rw[comm ws hk,List.set_set]
  exact key ws σ hj
end
structure J8(K:arO)(J:It)(C:Gh->Hp->Prop)(ds:List Dat):Prop where
 go:∀g i H,C g H->i < ds.length->J.go i H
 yld:∀g i H x H' d,Kd g H->C g H->ds[i]?=some d->J.yld i H x H'->Ex H H'/\Rep K g H' x d
 stop:∀g i H,C g H->i=ds.length->J.stop i H
 ex:∀g H H',Kd g H->C g H->Ex H H'->C g H'
 add:∀g g' H H',Kd g H->C g H->Gr true g g' H H'->Ex H H'->C g' H'
def acy(C:Gh->Hp->Prop):Prop:=∀q g g' H H',Kd g H->C g H->Gr q g g' H H'->C g' H'
abbrev IF:=Mo->Env->Out (List Dat)
def tI(K:arO)(aj:aR)(W:WX)(firm:Bool)(f:IF):TI:=λσ H R=>∃g Z M,SInv K aj σ H g Z M/\(f M Z).sat (λds=>∀J C H',Ex H H'->J8 K J C ds->C g H'->(firm=true->acy C)->R J H') (rG K aj W g H σ)
def QI(aj:aR)(X:Cx)(W:WX)(firm:Bool)(tg e:Expr)(f:IF):Prop:=PI X tg e (tI X.K aj W firm f)
def aam(x:Str):List Dat:=x.cps.toList.map λc=>.str ⟨#[c]⟩
def oE:Dat->Out (List Dat)
 |.list ds=>.ok ds
 |.tuple ds=>.ok ds
 |.str x=>.ok (aam x)
 |_=>.bad
def cR(a:QF):IF:=λM Z=>(a M Z).bind oE
def Src.cw(K:arO)(S:Src)(ds:List Dat)(g:Gh)(H:Hp):Prop:=∃us,S.sq K H us/\aM K g H us ds
def Src.cf(K:arO)(S:Src)(ds:List Dat)(g:Gh)(H:Hp):Prop:=∃us,(match S with
 |.lst a=>Qi K g H a us
 |.tup a=>SqT K H a us
 |.str x=>us=chars x)/\aM K g H us ds
section
variable{K:arO}{g g':Gh}{H H':Hp}{ds es:List Dat}{S T:Src}
theorem Src.amq{us:List V}(e:Ex H H')(h:S.sq K H us):S.sq K H' us:=by
 cases S with
 |lst a=>exact ex_l e h
 |tup a=>exact ex_t e h
 |str x=>exact h
theorem Src.ab6(h:S.cf K ds g H):S.cw K ds g H:=by
 obtain⟨us,h1,h2⟩:=h;refine⟨us,?_,h2⟩;cases S with
 |lst a=>exact Qi.sq h1
 |tup a=>exact h1
 |str x=>exact h1
theorem Src.uP:acy (S.cf K ds):=λq g g' H H' k ⟨us,h1,h2⟩ r=>by
 refine⟨us,?_,h2.gr r k⟩;cases S with
 |lst a=>exact r.ls h1
 |tup a=>exact r.sqT k h1
 |str x=>exact h1
theorem Src.Lr(k:Kd g H)(h:S.cw K ds g H)(r:Gr true g g' H H')(e:Ex H H'):S.cw K ds g' H':=by obtain⟨us,h1,h2⟩:=h;exact⟨us,Src.amq e h1,h2.gr r k⟩
theorem Src.XJ(k:Kd g H)(h:S.cw K ds g H)(e:Ex H H'):S.cw K ds g H':=Src.Lr k h (Gr.ex e) e
end
section
variable{K:arO}{ds es:List Dat}{S T:Src}
def ItS(K:arO):Src->It
 |.lst a=>Itl K a
 |.tup a=>Itt K a
 |.str x=>Its x
theorem DY{g:Gh}{H:Hp}(x:Str):aM K g H (chars x) (aam x):=by
 unfold chars aam
 induction x.cps.toList with
 |nil=>exact .nil
 |cons c cs ih=>exact .cons (.str _) ih
theorem J8.of{J:It}{C C':Gh->Hp->Prop}(w:J8 K J C ds)(h:∀g H,C' g H->C g H)(e:∀g H H',Kd g H->C' g H->Ex H H'->C' g H')(a:∀g g' H H',Kd g H->C' g H->Gr true g g' H H'->Ex H H'->C' g' H'):J8 K J C' ds where
 go:=λg i H c hi=>w.go g i H (h g H c) hi
 yld:=λg i H x H' d k c e y=>w.yld g i H x H' d k (h g H c) e y
 stop:=λg i H c e=>w.stop g i H (h g H c) e
 ex:=e
 add:=a
theorem abd:J8 K (ItS K S) (S.cw K ds) ds where
 go:=λg i H ⟨us,h1,h2⟩ hi=>by
  have hx:us[i]?=some (us[i]'(by rw[h2.length];exact hi)):=arR _;cases S with
  |lst a=>exact⟨us,_,h1,hx⟩
  |tup a=>exact⟨us,_,h1,hx⟩
  |str x=>
   show i < x.cps.size;have:=h2.length;rw[show us=chars x from h1]at this;unfold chars at this;rw[arZ,asB]at this;omega
 yld:=λg i H x H' d k ⟨us,h1,h2⟩ e y=>by
  obtain⟨v,hv,rv⟩:=h2.get e;cases S with
  |lst a=>
   obtain⟨rfl,y⟩:=y;have:x=v:=ase ((y us h1).symm.trans hv);rw[this];exact⟨Ex.refl _,rv⟩
  |tup a=>
   obtain⟨rfl,y⟩:=y;have:x=v:=ase ((y us h1).symm.trans hv);rw[this];exact⟨Ex.refl _,rv⟩
  |str z=>
   obtain⟨rfl,c,hc,rfl⟩:=y;rw[show us=chars z from h1]at hv;unfold chars at hv;rw[ar5,asK,hc]at hv;cases hv;exact⟨Ex.refl _,rv⟩
 stop:=λg i H ⟨us,h1,h2⟩ e=>by
  have hl:=h2.length;cases S with
  |lst a=>exact⟨us,h1,by omega⟩
  |tup a=>exact⟨us,h1,by omega⟩
  |str x=>
   show x.cps.size<=i;rw[show us=chars x from h1]at hl;unfold chars at hl;rw[arZ,asB]at hl;omega
 ex:=λg H H' k h e=>Src.XJ k h e
 add:=λg g' H H' k h r e=>Src.Lr k h r e
def pB(k₀:Int)(ds:List Dat):List Dat:=ds.mapIdx λi d=>.tuple [.int (k₀+(i:Int)),d]
theorem agf{k₀:Int}:J8 K (ItE K S k₀) (S.cw K ds) (pB k₀ ds) where
 go:=λg i H ⟨us,h1,h2⟩ hi=>by
  have hl:i < us.length:=by rw[h2.length];unfold pB at hi;rw[List.length_mapIdx]at hi;exact hi
  exact⟨us,us[i],h1,arR hl⟩
 yld:=λg i H x H' d k ⟨us,h1,h2⟩ e y=>by
  unfold pB at e;rw[asN]at e;cases hd:ds[i]? with
  |none=>rw[hd]at e;cases e
  |some d0=>
   rw[hd]at e;cases e;obtain⟨v,hv,rv⟩:=h2.get hd;obtain⟨T,x0,rfl,nT,rfl,y⟩:=y;have:x0=v:=ase ((y us h1).symm.trans hv);subst this;exact⟨Ex.new nT,.tup (st_of upd_same) (.cons (.int _) (.cons (rv.ex (Ex.new nT) k) .nil))⟩
 stop:=λg i H ⟨us,h1,h2⟩ e=>by
  unfold pB at e;rw[List.length_mapIdx,←h2.length]at e;exact⟨us,h1,e.symm⟩
 ex:=λg H H' k h e=>Src.XJ k h e
 add:=λg g' H H' k h r e=>Src.Lr k h r e
def wN(ds es:List Dat):List Dat:=List.zipWith (λd e=>.tuple [d,e]) ds es
theorem abE:J8 K (ItZ K S T) (λg H=>S.cw K ds g H/\T.cw K es g H) (wN ds es) where
 go:=λg i H ⟨⟨us,h1,h2⟩,⟨ws,h3,h4⟩⟩ hi=>by
  unfold wN at hi;rw[List.length_zipWith,←h2.length,←h4.length]at hi;exact⟨us,ws,us[i],ws[i],h1,h3,arR (by omega),arR (by omega)⟩
 yld:=λg i H x H' d k ⟨⟨us,h1,h2⟩,⟨ws,h3,h4⟩⟩ e y=>by
  unfold wN at e;rw[List.getElem?_zipWith]at e;cases hd:ds[i]? with
  |none=>rw[hd]at e;cases e
  |some d0=>
   cases he:es[i]? with
   |none=>rw[hd,he]at e;cases e
   |some e0=>
    rw[hd,he]at e;cases e;obtain⟨v,hv,rv⟩:=h2.get hd;obtain⟨u,hu,ru⟩:=h4.get he;obtain⟨U,x0,y0,rfl,nU,rfl,y1,y2⟩:=y;have:x0=v:=ase ((y1 us h1).symm.trans hv);subst this;have:y0=u:=ase ((y2 ws h3).symm.trans hu);subst this;exact⟨Ex.new nU,.tup (st_of upd_same) (.cons (rv.ex (Ex.new nU) k) (.cons (ru.ex (Ex.new nU) k) .nil))⟩
 stop:=λg i H ⟨⟨us,h1,h2⟩,⟨ws,h3,h4⟩⟩ e=>by
  unfold wN at e;rw[List.length_zipWith,←h2.length,←h4.length]at e;exact⟨us,ws,h1,h3,e⟩
 ex:=λg H H' k h e=>⟨Src.XJ k h.1 e,Src.XJ k h.2 e⟩
 add:=λg g' H H' k h r e=>⟨Src.Lr k h.1 r e,Src.Lr k h.2 r e⟩
def jC(lo:Int)(n:Nat):List Dat:=(List.range n).map λ(i:Nat)=>.int (lo+(i:Int))
theorem VP{lo:Int}{n:Nat}:J8 K (Itr lo n) (λ_ _=>True) (jC lo n) where
 go:=λg i H _ hi=>by
  unfold jC at hi;rw[arZ,List.length_range]at hi;exact hi
 yld:=λg i H x H' d k _ e y=>by
  obtain⟨rfl,rfl⟩:=y;unfold jC at e;rw[ar5]at e;cases hr:(List.range n)[i]? with
  |none=>rw[hr]at e;cases e
  |some j=>
   rw[hr]at e;cases e;have:j=i:=by obtain⟨h1,h2⟩:=arQ.mp hr;rw[List.getElem_range]at h2;exact h2.symm
   subst this;exact⟨Ex.refl _,.int _⟩
 stop:=λg i H _ e=>by
  unfold jC at e;rw[arZ,List.length_range]at e;show n<=i;omega
 ex:=λ_ _ _ _ _ _=>trivial
 add:=λ_ _ _ _ _ _ _ _=>trivial
end
section
variable{X:Cx}{aj:aR}{W:WX}{tg a b:Expr}{fa fb:QF}{pos p tpos:Pos}{elts:List Expr}{kk:Nat}
theorem Nm{K:arO}{g:Gh}{H:Hp}{v:V}{d:Dat}{ds:List Dat}{firm:Bool}(r:if firm=true then Rep K g H v d else dX K g H v d)(h:oE d=.ok ds):∃S,srcOf v S/\S.cw K ds g H/\(firm=true->S.cf K ds g H):=by
 have rw:dX K g H v d:=by
  cases firm with
  |true=>exact Rep.weak r
  |false=>exact r
 cases d with
 |list es=>
  cases h;obtain⟨l,us,rfl,h1,h2⟩:=gH rw;refine⟨.lst l,.inl ⟨l,rfl,rfl,.inl rfl⟩,⟨us,h1,h2⟩,λz=>?_⟩;subst z;have r:Rep K g H (.ref l) (.list ds):=r;cases r with
  |lst h3 h4=>exact⟨_,h3,h4⟩
 |tuple es=>
  cases h;obtain⟨l,us,rfl,h1,h2⟩:=lK rw;exact⟨.tup l,.inl ⟨l,rfl,rfl,.inr rfl⟩,⟨us,h1,h2⟩,λ_=>⟨us,h1,h2⟩⟩
 |str x=>
  cases h;cases jP rw;exact⟨.str x,.inr ⟨x,rfl,rfl⟩,⟨_,rfl,DY x⟩,λ_=>⟨_,rfl,DY x⟩⟩
 |_=>cases h
def tF(K:arO)(aj:aR)(W:WX)(firm:Bool)(f:QF):TE:=if firm=true then tQ K aj W f else tW K aj W f
def QF'(aj:aR)(X:Cx)(W:WX)(firm:Bool)(e:Expr)(f:QF):Prop:=PE X e (tF X.K aj W firm f)
theorem tF.go{K:arO}{firm:Bool}{g:Gh}{H:Hp}{σ:L2.St}{Z:Env}{M:Mo}{f:QF}{k:Dat->Prop}{Q:VK}(I:SInv K aj σ H g Z M)(h:(f M Z).sat k (rG K aj W g H σ))(hk:∀d v H',k d->Ex H H'->(if firm=true then Rep K g H' v d else dX K g H' v d)->Q v H'):tF K aj W firm f σ H Q:=by
 cases firm with
 |true=>exact tQ.go I h hk
 |false=>exact tW.go I h hk
theorem amF{K:arO}{firm:Bool}{g:Gh}{H H':Hp}{v:V}{d:Dat}(e:Ex H H')(k:Kd g H)(r:if firm=true then Rep K g H v d else dX K g H v d):if firm=true then Rep K g H' v d else dX K g H' v d:=by
 cases firm with
 |true=>exact Rep.ex e k r
 |false=>exact dX.ex e k r
theorem wf{K:arO}{S:Src}{firm:Bool}{J:It}{ds es:List Dat}{R:It->Hp->Prop}{g:Gh}{H H1:Hp}(h:∀J C H',Ex H H'->J8 K J C ds->C g H'->(firm=true->acy C)->R J H')(e1:Ex H H1)(w:J8 K J (S.cw K es) ds)(hw:S.cw K es g H1)(hf:firm=true->S.cf K es g H1):R J H1:=by
 cases firm with
 |true=>exact h J (S.cf K es) H1 e1 (w.of (λ_ _ z=>Src.ab6 z) (λg H H' k c e=>Src.uP true g g H H' k c (Gr.ex e)) λg g' H H' k c r e=>Src.uP true g g' H H' k c r) (hf rfl) λ_=>Src.uP
 |false=>exact h J (S.cw K es) H1 e1 w hw λz=>nomatch z
theorem Zq{firm:Bool}(ha:QF' aj X W firm a fa):QI aj X W firm tg a (cR fa):=by
 refine⟨λpins s σ H R I h=>?_⟩;obtain⟨g,Z,M,SI,hs⟩:=h;have hs:=hs.bnd;have fin:∀(S:Src) (x:V) (H1:Hp) (ds:List Dat),(∀J C H',Ex H H'->J8 X.K J C ds->C g H'->(firm=true->acy C)->R J H')->Ex H H1->S.cw X.K ds g H1->(firm=true->S.cf X.K ds g H1)->R (ItS X.K S) H1:=λS x H1 ds h e1 hw hf=>wf h e1 abd hw hf;cases hfa:fa M Z with
 |bad=>rw[hfa]at hs;exact atn hs
 |exc x=>
  rw[hfa]at hs;exact(pi_list ha).run pins s σ H R I (tF.go (k:=λ_=>False) SI (by rw[hfa];exact hs) λd v H' z=>atn z)
 |ok d=>
  rw[hfa]at hs;cases d with
  |list ds=>
   refine(pi_list ha).run pins s σ H R I (tF.go (k:=λz=>z=.list ds) SI (by rw[hfa];rfl) λd v H' z e1 r=>?_);subst z;obtain⟨S,hS,hw,hf⟩:=Nm (firm:=firm) r (ds:=ds) rfl;have rw:dX X.K g H' v (.list ds):=by
    cases firm with
    |true=>exact Rep.weak r
    |false=>exact r
   obtain⟨l,us,rfl,h1,h2⟩:=gH rw;refine⟨l,rfl,⟨us,h1⟩,?_⟩;rcases hS with⟨a',e,ha',hl|ht⟩|⟨y,_,e⟩
   ·cases e;subst hl;exact fin (.lst l) (.ref l) H' ds hs e1 hw hf
   ·cases e;subst ht;refine wf (S:=.lst l) hs e1 (abd (S:=.lst l)) ⟨us,h1,h2⟩ λz=>?_;subst z;have r:Rep X.K g H' (.ref l) (.list ds):=r;cases r with
    |lst h3 h4=>exact⟨_,h3,h4⟩
   ·cases e
  |tuple ds=>
   refine(pi_tup ha).run pins s σ H R I (tF.go (k:=λz=>z=.tuple ds) SI (by rw[hfa];rfl) λd v H' z e1 r=>?_);subst z;have rw:dX X.K g H' v (.tuple ds):=by
    cases firm with
    |true=>exact Rep.weak r
    |false=>exact r
   obtain⟨l,us,rfl,h1,h2⟩:=lK rw;exact⟨l,rfl,⟨us,h1⟩,fin (.tup l) (.ref l) H' ds hs e1 ⟨us,h1,h2⟩ λ_=>⟨us,h1,h2⟩⟩
  |str x=>
   refine(pi_str ha).run pins s σ H R I (tF.go (k:=λz=>z=.str x) SI (by rw[hfa];rfl) λd v H' z e1 r=>?_);subst z;have rw:dX X.K g H' v (.str x):=by
    cases firm with
    |true=>exact Rep.weak r
    |false=>exact r
   cases jP rw;exact⟨x,rfl,fin (.str x) (.str x) H' _ hs e1 ⟨_,rfl,DY x⟩ λ_=>⟨_,rfl,DY x⟩⟩
  |_=>exact atn hs
def Cj(a:QF):IF:=λM Z=>(a M Z).bind λd=>(Bj d).bind λn=>Out.when (decide (n<=100000/\-100000<=n)) (.ok (jC 0 n.toNat))
def Ck(a b:QF):IF:=λM Z=>(a M Z).bind λd=>(b M Z).bind λe=>(Bj d).bind λlo=>(Bj e).bind λn=>Out.when (decide (n<=100000/\-100000<=n/\lo<=100000/\-100000<=lo)) (.ok (jC lo (n - lo).toNat))
def wV(k₀:Int)(a:QF):IF:=λM Z=>(a M Z).bind λd=>(oE d).bind λds=>.ok (pB k₀ ds)
def Jk(a b:QF):IF:=λM Z=>(a M Z).bind λd=>(b M Z).bind λe=>(oE d).bind λds=>(oE e).bind λes=>.ok (wN ds es)
theorem aez{firm:Bool}(hg:Gl X "range")(hm:X.mg "range"=none)(ha:QW aj X W a fa)(hs:nst a=true):QI aj X W firm tg (.Call (.Name "range" p) [a] [] pos) (Cj fa):=by
 refine⟨λpins s σ H R I h=>?_⟩;refine(pi_range1 hg hm (pa_cons ha pa_nil (cJ hs [])) (cJ hs [])).run pins s σ H R I ?_;obtain⟨g,Z,M,SI,h⟩:=h;refine tW.go SI h.bnd λd v H1 h1 e1 r1=>?_;have h1:=h1.bnd;unfold Bj at h1;split at h1
 ·obtain⟨hz,h1⟩:=h1.pJ;have hz:=atp hz;cases cG r1;exact⟨_,rfl,by omega,by omega,h1 _ _ H1 e1 VP trivial λ_=>λ_ _ _ _ _ _ _ _=>trivial⟩
 ·exact atn h1
theorem ae9{firm:Bool}(hg:Gl X "range")(hm:X.mg "range"=none)(ha:QW aj X W a fa)(hb:QW aj X W b fb)(hs:nst a=true)(hs2:nst b=true):QI aj X W firm tg (.Call (.Name "range" p) [a,b] [] pos) (Ck fa fb):=by
 refine⟨λpins s σ H R I h=>?_⟩;refine(pi_range2 hg hm (pa_cons ha (pa_cons hb pa_nil (cJ hs2 [])) (cJ hs [b])) (by rw[cJ hs,cJ hs2];rfl) (cJ hs2 [])).run pins s σ H R I ?_;obtain⟨g,Z,M,SI,h⟩:=h;refine tW.go SI h.bnd λd v H1 h1 e1 r1=>?_;refine tW.go (SI.ex e1) (h1.bnd.mono (λ_ z=>z) λ_ z=>z.ex e1) λd2 v2 H2 h2 e2 r2=>?_;have h2:=h2.bnd;unfold Bj at h2;split at h2
 ·have h2:=Out.sat.bnd h2;split at h2
  ·obtain⟨hz,h2⟩:=Out.sat.pJ h2;have hz:=atp hz;cases cG r1;cases cG r2;exact⟨_,_,rfl,⟨by omega,by omega,by omega,by omega⟩,h2 _ _ H2 (e1.trans e2) VP trivial λ_=>λ_ _ _ _ _ _ _ _=>trivial⟩
  ·exact atn h2
 ·exact atn h2
theorem agL{firm:Bool}{k₀:Int}(σ:L2.St)(H:Hp)(R:It->Hp->Prop)(h:tI X.K aj W firm (wV k₀ fa) σ H R):iEn X.K (tCons (tF X.K aj W firm fa) tNil) k₀ σ H R:=by
 obtain⟨g,Z,M,SI,h⟩:=h;refine tF.go SI h.bnd λd v H1 h1 e1 r1=>?_;cases hd:oE d with
 |bad=>rw[hd]at h1;exact atn h1
 |exc x=>cases d<;>cases hd
 |ok ds=>
  rw[hd]at h1;obtain⟨S,hS,hw,hf⟩:=Nm r1 hd;exact⟨v,S,_,rfl,hS,hw.choose_spec.1,wf h1 e1 agf hw hf⟩
theorem ah4{firm:Bool}(hg:Gl X "enumerate")(hm:X.mg "enumerate"=none)(ha:QF' aj X W firm a fa)(hs:nst a=true):QI aj X W firm (.Tuple elts kk tpos) (.Call (.Name "enumerate" p) [a] [] pos) (wV 0 fa):=
 ⟨λpins s σ H R I h=>(amG hg hm (pa_cons ha pa_nil (cJ hs [])) hs).run pins s σ H R I (agL σ H R h)⟩
theorem afn{firm:Bool}{k₀:Int}{j:Nat}{kp kp2:Pos}(hk0 : -(2 ^ 63)<=k₀)(hk1:k₀ < 2 ^ 63)(hg:Gl X "enumerate")(hm:X.mg "enumerate"=none)(ha:QF' aj X W firm a fa)(hs:nst a=true):QI aj X W firm (.Tuple elts kk tpos) (.Call (.Name "enumerate" p) [a] [⟨some "start",.Constant (.int k₀) j kp,kp2⟩] pos) (wV k₀ fa):=
 ⟨λpins s σ H R I h=>(ai0 hk0 hk1 hg hm (pa_cons ha pa_nil (cJ hs [])) hs).run pins s σ H R I (agL σ H R h)⟩
theorem akU{firm:Bool}(hg:Gl X "zip")(hm:X.mg "zip"=none)(ha:QF' aj X W firm a fa)(hb:QF' aj X W firm b fb)(hs:nst a=true)(hs2:nst b=true):QI aj X W firm (.Tuple elts kk tpos) (.Call (.Name "zip" p) [a,b] [] pos) (Jk fa fb):=by
 refine⟨λpins s σ H R I h=>(al6 hg hm (pa_cons ha (pa_cons hb pa_nil (cJ hs2 [])) (cJ hs [b])) hs hs2).run pins s σ H R I ?_⟩;obtain⟨g,Z,M,SI,h⟩:=h;refine tF.go SI h.bnd λd v H1 h1 e1 r1=>?_;refine tF.go (SI.ex e1) (h1.bnd.mono (λ_ z=>z) λ_ z=>z.ex e1) λd2 v2 H2 h2 e2 r2=>?_;cases hd:oE d with
 |bad=>rw[hd]at h2;exact atn h2
 |exc x=>cases d<;>cases hd
 |ok ds=>
  cases he:oE d2 with
  |bad=>rw[hd,he]at h2;exact atn h2
  |exc x=>cases d2<;>cases he
  |ok es=>
   rw[hd,he]at h2;obtain⟨S,hS,hw,hf⟩:=Nm (amF e2 (SI.ex e1).kd r1) hd;obtain⟨T,hT,hw2,hf2⟩:=Nm r2 he;refine⟨v,v2,S,T,_,_,rfl,hS,hT,hw.choose_spec.1,hw2.choose_spec.1,?_⟩;cases firm with
   |true=>exact h2 _ (λg H=>S.cf X.K ds g H/\T.cf X.K es g H) H2 (e1.trans e2) (abE.of (λ_ _ z=>⟨Src.ab6 z.1,Src.ab6 z.2⟩) (λg H H' k c e=>⟨Src.uP true g g H H' k c.1 (Gr.ex e),Src.uP true g g H H' k c.2 (Gr.ex e)⟩) λg g' H H' k c r e=>⟨Src.uP true g g' H H' k c.1 r,Src.uP true g g' H H' k c.2 r⟩) ⟨hf rfl,hf2 rfl⟩ λ_=>λq g g' H H' k c r=>⟨Src.uP q g g' H H' k c.1 r,Src.uP q g g' H H' k c.2 r⟩
   |false=>exact h2 _ _ H2 (e1.trans e2) abE ⟨hw,hw2⟩ λz=>nomatch z
end
def WF:WX:=λ_ _ _ _=>False
def yD{α:Type}:Out α->Out α
 |.ok a=>.ok a
 |_=>.bad
@[simp]theorem ZS {α:Type} (a:α):yD (.ok a)=.ok a:=rfl
theorem Cq{α:Type}{o:Out α}{P:α->Prop}{E E':dG->Prop}(h:(yD o).sat P E):o.sat P E':=by
 cases o
 ·exact h
 ·exact atn h
 ·exact h
def dB(tg:fO)(tt:QT)(te:QF)(M:Mo)(Z:Env):List Dat->Out (List Dat)
 |[]=>.ok []
 |d::ds=>match tg d Z with
  |none=>.bad
  |some Z1=>(yD (tt M Z1)).bind λb=>if b=true then(yD (te M Z1)).bind λy=>(dB tg tt te M Z ds).bind λr=>.ok (y::r) else dB tg tt te M Z ds
def dY(it:IF)(tg:fO)(vs:List Nat)(tt:QT)(te:QF):QF:=λM Z=>(it M Z).bind λds=>Out.when (decide (ds.length<=50000)) ((dB tg tt te M (cC Z vs) ds).bind λr=>.ok (.list r))
def gY:QT:=λ_ _=>.ok true
def tFr(K:arO)(aj:aR)(W:WX)(f:IF):TE:=λσ H Q=>∃g Z M,SInv K aj σ H g Z M/\(f M Z).sat (λxs=>∀l us H',H l=none->Ex H H'->H' l=some (.lst us)->aM K (g.add l) H' us xs->Q (.ref l) H') (rG K aj W g H σ)
def zV(it:IF)(tg:fO)(vs:List Nat)(tt:QT)(te:QF):IF:=λM Z=>(it M Z).bind λds=>Out.when (decide (ds.length<=50000)) (dB tg tt te M (cC Z vs) ds)
section
variable{K:arO}{aj:aR}{W:WX}
theorem Y8{g:Gh}{H:Hp}{D:Addr}{o o':HO}{vs:List V}{ds:List Dat}(k:Kd g H)(h:H D=some o)(l:g.Lo D)(r:aM K g H vs ds):aM K g (upd H D o') vs ds:=r.gr (Gr.upd (q:=true) k h (.inr l)) k
theorem ah7{g:Gh}{H:Hp}{D:Addr}{o o':HO}{v:V}{d:Dat}(k:Kd g H)(h:H D=some o)(l:g.Lo D)(r:Rep K g H v d):Rep K g (upd H D o') v d:=r.gr (Gr.upd (q:=true) k h (.inr l)) k
theorem rK{tg:fO}{tt:QT}{te:QF}{M:Mo}{Z:Env}:∀{ds:List Dat} {x:dG},dB tg tt te M Z ds≠.exc x
 |[],_,h=>nomatch h
 |d::ds,x,h=>by
  rw[dB]at h;split at h
  ·cases h
  ·next Z1 e=>
   cases h1:tt M Z1 with
   |bad=>rw[h1]at h;cases h
   |exc y=>rw[h1]at h;cases h
   |ok b=>
    rw[h1]at h;cases b with
    |false=>exact rK h
    |true=>
     have h:((yD (te M Z1)).bind λy=>(dB tg tt te M Z ds).bind λr=>Out.ok (y::r))=.exc x:=h;cases h2:te M Z1 with
     |bad=>rw[h2]at h;cases h
     |exc y=>rw[h2]at h;cases h
     |ok y=>
      rw[h2]at h;cases h3:dB tg tt te M Z ds with
      |bad=>rw[h3]at h;cases h
      |exc z=>exact rK h3
      |ok r=>rw[h3]at h;cases h
theorem Qm(σ:L2.St)(i:Nat):∀vs:List Nat,(L2.wipe σ vs)[i]?=if i∈vs then(σ[i]?).map (λ_=>none) else σ[i]?
 |[]=>by simp[L2.wipe]
 |v::vs=>by
  show((L2.wipe σ vs).set v none)[i]?=_
  by_cases h:v=i
  ·subst h;by_cases hl:v < σ.length
   ·rw[ar8 (by rw[wipe_length];exact hl),if_pos arU,arR hl];rfl
   ·have h1:σ[v]?=none:=List.getElem?_eq_none_iff.mpr (by omega);rw[if_pos arU,h1,List.getElem?_eq_none_iff.mpr (by rw[aso,wipe_length];omega)];rfl
  ·rw[arX h,Qm σ i vs];have:i∈v::vs↔i∈vs:=⟨λz=>by
    rcases ar4.mp z with z|z
    ·exact absurd z.symm h
    ·exact z,arS _⟩
   simp only[this]
theorem Ei(σ:L2.St)(vs:List Nat):L2.wipe (L2.wipe σ vs) vs=L2.wipe σ vs:=by
 apply asq;intro i;rw[Qm (L2.wipe σ vs) i vs,Qm σ i vs];split
 ·cases σ[i]?<;>rfl
 ·rfl
theorem Z7{it:IF}{tg:fO}{js vs:List Nat}{tt:QT}{te:QF}(hj:∀j∈js,j∈vs)(σ:L2.St)(H:Hp)(Q:VK)(h:tFr K aj W (zV it tg vs tt te) σ H Q) :
  tLc (tI K aj W false it) (Av K aj js tg) (j7 K aj WF tt) (tQ K aj WF te) vs σ H Q:=by
 obtain⟨g,Z,M,I,h⟩:=h;refine⟨g,Z,M,I,h.bnd.mono (λds hk J C H1 e1 w c _ D nD=>?_) λ_ z=>z⟩;obtain⟨hz,hk⟩:=hk.pJ;have hlen:=atp hz;obtain⟨total,htot,hQ⟩:∃total,dB tg tt te M (cC Z vs) ds=.ok total/\∀l us H',H l=none->Ex H H'->H' l=some (.lst us)->aM K (g.add l) H' us total->Q (.ref l) H':=by
  cases hc:dB tg tt te M (cC Z vs) ds with
  |bad=>rw[hc]at hk;exact atn hk
  |exc x=>exact absurd hc rK
  |ok total=>
   rw[hc]at hk;exact⟨total,rfl,hk⟩
 have I1:=(I.ex e1).wipe vs;have kD:∀{Ha:Hp} {us:List V},Ex H1 Ha->Ha D=some (.lst us)->SInv K aj (L2.wipe σ vs) Ha (g.add D) (cC Z vs) M:=λea hu=>I1.add nD ea hu trivial
 let Pv:Nat->Hp->Prop:=λi Ha=>Ex H1 Ha/\i<=ds.length/\∃us ys,Ha D=some (.lst us)/\aM K (g.add D) Ha us ys/\ys.length<=i/\(dB tg tt te M (cC Z vs) (ds.drop i)).sat (λr=>total=ys++r) λ_=>False
 refine⟨λi m Ha=>m=ds.length - i/\Pv i Ha,⟨ds.length,rfl,Ex.new nD,asJ _,[],[],upd_same,.nil,asn _,?_⟩,?_⟩
 ·rw[atl,htot];rfl
 ·rintro i m Ha ⟨rfl,ea,hi,us,ys,hu,hU,hy,hs⟩;have Ia:=kD ea hu;have Ca:=w.add g (g.add D) H1 Ha (I.kd.ex e1) c (Gh.FZ nD ea) ea;by_cases hlt:i < ds.length
  ·refine .inr ⟨w.go _ i Ha Ca hlt,Pv (i+1),λH' p=>⟨ds.length - (i+1),by omega,rfl,p⟩,λx H' y=>?_⟩;have hd:ds[i]?=some ds[i]:=arR hlt;obtain⟨e2,rx⟩:=w.yld _ i Ha x H' _ Ia.kd Ca hd y;have I2:=Ia.ex e2;rw[asU hlt,dB]at hs;split at hs
   ·exact atn hs
   ·next Z1 he=>
    refine⟨g.add D,_,M,_,Z1,I2,rx,he,λws I3=>⟨Ak js ws _ vs hj |>.trans (Ei σ vs),?_⟩⟩;refine j7.go I3 (Cq hs.bnd) λb H3 hb e3=>?_;have I4:=I3.ex e3;have hu3:=e3 _ _ (e2 _ _ hu);have hU3:=(hU.ex e2 Ia.kd).ex e3 I2.kd;cases b with
    |false=>
     have hb:(dB tg tt te M (cC Z vs) (ds.drop (i+1))).sat (λr=>total=ys++r) λ_=>False:=hb;exact⟨(ea.trans e2).trans e3,hlt,us,ys,hu3,hU3,Nat.le_succ_of_le hy,hb⟩
    |true=>
     have hb:((yD (te M Z1)).bind λy=>(dB tg tt te M (cC Z vs) (ds.drop (i+1))).bind λr=>Out.ok (y::r)).sat (λr=>total=ys++r) λ_=>False:=hb;refine tQ.go I4 (Cq hb.bnd) λy v H4 hyv e4 ry=>?_;have I5:=I4.ex e4;have hu4:=e4 _ _ hu3;have hU4:=hU3.ex e4 I4.kd;have lD:(g.add D).Lo D:=.inr rfl;refine⟨us,hu4,sz_lt (by rw[hU.length];omega),Ex.mut (((ea.trans e2).trans e3).trans e4) nD,hlt,us++[v],ys++[y],upd_same,?_,by simp;omega,hyv.bnd.mono (λr hr=>?_) λ_ z=>z⟩
     ·exact Y8 I5.kd hu4 lD (hU4.append (.cons ry .nil))
     ·have hr:total=ys++y::r:=hr;rw[hr];simp
  ·have e:i=ds.length:=by omega
   refine .inl ⟨w.stop _ i Ha Ca e,?_⟩;rw[e,as4]at hs;have hs:total=ys++[]:=hs;rw[asR]at hs;subst hs;exact hQ D us Ha (Ds e1 D nD) (e1.trans ea) hu hU
theorem agZ{it:IF}{tg:fO}{js vs:List Nat}{tt:QT}{te:QF}(hj:∀j∈js,j∈vs)(σ:L2.St)(H:Hp)(Q:VK)(h:tQ K aj W (dY it tg vs tt te) σ H Q) :
  tLc (tI K aj W false it) (Av K aj js tg) (j7 K aj WF tt) (tQ K aj WF te) vs σ H Q:=by
 obtain⟨g,Z,M,I,h⟩:=h;refine Z7 hj σ H Q ⟨g,Z,M,I,?_⟩;unfold zV;unfold dY at h;cases hi:it M Z with
 |bad=>rw[hi]at h;exact atn h
 |exc x=>rw[hi]at h;exact h
 |ok ds=>
  rw[hi]at h;obtain⟨hz,h⟩:=Out.sat.pJ h;have h:=h.bnd
  show(Out.when (decide (ds.length<=50000)) (dB tg tt te M (cC Z vs) ds)).sat _ _
  rw[hz,Out.W6];exact h.mono (λxs z l us H' n e hl r=>z _ H' e (.lst (.inl ⟨.inl hl,I.kd.fresh n⟩) (aM.less (g:=g.add l) (g':=g) rfl (λa z=>z.elim .inl λz=>.inr (z.elim .inl λz=>.inr (.inl z))) r))) λ_ z=>z
end
section
variable{X:Cx}{aj:aR}{W:WX}{elt tg iter:Expr}{pos p tpos:Pos}
theorem aj5{X:Cx}:Takes X WF:=λu s' ⟨a,B,sI,pins,σ,H,cls,d,e,I,nb,up,sky,na,os,ag,w⟩=>atn w
theorem alZ{scope:Scope}{own:List (Str×Nat)}{it:IF}{tgf:fO}{js:List Nat}{tt:QT}{te:QF}{ifs:List Expr}(hc:X.calm=true)(hN:X.N.Nodup)(hi:QI aj X W false tg iter it)(ok:blkC X.N X.env.scope scope own=true)(hj:∀j∈js,j∈own.map (·.2))
  (hg:∀(s:Shared) (H:Hp) (C:Addr) (cl:List (Str×Addr)) (fp:List Addr),QG aj (X.blk s H scope (compEnvC scope cl C X.env) fp) tg js tgf)
  (ht:∀(s:Shared) (H:Hp) (C:Addr) (cl:List (Str×Addr)) (fp:List Addr),PTs (X.blk s H scope (compEnvC scope cl C X.env) fp) ifs (j7 X.K aj WF tt))
  (he:∀(s:Shared) (H:Hp) (C:Addr) (cl:List (Str×Addr)) (fp:List Addr),QE aj (X.blk s H scope (compEnvC scope cl C X.env) fp) WF elt te) (hs:∀x,foldedSetIterable iter X.env x=pure x) :
  QE aj X W (.ListComp elt [⟨tg,iter,ifs,0⟩] scope pos) (dY it tgf (own.map (·.2)) tt te):=
 PE.weak (pe_lc (g:=Av X.K aj js tgf) (tt:=j7 X.K aj WF tt) (te:=tQ X.K aj WF te) hc hN hi (blkOk_by ok) (λs H C cl fp=>hg s H C cl fp) ht (λs H C cl fp=>he s H C cl fp) hs) λσ H Q h=>agZ hj σ H Q h
theorem amQ{scope:Scope}{own:List (Str×Nat)}{it:IF}{tgf:fO}{js:List Nat}{tt:QT}{te:QF}{ifs:List Expr}(hc:X.calm=true)(hN:X.N.Nodup)(hi:QI aj X W false tg iter it)(ok:blkC X.N X.env.scope scope own=true)(hj:∀j∈js,j∈own.map (·.2))
  (hg:∀(s:Shared) (H:Hp) (C:Addr) (cl:List (Str×Addr)) (fp:List Addr),QG aj (X.blk s H scope (compEnvC scope cl C X.env) fp) tg js tgf)
  (ht:∀(s:Shared) (H:Hp) (C:Addr) (cl:List (Str×Addr)) (fp:List Addr),PTs (X.blk s H scope (compEnvC scope cl C X.env) fp) ifs (j7 X.K aj WF tt))
  (he:∀(s:Shared) (H:Hp) (C:Addr) (cl:List (Str×Addr)) (fp:List Addr),QE aj (X.blk s H scope (compEnvC scope cl C X.env) fp) WF elt te) (hs:∀x,foldedSetIterable iter X.env x=pure x) :
  PE X (.ListComp elt [⟨tg,iter,ifs,0⟩] scope pos) (tFr X.K aj W (zV it tgf (own.map (·.2)) tt te)):=
 PE.weak (pe_lc (g:=Av X.K aj js tgf) (tt:=j7 X.K aj WF tt) (te:=tQ X.K aj WF te) hc hN hi (blkOk_by ok) (λs H C cl fp=>hg s H C cl fp) ht (λs H C cl fp=>he s H C cl fp) hs) λσ H Q h=>Z7 hj σ H Q h
end
def bx.sat{α:Type}(o:bx α)(P:α->Mo->Prop)(E:dG->Mo->Prop):Prop:=
 match o with
 |.ok a M=>P a M
 |.exc x M=>E x M
 |.bad=>False
def bx.bind{α β:Type}(o:bx α)(k:α->Mo->bx β):bx β:=
 match o with
 |.ok a M=>k a M
 |.exc x M=>.exc x M
 |.bad=>.bad
@[simp]theorem bx.yS {α β:Type} (a:α) (M:Mo) (k:α->Mo->bx β):(bx.ok a M).bind k=k a M:=rfl
@[simp]theorem bx.af4 {α β:Type} (x:dG) (M:Mo) (k:α->Mo->bx β):(bx.exc x M:bx α).bind k=.exc x M:=rfl
@[simp]theorem bx.afe {α β:Type} (k:α->Mo->bx β):(bx.bad:bx α).bind k=.bad:=rfl
theorem bx.sat.bnd{α β:Type}{o:bx α}{k:α->Mo->bx β}{P:β->Mo->Prop}{E:dG->Mo->Prop}(h:(o.bind k).sat P E):o.sat (λa M=>(k a M).sat P E) E:=by cases o<;>exact h
theorem bx.sat.mono{α:Type}{o:bx α}{P P':α->Mo->Prop}{E E':dG->Mo->Prop}(h:o.sat P E)(hp:∀a M,P a M->P' a M)(he:∀x M,E x M->E' x M):o.sat P' E':=by
 cases o
 ·exact hp _ _ h
 ·exact he _ _ h
 ·exact h
def Out.at{α:Type}(o:Out α)(M:Mo):bx α:=
 match o with
 |.ok a=>.ok a M
 |.exc x=>.exc x M
 |.bad=>.bad
@[simp]theorem Out.arF {α:Type} (a:α) (M:Mo):(Out.ok a).at M=.ok a M:=rfl
@[simp]theorem Out.aqe {α:Type} (x:dG) (M:Mo):(Out.exc x:Out α).at M=.exc x M:=rfl
@[simp]theorem Out.ap4 {α:Type} (M:Mo):(Out.bad:Out α).at M=.bad:=rfl
theorem Out.iV{α:Type}{o:Out α}{M:Mo}{P:α->Mo->Prop}{E:dG->Mo->Prop}(h:(o.at M).sat P E):o.sat (λa=>P a M) λx=>E x M:=by cases o<;>exact h
abbrev GF:=Mo->Env->bx Dat
abbrev GT:=Mo->Env->bx Bool
def tK.sat(o:tK)(nx:Env->Mo->Prop)(rt:Dat->Mo->Prop)(bk ct:Env->Mo->Prop)(ex:dG->Env->Mo->Prop):Prop:=
 match o with
 |.next Z M=>nx Z M
 |.ret d M=>rt d M
 |.brk Z M=>bk Z M
 |.cont Z M=>ct Z M
 |.exc x Z M=>ex x Z M
 |.bad=>False
theorem tK.sat.mono{o:tK}{nx nx':Env->Mo->Prop}{rt rt':Dat->Mo->Prop}{bk bk' ct ct':Env->Mo->Prop}{ex ex':dG->Env->Mo->Prop}(h:o.sat nx rt bk ct ex)(h1:∀Z M,nx Z M->nx' Z M)(h2:∀d M,rt d M->rt' d M)(h3:∀Z M,bk Z M->bk' Z M)(h4:∀Z M,ct Z M->ct' Z M)(h5:∀x Z M,ex x Z M->ex' x Z M):o.sat nx' rt' bk' ct' ex':=by
 cases o
 ·exact h1 _ _ h
 ·exact h2 _ _ h
 ·exact h3 _ _ h
 ·exact h4 _ _ h
 ·exact h5 _ _ _ h
 ·exact h
abbrev SF:=Mo->Env->tK
def Gh.fr(g:Gh):Gh:={ g with Lo:=λ_=>False }
section
variable(K:arO)(aj:aR)(W:WX)(q:Bool)
def gE(g:Gh)(H:Hp)(σ:L2.St)(Z:Env)(x:dG)(M':Mo):Prop:=∀H' g' c dd,Gr q g g' H H'->SInv K aj σ H' g' Z M'->qH K aj g' H' x c dd->W c dd σ H'
def tE(f:GF):TE:=λσ H Q=>∃g Z M,SInv K aj σ H g Z M/\(f M Z).sat (λd M'=>∀v H' g',Gr q g g' H H'->SInv K aj σ H' g' Z M'->Rep K g' H' v d->Q v H') (gE K aj W q g H σ Z)
def tET(f:GT):TT:=λσ H Q=>∃g Z M,SInv K aj σ H g Z M/\(f M Z).sat (λb M'=>∀H' g',Gr q g g' H H'->SInv K aj σ H' g' Z M'->Q b H') (gE K aj W q g H σ Z)
def sN(k:L2.St->Hp->Prop)(g:Gh)(H:Hp)(Z':Env)(M':Mo):Prop:=∀σ' H' g',Gr q g g' H H'->SInv K aj σ' H' g' Z' M'->k σ' H'
def sR(k:VK)(g:Gh)(H:Hp)(d:Dat)(M':Mo):Prop:=∀v H' g',Gr q g g' H H'->Kd g'.fr H'->fZ K aj g'.fr H' M'->Rep K g'.fr H' v d->k v H'
def sX(g:Gh)(H:Hp)(x:dG)(Z':Env)(M':Mo):Prop:=∀σ' H' g' c dd,Gr q g g' H H'->SInv K aj σ' H' g' Z' M'->qH K aj g'.fr H' x c dd->W c dd σ' H'
def tS(f:SF):TS:=λD σ H=>∃g Z M,SInv K aj σ H g Z M/\(f M Z).sat (sN K aj q D.nx g H) (sR K aj q D.rt g H) (sN K aj q D.bk g H) (sN K aj q D.ct g H) (sX K aj W q g H)
end
section
variable{K:arO}{aj:aR}{W:WX}{q:Bool}{g g1:Gh}{H H1:Hp}{σ:L2.St}{Z:Env}{M:Mo}
theorem gE.gr{x:dG}{M':Mo}(r:Gr q g g1 H H1)(h:gE K aj W q g H σ Z x M'):gE K aj W q g1 H1 σ Z x M':=λH' g' c dd r' I z=>h H' g' c dd (r.trans r') I z
theorem sN.gr{k:L2.St->Hp->Prop}{Z':Env}{M':Mo}(r:Gr q g g1 H H1)(h:sN K aj q k g H Z' M'):sN K aj q k g1 H1 Z' M':=λσ' H' g' r' I=>h σ' H' g' (r.trans r') I
theorem sR.gr{k:VK}{d:Dat}{M':Mo}(r:Gr q g g1 H H1)(h:sR K aj q k g H d M'):sR K aj q k g1 H1 d M':=λv H' g' r' I z y=>h v H' g' (r.trans r') I z y
theorem sX.gr{x:dG}{Z':Env}{M':Mo}(r:Gr q g g1 H H1)(h:sX K aj W q g H x Z' M'):sX K aj W q g1 H1 x Z' M':=λσ' H' g' c dd r' I z=>h σ' H' g' c dd (r.trans r') I z
theorem tE.go{f:GF}{k:Dat->Mo->Prop}{Q:VK}(I:SInv K aj σ H g Z M)(h:(f M Z).sat k (gE K aj W q g H σ Z))(hk:∀d M' v H' g',k d M'->Gr q g g' H H'->SInv K aj σ H' g' Z M'->Rep K g' H' v d->Q v H'):tE K aj W q f σ H Q:=
 ⟨g,Z,M,I,h.mono (λd M' hd v H' g' e I' r=>hk d M' v H' g' hd e I' r) λ_ _ z=>z⟩
theorem tET.go{f:GT}{k:Bool->Mo->Prop}{Q:Bool->Hp->Prop}(I:SInv K aj σ H g Z M)(h:(f M Z).sat k (gE K aj W q g H σ Z))(hk:∀b M' H' g',k b M'->Gr q g g' H H'->SInv K aj σ H' g' Z M'->Q b H'):tET K aj W q f σ H Q:=
 ⟨g,Z,M,I,h.mono (λd M' hd H' g' e I'=>hk d M' H' g' hd e I') λ_ _ z=>z⟩
theorem tS.go{f:SF}{D:Ends}(I:SInv K aj σ H1 g1 Z M)(r:Gr q g g1 H H1)(h:(f M Z).sat (sN K aj q D.nx g H) (sR K aj q D.rt g H) (sN K aj q D.bk g H) (sN K aj q D.ct g H) (sX K aj W q g H)):tS K aj W q f D σ H1:=
 ⟨g1,Z,M,I,h.mono (λ_ _ z=>z.gr r) (λ_ _ z=>z.gr r) (λ_ _ z=>z.gr r) (λ_ _ z=>z.gr r) (λ_ _ _ z=>z.gr r)⟩
theorem lA.less{g':Gh}{fs:List (Str×V)}{gs:List (Str×Dat)}(e:g'.tbl=g.tbl)(n:∀a,g'.A a->g.A a)(h:lA K g H fs gs):lA K g' H fs gs:=by
 induction h with
 |nil=>exact .nil
 |cons r _ ih=>exact .cons (r.less e n) ih
theorem qH.less{g':Gh}{x:dG}{c:Value}{dd:Option Addr}(e:g'.tbl=g.tbl)(n:∀a,g'.A a->g.A a)(h:qH K aj g H x c dd):qH K aj g' H x c dd:=by obtain⟨C,h1,h2,h3⟩:=h;refine⟨C,h1,h2,h3.imp id λ⟨a,fs,e1,e2,e3⟩=>⟨a,fs,e1,e2,e3.less e n⟩⟩
theorem wC(g:Gh):∀a,g.fr.A a->g.A a:=λa z=>z.elim .inl λz=>.inr (z.elim .inl λz=>atn z)
theorem Rep.fr{v:V}{d:Dat}(h:Rep K g H v d):Rep K g.fr H v d:=Rep.less (g:=g) (g':=g.fr) rfl (wC g) h
theorem aM.fr{v:List V}{d:List Dat}(h:aM K g H v d):aM K g.fr H v d:=aM.less (g:=g) (g':=g.fr) rfl (wC g) h
theorem qH.fr{x:dG}{c:Value}{dd:Option Addr}(h:qH K aj g H x c dd):qH K aj g.fr H x c dd:=qH.less (g:=g) (g':=g.fr) rfl (wC g) h
end
def GE(aj:aR)(X:Cx)(W:WX)(q:Bool)(e:Expr)(f:GF):Prop:=PE X e (tE X.K aj W q f)
def GTe(aj:aR)(X:Cx)(W:WX)(q:Bool)(e:Expr)(f:GT):Prop:=PT X e (tET X.K aj W q f)
def SE(aj:aR)(X:Cx)(W:WX)(q:Bool)(s:Stmt)(f:SF):Prop:=PS X s (tS X.K aj W q f)
def JN(aj:aR)(X:Cx)(W:WX)(q:Bool)(s:List Stmt)(f:SF):Prop:=PSs X s (tS X.K aj W q f)
theorem PS.weak{X:Cx}{e:Stmt}{t t':TS}(h:PS X e t)(k:∀D σ H,t' D σ H->t D σ H):PS X e t':=⟨λpins s σ H D I z=>h.run pins s σ H D I (k D σ H z)⟩
theorem PSs.weak{X:Cx}{e:List Stmt}{t t':TS}(h:PSs X e t)(k:∀D σ H,t' D σ H->t D σ H):PSs X e t':=⟨λpins s σ H D I z=>h.run pins s σ H D I (k D σ H z)⟩
def gOf(f:QF):GF:=λM Z=>(f M Z).at M
def agc(f:QT):GT:=λM Z=>(f M Z).at M
section
variable{X:Cx}{aj:aR}{W:WX}{q:Bool}{a b e:Expr}{pos:Pos}
theorem agA{f:QF}(h:QE aj X W e f):GE aj X W q e (gOf f):=PE.weak h λσ H Q ⟨g,Z,M,I,z⟩=>
 ⟨g,Z,M,I,(Out.iV z).mono (λd k v H' e r=>k v H' g (Gr.ex e) (I.ex e) r) λx k H' c dd e r=>k H' g c dd (Gr.ex e) (I.ex e) r⟩
theorem amO{f:QT}(h:sU aj X W e f):GTe aj X W q e (agc f):=PT.weak h λσ H Q ⟨g,Z,M,I,z⟩=>
 ⟨g,Z,M,I,(Out.iV z).mono (λd k H' e=>k H' g (Gr.ex e) (I.ex e)) λx k H' c dd e r=>k H' g c dd (Gr.ex e) (I.ex e) r⟩
def aW:SF:=λM Z=>.next Z M
def aD(f k:SF):SF:=λM Z=>match f M Z with
 |.next Z' M'=>k M' Z'
 |o=>o
theorem aj8:JN aj X W q [] aW:=PSs.weak pss_nil λD σ H ⟨g,Z,M,I,z⟩=>z σ H g .refl I
theorem alH{s:Stmt}{f:SF}(h:SE aj X W q s f):JN aj X W q [s] f:=pss_one h
theorem ah9{s:Stmt}{ss:List Stmt}{f k:SF}(h:SE aj X W q s f)(hs:JN aj X W q ss k):JN aj X W q (s::ss) (aD f k):=by
 refine PSs.weak (pss_cons h hs) λD σ H ⟨g,Z,M,I,z⟩=>?_;refine⟨g,Z,M,I,?_⟩;unfold aD at z;cases hf:f M Z with
 |next Z' M'=>
  rw[hf]at z;exact λσ' H' g' r I'=>tS.go I' r z
 |ret d M'=>rw[hf]at z;exact z
 |brk Z' M'=>rw[hf]at z;exact z
 |cont Z' M'=>rw[hf]at z;exact z
 |exc x Z' M'=>rw[hf]at z;exact z
 |bad=>rw[hf]at z;exact z
def bx.then{α:Type}(o:bx α)(Z:Env)(k:α->Mo->tK):tK:=
 match o with
 |.ok a M=>k a M
 |.exc x M=>.exc x Z M
 |.bad=>.bad
@[simp]theorem bx.aoo {α:Type} (a:α) (M:Mo) (Z:Env) (k:α->Mo->tK):(bx.ok a M).then Z k=k a M:=rfl
@[simp]theorem bx.anw {α:Type} (x:dG) (M:Mo) (Z:Env) (k:α->Mo->tK):(bx.exc x M:bx α).then Z k=.exc x Z M:=rfl
@[simp]theorem bx.anM {α:Type} (Z:Env) (k:α->Mo->tK):(bx.bad:bx α).then Z k=.bad:=rfl
theorem dw{α:Type}{K:arO}{g:Gh}{H:Hp}{σ:L2.St}{Z:Env}{o:bx α}{k:α->Mo->tK}{nx bk ct:Env->Mo->Prop}{rt:Dat->Mo->Prop}(h:(o.then Z k).sat nx rt bk ct (sX K aj W q g H)):o.sat (λa M=>(k a M).sat nx rt bk ct (sX K aj W q g H)) (gE K aj W q g H σ Z):=by
 cases o with
 |ok a M=>exact h
 |exc x M=>exact λH' g' c dd r I z=>h σ H' g' c dd r I z.fr
 |bad=>exact h
def aZ(tg:fO)(f:GF):SF:=λM Z=>(f M Z).then Z λd M'=>match tg d Z with
 |some Z'=>.next Z' M'
 |none=>.bad
theorem YJ{tg:Expr}{js:List Nat}{tf:fO}{f:GF}(he:GE aj X W q e f)(hg:QG aj X tg js tf)(hs:swapsWithSole [tg] e pos.line X.env=pure false)(hw:swappedStores [tg] e X.env=pure none)(h1:(assignEach [tg] X.env).map (·.2)=[assign tg X.env]):SE aj X W q (.Assign [tg] e pos) (aZ tf f):=by
 refine PS.weak (ps_asg he hg hs hw h1) λD σ H ⟨g,Z,M,I,z⟩=>?_;refine tE.go I (dw (σ:=σ) z) λd M' v H' g' k r I' rv=>?_;split at k
 ·next Z' e'=>exact⟨g',Z,M',d,Z',I',rv,e',λvs I2=>k _ H' g' r I2⟩
 ·exact atn k
def cH(f:GF):SF:=λM Z=>(f M Z).then Z λ_ M'=>.next Z M'
theorem Ve{f:GF}(he:GE aj X W q e f)(hs:swapsWith e none pos.line X.env=pure false):SE aj X W q (.Expr e pos) (cH f):=by refine PS.weak (ps_expr he hs) λD σ H ⟨g,Z,M,I,z⟩=>?_;exact tE.go I (dw (σ:=σ) z) λd M' v H' g' k r I' rv=>k σ H' g' r I'
end
def R3:Cell->Cell
 |.mut xs=>.dat (.list xs)
 |c=>c
def pF(Z:Env):Env:=Z.map λo=>o.map R3
section
variable{K:arO}{aj:aR}{W:WX}{q:Bool}{g:Gh}{H:Hp}{σ:L2.St}{Z:Env}{M:Mo}
theorem jy.less{g':Gh}{l:Addr}(e:g'.tbl=g.tbl)(n:∀a,g'.A a->g.A a):∀{b:Bool} {kvs:List (Dat×Dat)},jy K aj g H l b kvs->jy K aj g' H l b kvs
 |false,_,⟨kv,h1,h2,h3⟩=>⟨kv,h1,h2,h3.less e n⟩
 |true,_,⟨o,xs,vs,h1,h2,h3,h4,h5,h6⟩=>⟨o,xs,vs,h1,h2,h3,h4.less e n,h5,h6.less e n⟩
theorem dU.less{g':Gh}{h:Nat}{f:Str}{v:V}(e:g'.tbl=g.tbl)(e2:g'.ow=g.ow)(n:∀a,g'.A a->g.A a):∀{fl:jc},dU K aj g H h f v fl->dU K aj g' H h f v fl
 |.dat _,z=>Rep.less e n z
 |.lst _ _,⟨l,us,h1,h2,h3,h4,h5⟩=>⟨l,us,h1,h2,by rw[e2];exact h3,h4.less e n,by rw[e];exact h5⟩
 |.dic _ _,⟨l,h1,h2,h3⟩=>⟨l,h1,by rw[e2];exact h2,h3.less e n⟩
theorem cM.less{g':Gh}{h:Nat}(e:g'.tbl=g.tbl)(e2:g'.ow=g.ow)(n:∀a,g'.A a->g.A a):∀{fs:List (Str×V)} {gs:List (Str×jc)},cM K aj g H h fs gs->cM K aj g' H h fs gs
 |_,_,.nil=>.nil
 |_,_,.cons z t=>.cons (dU.less e e2 n z) (cM.less e e2 n t)
theorem fZ.less{g':Gh}(e:g'.tbl=g.tbl)(e2:g'.ow=g.ow)(n:∀a,g'.A a->g.A a)(w:fZ K aj g H M):fZ K aj g' H M where
 len:=by rw[e];exact w.len
 inj:=by rw[e];exact w.inj
 ins:=λh a i ha hi hc=>by
  rw[e]at ha;obtain⟨C,dx,fs,c1,c2,c3⟩:=w.ins h a i ha hi hc;exact⟨C,dx,fs,c1,c2,c3.less e e2 n⟩
 nd:=w.nd
 fd:=w.fd
 tw:=by rw[e,e2];exact w.tw
 dm:=w.dm
 nc:=w.nc
theorem Qp{i:Nat}{c:Cell}(h:(pF Z)[i]?=some (some c)):∃c',Z[i]?=some (some c')/\c=R3 c':=by
 unfold pF at h;rw[ar5]at h;cases hr:Z[i]? with
 |none=>rw[hr]at h;cases h
 |some o=>
  rw[hr]at h;cases o with
  |none=>cases h
  |some c'=>
   cases h;exact⟨c',rfl,rfl⟩
theorem SInv.pF(I:SInv K aj σ H g Z M):SInv K aj σ H g.fr (pF Z) M where
 kd:=⟨λa z=>I.kd.ob a (wC g a z),λa z=>atn z,λa z=>⟨(I.kd.lc a z).1,λy=>y⟩⟩
 wok:=fZ.less (g:=g) (g':=g.fr) rfl rfl (wC g) I.wok
 len:=by unfold Rf.pF;rw[arZ];exact I.len
 dat:=λi d h=>by
  obtain⟨c,h1,h2⟩:=Qp h;cases c with
  |dat d'=>
   cases h2;obtain⟨v,e1,e2⟩:=I.dat i _ h1;exact⟨v,e1,e2.fr⟩
  | «mut» xs=>
   cases h2;obtain⟨l,us,e1,e2,e3,e4⟩:=I.own i _ h1;refine⟨_,e1,.lst (.inl ⟨.inl e2,λz=>?_⟩) e4.fr⟩;rcases z with z|z|z
   ·exact I.kd.lo l e3 z
   ·exact(I.kd.lc l z).2 e3
   ·exact z
 own:=λi xs h=>by
  obtain⟨c,h1,h2⟩:=Qp h;cases c<;>cases h2
 sep:=λi j xs ys l ne h1=>by
  obtain⟨c,h1,h2⟩:=Qp h1;cases c<;>cases h2
end
section
variable{K:arO}{aj:aR}{W:WX}{q:Bool}{g g':Gh}{H H':Hp}{σ:L2.St}{Z:Env}{M:Mo}
theorem Kd.fr(k:Kd g H):Kd g.fr H:=⟨λa z=>k.ob a (wC g a z),λa z=>atn z,λa z=>⟨(k.lc a z).1,λy=>y⟩⟩
theorem fZ.fr(w:fZ K aj g H M):fZ K aj g.fr H M:=fZ.less (g:=g) (g':=g.fr) rfl rfl (wC g) w
theorem bK{α:Type}{l:List (Option α)}{j i:Nat}{c:α}{o:Option α}(h:(l.set j o)[i]?=some (some c)):(j=i/\o=some c/\j < l.length)∨(j≠i/\l[i]?=some (some c)):=by
 by_cases z:j=i
 ·subst z;have hj:j < l.length:=by
   have:=(arQ.mp h).1;rw[aso]at this;exact this
  rw[ar8 hj]at h;exact .inl ⟨rfl,ase h,hj⟩
 ·rw[arX z]at h;exact .inr ⟨z,h⟩
theorem SInv.ajK{j:Nat}{l:Addr}{us:List V}{xs:List Dat}(I:SInv K aj σ H g Z M)(n:H l=none)(e:Ex H H')(hl:H' l=some (.lst us))(r:aM K (g.add l) H' us xs):SInv K aj (σ.set j (some (.ref l))) H' (g.add l) (Z.set j (some (.mut xs))) M:=by
 have I1:=I.add n e hl trivial;have nl:∀(i:Nat) (ys:List Dat),Z[i]?=some (some (.mut ys))->σ[i]?≠some (some (.ref l)):=λi ys h z=>by
  obtain⟨l',us',h1,h2,_⟩:=I.own i ys h;rw[z]at h1;cases h1;rw[n]at h2;cases h2
 refine⟨I1.kd,I1.wok,by rw[aso,aso];exact I.len,λi d h=>?_,λi ys h=>?_,λi k ys zs a ne h1 h2 h3 h4=>?_⟩
 ·rcases bK h with⟨_,h,_⟩|⟨ne,h⟩
  ·cases h
  ·rw[arX ne];exact I1.dat i d h
 ·rcases bK h with⟨rfl,h,hj⟩|⟨ne,h⟩
  ·cases h;exact⟨l,us,by rw[ar8 (by rw[I.len];exact hj)],hl,.inr rfl,r⟩
  ·rw[arX ne];exact I1.own i ys h
 ·rcases bK h1 with⟨rfl,h1,hj⟩|⟨n1,h1⟩
  ·rcases bK h2 with⟨rfl,h2,_⟩|⟨n2,h2⟩
   ·exact ne rfl
   ·rw[ar8 (by rw[I.len];exact hj)]at h3;cases h3;rw[arX n2]at h4;exact nl k zs h2 h4
  ·rcases bK h2 with⟨rfl,h2,hj⟩|⟨n2,h2⟩
   ·rw[ar8 (by rw[I.len];exact hj)]at h4;cases h4;rw[arX n1]at h3;exact nl i ys h1 h3
   ·rw[arX n1]at h3;rw[arX n2]at h4;exact I.sep i k ys zs a ne h1 h2 h3 h4
theorem dU.loc{l:Addr}{us us':List V}{h:Nat}{f:Str}{v:V}(k:Kd g H)(hl:H l=some (.lst us))(lo:g.Lo l):∀{fl:jc},dU K aj g H h f v fl->dU K aj g (upd H l (.lst us')) h f v fl:=λ{fl} z=>by
 have r:Gr true g g H (upd H l (.lst us')):=Gr.upd k hl (.inr lo);cases fl with
 |dat d=>exact Rep.gr r k z
 |lst n xs=>
  obtain⟨a,ws,h1,h2,h3,h4,h5⟩:=z;exact⟨a,ws,h1,by rw[upd_ne (λz=>by subst z;exact k.lo _ lo (.inr (by rw[h3];exact λz=>nomatch z)))];exact h2,h3,h4.gr r k,h5⟩
 |dic n kvs=>
  obtain⟨a,h1,h2,h3⟩:=z;have na:a≠l:=λz=>by subst z;exact k.lo _ lo (.inr (by rw[h2];exact λz=>nomatch z))
  refine⟨a,h1,h2,?_⟩;cases n with
  |false=>
   obtain⟨kv,h3,h4,h5⟩:=h3;exact⟨kv,by rw[upd_ne na];exact h3,h4,h5.gr r k⟩
  |true=>
   obtain⟨o,xs,vs,h3,h4,h5,h6,h7,h8⟩:=h3;exact⟨o,xs,vs,by rw[upd_ne na];exact h3,h4,h5,h6.gr r k,h7,h8.gr r k⟩
theorem cM.loc{l:Addr}{us us':List V}{h:Nat}(k:Kd g H)(hl:H l=some (.lst us))(lo:g.Lo l):∀{fs:List (Str×V)} {gs:List (Str×jc)},cM K aj g H h fs gs->cM K aj g (upd H l (.lst us')) h fs gs
 |_,_,.nil=>.nil
 |_,_,.cons z t=>.cons (dU.loc k hl lo z) (cM.loc k hl lo t)
theorem fZ.loc{l:Addr}{us us':List V}(k:Kd g H)(hl:H l=some (.lst us))(lo:g.Lo l)(w:fZ K aj g H M):fZ K aj g (upd H l (.lst us')) M where
 len:=w.len
 inj:=w.inj
 ins:=λh a i ha hi hc=>by
  obtain⟨C,dx,fs,c1,c2,c3⟩:=w.ins h a i ha hi hc;exact⟨C,dx,fs,c1,by rw[upd_ne (λz=>by subst z;exact k.lo _ lo (.inl (arW ha)))];exact c2,c3.loc k hl lo⟩
 nd:=w.nd
 fd:=w.fd
 tw:=w.tw
 dm:=w.dm
 nc:=w.nc
theorem SInv.change{j:Nat}{xs ys:List Dat}(I:SInv K aj σ H g Z M)(hj:Z[j]?=some (some (.mut xs))):∃l us,σ[j]?=some (some (.ref l))/\H l=some (.lst us)/\g.Lo l/\aM K g H us xs/\∀us',aM K g H us' ys->SInv K aj σ (upd H l (.lst us')) g (Z.set j (some (.mut ys))) M:=by
 obtain⟨l,us,h1,h2,h3,h4⟩:=I.own j xs hj;refine⟨l,us,h1,h2,h3,h4,λus' r=>?_⟩;have gr:Gr true g g H (upd H l (.lst us')):=Gr.upd I.kd h2 (.inr h3);refine⟨I.kd.upd trivial,I.wok.loc I.kd h2 h3,by rw[aso];exact I.len,λi d h=>?_,λi zs h=>?_,λi k zs ws a ne e1 e2 e3 e4=>?_⟩
 ·rcases bK h with⟨_,h,_⟩|⟨ne,h⟩
  ·cases h
  ·obtain⟨v,e1,e2⟩:=I.dat i d h;exact⟨v,e1,e2.gr gr I.kd⟩
 ·rcases bK h with⟨rfl,h,_⟩|⟨ne,h⟩
  ·cases h;exact⟨l,us',h1,upd_same,h3,r.gr gr I.kd⟩
  ·obtain⟨l',ws,e1,e2,e3,e4⟩:=I.own i zs h;have nl:l'≠l:=λz=>by
    subst z;exact I.sep i j zs xs l' (Ne.symm ne) h hj e1 h1
   exact⟨l',ws,e1,by rw[upd_ne nl];exact e2,e3,e4.gr gr I.kd⟩
 ·have k1:∃xs,Z[i]?=some (some (.mut xs)):=by
   rcases bK e1 with⟨rfl,_,_⟩|⟨_,h⟩
   ·exact⟨xs,hj⟩
   ·exact⟨zs,h⟩
  have k2:∃xs,Z[k]?=some (some (.mut xs)):=by
   rcases bK e2 with⟨rfl,_,_⟩|⟨_,h⟩
   ·exact⟨xs,hj⟩
   ·exact⟨ws,h⟩
  obtain⟨x1,k1⟩:=k1;obtain⟨x2,k2⟩:=k2;exact I.sep i k x1 x2 a ne k1 k2 e3 e4
end
section
variable{X:Cx}{aj:aR}{W:WX}{q:Bool}{a b e:Expr}{pos:Pos}
def aQ(f:QF):SF:=λM Z=>((f M (pF Z)).at M).then Z λd M'=>.ret d M'
def iw(f:GF):SF:=λM Z=>(f M Z).then Z λd M'=>.ret d M'
theorem ajE{f:QF}(he:QE aj X W e f):SE aj X W q (.Return (some e) pos) (aQ f):=by
 refine PS.weak (ps_ret he) λD σ H ⟨g,Z,M,I,z⟩=>?_;refine⟨g.fr,pF Z,M,I.pF,?_⟩;unfold aQ at z;cases hf:f M (pF Z) with
 |ok d=>
  rw[hf]at z;exact λv H' e r=>z v H' g (Gr.ex e) (I.ex e).kd.fr (I.ex e).wok.fr r
 |exc x=>
  rw[hf]at z;exact λH' c dd e r=>z σ H' g c dd (Gr.ex e) (I.ex e) r
 |bad=>rw[hf]at z;exact atn z
theorem ahv{f:GF}(he:GE aj X W q e f):SE aj X W q (.Return (some e) pos) (iw f):=by refine PS.weak (ps_ret he) λD σ H ⟨g,Z,M,I,z⟩=>?_;exact tE.go I (dw (σ:=σ) z) λd M' v H' g' k r I' rv=>k v H' g' r I'.kd.fr I'.wok.fr rv.fr
def bQ(t:QT)(f k:SF):SF:=λM Z=>((t M (pF Z)).at M).then Z λc M'=>if c=true then f M' Z else k M' Z
def an5(t:GT)(f k:SF):SF:=λM Z=>(t M Z).then Z λc M'=>if c=true then f M' Z else k M' Z
theorem amL{c:Expr}{s1 s2:List Stmt}{t:QT}{f k:SF}(hc:sU aj X W c t)(h1:JN aj X W q s1 f)(h2:JN aj X W q s2 k):SE aj X W q (.If c s1 s2 pos) (bQ t f k):=by
 refine PS.weak (ps_if hc h1 h2) λD σ H ⟨g,Z,M,I,z⟩=>?_;refine⟨g.fr,pF Z,M,I.pF,?_⟩;unfold bQ at z;cases hf:t M (pF Z) with
 |ok d=>
  rw[hf]at z;intro H' e;cases d with
  |true=>exact tS.go (I.ex e) (Gr.ex e) z
  |false=>exact tS.go (I.ex e) (Gr.ex e) z
 |exc x=>
  rw[hf]at z;exact λH' c dd e r=>z σ H' g c dd (Gr.ex e) (I.ex e) r
 |bad=>rw[hf]at z;exact atn z
def eO(tg:fO)(body:SF):List Dat->Mo->Env->tK
 |[],M,Z=>.next Z M
 |d::ds,M,Z=>match tg d Z with
  |none=>.bad
  |some Z1=>match body M Z1 with
   |.next Z2 M2=>eO tg body ds M2 Z2
   |.cont Z2 M2=>eO tg body ds M2 Z2
   |.brk Z2 M2=>.next Z2 M2
   |.ret d M2=>.ret d M2
   |.exc x Z2 M2=>.exc x Z2 M2
   |.bad=>.bad
def qU(it:IF)(tg:fO)(body:SF):SF:=λM Z=>((it M Z).at M).then Z λds M'=>eO tg body ds M' Z
theorem aj1{tg iter:Expr}{body:List Stmt}{it:IF}{js:List Nat}{tf:fO}{f:SF}(hp:PassesOwn (model X.prog X.w) X.A X.env X.xe)(hc:X.calm=true)(hi:QI aj X W true tg iter it)(hg:QG aj X tg js tf)(hb:JN aj X W q body f)(hs:∀x,foldedSetIterable iter X.env x=pure x) :
  SE aj X W q (.For tg iter body [] pos) (qU it tf f):=by
 refine PS.weak (ps_for hp hc hi hg hb hs) λD σ H ⟨g,Z,M,I,z⟩=>?_;refine⟨g,Z,M,I,?_⟩;unfold qU at z;cases hf:it M Z with
 |exc x=>
  rw[hf]at z;exact λH' c dd e r=>z σ H' g c dd (Gr.ex e) (I.ex e) r.fr
 |bad=>rw[hf]at z;exact atn z
 |ok ds=>
  rw[hf]at z;intro J C H1 e1 w c1 firm;have firm:=firm rfl;have z:(eO tf f ds M Z).sat (sN X.K aj q D.nx g H) (sR X.K aj q D.rt g H) (sN X.K aj q D.bk g H) (sN X.K aj q D.ct g H) (sX X.K aj W q g H):=z
  let Pv:Nat->L2.St->Hp->Prop:=λi σi Hi=>i<=ds.length/\∃gi ρi Mi,Gr q g gi H Hi/\SInv X.K aj σi Hi gi ρi Mi/\C gi Hi/\(eO tf f (ds.drop i) Mi ρi).sat (sN X.K aj q D.nx g H) (sR X.K aj q D.rt g H) (sN X.K aj q D.bk g H) (sN X.K aj q D.ct g H) (sX X.K aj W q g H)
  refine⟨λi m σi Hi=>m=ds.length - i/\Pv i σi Hi,⟨ds.length,rfl,asJ _,g,Z,M,Gr.ex e1,I.ex e1,c1,by rw[atl];exact z⟩,?_⟩;rintro i m σi Hi ⟨rfl,hi,gi,ρi,Mi,ri,Ii,Ci,zi⟩;by_cases hlt:i < ds.length
  ·refine .inr ⟨w.go _ i Hi Ci hlt,Pv (i+1),λσ' H' p=>⟨ds.length - (i+1),by omega,rfl,p⟩,λx H' y=>?_⟩;have hd:ds[i]?=some ds[i]:=arR hlt;obtain⟨e2,rx⟩:=w.yld _ i Hi x H' _ Ii.kd Ci hd y;rw[asU hlt,eO]at zi;split at zi
   ·exact atn zi
   ·next Z1 he=>
    have I2:=Ii.ex e2;refine⟨gi,ρi,Mi,_,Z1,I2,rx,he,λvs I3=>⟨gi,Z1,Mi,I3,?_⟩⟩;have r2:=ri.trans (Gr.ex e2);cases hb':f Mi Z1 with
    |next Z2 M2=>
     rw[hb']at zi;exact λσ' H2 g2 r I'=>⟨hlt,g2,Z2,M2,r2.trans r,I',firm q gi g2 H' H2 I2.kd (w.ex _ _ _ Ii.kd Ci e2) r,zi⟩
    |cont Z2 M2=>
     rw[hb']at zi;exact λσ' H2 g2 r I'=>⟨hlt,g2,Z2,M2,r2.trans r,I',firm q gi g2 H' H2 I2.kd (w.ex _ _ _ Ii.kd Ci e2) r,zi⟩
    |brk Z2 M2=>
     rw[hb']at zi;exact sN.gr r2 zi
    |ret d M2=>
     rw[hb']at zi;exact sR.gr r2 zi
    |exc x Z2 M2=>
     rw[hb']at zi;exact sX.gr r2 zi
    |bad=>rw[hb']at zi;exact atn zi
  ·have e:i=ds.length:=by omega
   refine .inl ⟨w.stop _ i Hi Ci e,?_⟩;rw[e,as4]at zi;exact zi σi Hi gi ri Ii
def O5(j:Nat)(f:QF):SF:=λM Z=>match Z[j]? with
 |some (some (.dat (.int i)))=>((f M Z).at M).then Z λd M'=>match d with
  |.int k=>.next (Z.set j (some (.dat (.int (i+k))))) M'
  |_=>.bad
 |_=>.bad
theorem alB{j:Nat}{x:Str}{f:QF}{pos':Pos}(hN:X.N.Nodup)(hi:X.N[j]?=some x)(hx:Loc X.env.scope x)(hf:X.fn x=true∨X.env.scope.names.lookup x=some .local)(he:QE aj X W e f):SE aj X W q (.AugAssign (.Name x pos') .Add e pos) (O5 j f):=by
 refine PS.weak (ps_aug hN hi hx he ip_add hf) λD σ H ⟨g,Z,M,I,z⟩=>?_;unfold O5 at z;split at z
 ·next i hj=>
  obtain⟨v,h1,h2⟩:=I.dat j _ hj;cases h2;refine⟨.int i,h1,⟨g,Z,M,I,?_⟩⟩;cases hf':f M Z with
  |exc x=>rw[hf']at z;exact λH' c dd e r=>z σ H' g c dd (Gr.ex e) (I.ex e) r.fr
  |bad=>rw[hf']at z;exact atn z
  |ok d=>
   rw[hf']at z;intro u H' e r;cases d with
   |int k=>
    cases r;exact⟨i,k,rfl,rfl,z _ H' g (Gr.ex e) ((I.ex e).set (.int _))⟩
   |_=>exact atn z
 ·exact atn z
def FE(aj:aR)(X:Cx)(W:WX)(e:Expr)(f:IF):Prop:=PE X e (tFr X.K aj W f)
def Dt(j:Nat)(f:IF):SF:=λM Z=>((f M Z).at M).then Z λxs M'=>.next (Z.set j (some (.mut xs))) M'
theorem aeC{j:Nat}{f:IF}(D:Ends)(σ:L2.St)(H:Hp)(h:tS X.K aj W q (Dt j f) D σ H):tAsg (tFr X.K aj W f) (gName j) D σ H:=by
 obtain⟨g,Z,M,I,z⟩:=h;refine⟨g,Z,M,I,?_⟩;unfold Dt at z;cases hf:f M Z with
 |exc x=>rw[hf]at z;exact λH' c dd e r=>z σ H' g c dd (Gr.ex e) (I.ex e) r.fr
 |bad=>rw[hf]at z;exact atn z
 |ok xs=>
  rw[hf]at z;intro l us H' n e hl r;have gr:Gr true g (g.add l) H H':=Gh.FZ n e;refine z _ H' (g.add l) ?_ (I.ajK n e hl r);cases q with
  |true=>exact gr
  |false=>exact gr.loud
theorem aeZ{j:Nat}{x:Str}{f:IF}{pos':Pos}(hN:X.N.Nodup)(hi:X.N[j]?=some x)(hx:Loc X.env.scope x)(hf:X.fn x=true∨X.env.scope.names.lookup x=some .local)(he:FE aj X W e f)(hs:swapsWith e (some (.Name x pos')) pos.line X.env=pure false):SE aj X W q (.Assign [.Name x pos'] e pos) (Dt j f):=
 PS.weak (ps_set hN hi hx he hs hf) λD σ H h=>aeC D σ H h
def O2(f:QA):IF:=λM Z=>(f M Z).bind λxs=>Out.when (decide (xs.length<=100000)) (.ok xs)
theorem afv{K:arO}{g:Gh}{H:Hp}{l:Addr}{vs:List V}{ds:List Dat}(k:Kd g H)(n:H l=none)(r:aM K g H vs ds){o:HO}:aM K (g.add l) (upd H l o) vs ds:=r.gr (Gh.FZ n (Ex.new n)) k
theorem aji{es:List Expr}{fr:QA}(h:DQ aj X W es fr):FE aj X W (.List es pos) (O2 fr):=
 PE.weak (pe_lst h) λσ H Q ⟨g,Z,M,I,h⟩=>by
  refine Ov.go I h.bnd λds vs H1 h1 e1 r1=>?_;obtain⟨hz,h1⟩:=h1.pJ;have hl:vs.length<=100000:=by rw[r1.length];exact atp hz
  exact⟨sz_of hl,λp np=>h1 p vs _ (Ds e1 p np) (e1.trans (Ex.new np)) upd_same (afv (I.kd.ex e1) np r1)⟩
def X8:Dat->Out (List Dat)
 |.list ds=>.ok ds
 |.tuple ds=>.ok ds
 |_=>.bad
def afI(f:QF):IF:=λM Z=>(f M Z).bind X8
def baseOk:Expr->Bool
 |.Call (.Name _ _) _ _ _=>false
 |_=>true
theorem mW{o:Expr}{m:Str}{env:PySem.Env}{w:Sem Value}(h:baseOk o=true):attributeBase o m env w=w:=by
 cases o with
 | Call f as ks p=>cases f<;>first | rfl | cases h
 |_=>rfl
theorem Yr{env:PySem.Env}{pos:Pos}:∀(es:List Expr),es.all nst=true->(backTo pos (starEach es env)).all (λx=>!x.1)=true
 |[],_=>by with_unfolding_all rfl
 |a::es,h=>by
  rw[asC,arP]at h;rw[cJ h.1];have ih:=Yr (env:=env) (pos:=pos) es h.2;unfold backTo at ih ⊢;rw[arT,asC,ih];rfl
theorem few{env:PySem.Env}{pos:Pos}{es:List Expr}(h:es.all nst=true)(hl:es.length < 30):((backTo pos (starEach es env)).all (λx=>!x.1)&&(backToKw pos (keywordEach [] env)).all (λx=>x.1.isSome)&&decide (es.length+([]:List Keyword).length+(if ([]:List Keyword).isEmpty then 0 else 1) < 30))=true:=by
 rw[Yr es h];have:(backToKw pos (keywordEach [] env)).all (λx=>x.1.isSome)=true:=by with_unfolding_all rfl
 rw[this];simpa using hl
def Jz(j:Nat)(f:QF):SF:=λM Z=>match Z[j]? with
 |some (some (.mut xs))=>((f M Z).at M).then Z λd M'=>if xs.length < 100000 then .next (Z.set j (some (.mut (xs++[d])))) M' else .bad
 |_=>.bad
theorem akG{j:Nat}{x:Str}{f:QF}{p apos:Pos}{epos:Pos}(hN:X.N[j]?=some x)(hv:Vis X.env.scope x)(hd:(x==("__debug__" : Str))=false)(hcd:(x==("__classdict__" : Str))=false)(he:QE aj X W e f)(hs:nst e=true)
  (hl:(apos.endLine==pos.line)=true):SE aj X W q (.Expr (.Call (.Attribute (.Name x p) "append" apos) [e] [] pos) epos) (Jz j f):=by
 have h0:=pe_var (X:=X) (pos:=p) hN hv hd hcd;have h1:=pa_cons he pa_nil (cJ hs []);have key:=pe_bm (X:=X) (cpos:=pos) (apos:=apos) PySem.F.plainAttrs_list PySem.F.slot_list_append PySem.F.type_list_append mt_append h0 h1 (mW rfl) (few (by simp[hs]) (by simp)) hl (cJ hs []) (by with_unfolding_all rfl);refine PS.weak (ps_expr key (by with_unfolding_all rfl)) λD σ H ⟨g,Z,M,I,z⟩=>?_;unfold Jz at z;split at z
 ·next xs hj=>
  obtain⟨l,us,e1,e2,e3,e4⟩:=I.own j xs hj;refine⟨.ref l,e1,.inl ⟨rfl,us,sq_of e2⟩,⟨g,Z,M,I,?_⟩⟩;cases hf:f M Z with
  |exc x=>rw[hf]at z;exact λH' c dd e r=>z σ H' g c dd (Gr.ex e) (I.ex e) r.fr
  |bad=>rw[hf]at z;exact atn z
  |ok d=>
   rw[hf]at z;intro v H' e r;have z:(if xs.length < 100000 then tK.next (Z.set j (some (.mut (xs++[d])))) M else .bad).sat (sN X.K aj q D.nx g H) (sR X.K aj q D.rt g H) (sN X.K aj q D.bk g H) (sN X.K aj q D.ct g H) (sX X.K aj W q g H):=z;split at z
   ·next hlen=>
    have I1:=I.ex e;obtain⟨l',us',f1,f2,f3,f4,f5⟩:=I1.change (ys:=xs++[d]) hj;rw[e1]at f1;cases f1;rw[e _ _ e2]at f2;cases f2;refine⟨l,us,v,rfl,rfl,e _ _ e2,sz_lt (by rw[e4.length];exact hlen),?_⟩;exact z _ _ g ((Gr.ex e).trans (Gr.upd I1.kd (e _ _ e2) (.inr f3))) (f5 _ (f4.append (.cons r .nil)))
   ·exact atn z
 ·exact atn z
def al5(j:Nat)(fi f:QF):SF:=λM Z=>match Z[j]? with
 |some (some (.mut xs))=>((f M Z).at M).then Z λd M'=>((fi M' Z).at M').then Z λi M2=>match i with
  |.int k=>match ixN xs.length k with
   |some n=>.next (Z.set j (some (.mut (xs.set n d)))) M2
   |none=>.bad
  |_=>.bad
 |_=>.bad
end
structure Gc(g g':Gh)(H H':Hp):Prop where
 keep:∀a o,H a=some o->¬g.W a->H' a=some o
 dom:∀a,H' a=none->H a=none
 tbl:∃more,g'.tbl=g.tbl++more
 W:∀a,g.W a->g'.W a
 nW:∀a,g'.W a->g.W a∨H a=none
 Lc:g'.Lc=g.Lc
 Lo:g'.Lo=g.Lo
def W0(K:arO)(aj:aR)(n:Nat)(m:Mo->List Dat->Out Dat):Sp:=λvs H Q E=>vs.length=n/\∃g M ds,Kd g H/\fZ K aj g H M/\aM K g H vs ds/\
 (m M ds).sat (λd=>∀v H',Ex H H'->Rep K g H' v d->Q v H') λx=>∀H' c dd,Ex H H'->qH K aj g H' x c dd->E c dd H'
def J9(K:arO)(aj:aR)(n:Nat)(m:Mo->List Dat->bx Dat):Sp:=λvs H Q E=>vs.length=n/\∃g M ds,Kd g H/\fZ K aj g H M/\aM K g H vs ds/\
 (m M ds).sat (λd M'=>∀v H' g',Gc g g' H H'->Kd g' H'->fZ K aj g' H' M'->Rep K g' H' v d->Q v H') λx M'=>∀H' g' c dd,Gc g g' H H'->Kd g' H'->fZ K aj g' H' M'->qH K aj g' H' x c dd->E c dd H'
section
variable{K:arO}{aj:aR}{W:WX}{g g':Gh}{H H':Hp}{σ:L2.St}{Z:Env}{M M':Mo}
theorem Gc.gr(r:Gc g g' H H'):Gr false g g' H H':=⟨λa o h n _=>r.keep a o h n,(λz=>nomatch z),r.dom,r.tbl,r.W,r.nW,(λz=>nomatch z),r.Lc,λa h=>by rw[r.Lo];exact h,λa h=>by rw[r.Lo]at h;exact .inl h⟩
theorem SInv.call(r:Gc g g' H H')(k':Kd g' H')(w':fZ K aj g' H' M')(I:SInv K aj σ H g Z M):SInv K aj σ H' g' Z M' where
 kd:=k'
 wok:=w'
 len:=I.len
 dat:=λi d h=>by
  obtain⟨v,h1,h2⟩:=I.dat i d h;exact⟨v,h1,h2.gr r.gr I.kd⟩
 own:=λi xs h=>by
  obtain⟨l,us,h1,h2,h3,h4⟩:=I.own i xs h;exact⟨l,us,h1,r.keep _ _ h2 (I.kd.lo l h3),by rw[r.Lo];exact h3,h4.gr r.gr I.kd⟩
 sep:=I.sep
def Gh.in(g:Gh):Gh:={ g with Lc:=λa=>g.Lc a∨g.Lo a,Lo:=λ_=>False }
theorem ZW(g:Gh)(a:Addr):g.in.A a↔g.A a:=by
 constructor
 ·rintro(z|(z|z)|z)
  ·exact .inl z
  ·exact .inr (.inl z)
  ·exact .inr (.inr z)
  ·exact atn z
 ·rintro(z|z|z)
  ·exact .inl z
  ·exact .inr (.inl (.inl z))
  ·exact .inr (.inl (.inr z))
theorem Kd.in(k:Kd g H):Kd g.in H:=⟨λa z=>k.ob a ((ZW g a).mp z),λa z=>atn z,λa z=>⟨z.elim (λz=>(k.lc a z).1) (λz=>k.lo a z),λy=>y⟩⟩
def ini(n:Nat)(ds:List Dat):Env:=ds.map (λd=>some (.dat d))++List.replicate (n - ds.length) none
theorem abl{N:List Str}{vs:List V}{ds:List Dat}(k:Kd g H)(w:fZ K aj g H M)(r:aM K g H vs ds):SInv K aj (start N vs) H g (ini N.length ds) M where
 kd:=k
 wok:=w
 len:=by unfold L2.start ini;rw[asF,asF,arZ,arZ,List.length_replicate,List.length_replicate,r.length]
 dat:=λi d h=>by
  unfold ini at h;unfold L2.start;by_cases hi:i < ds.length
  ·rw[ar3 (by rw[arZ];exact hi),ar5]at h;cases hd:ds[i]? with
   |none=>rw[hd]at h;cases h
   |some d'=>
    rw[hd]at h;cases h;obtain⟨v,h1,h2⟩:=r.get hd;refine⟨v,?_,h2⟩;rw[ar3 (by rw[arZ,r.length];exact hi),ar5,h1];rfl
  ·rw[asf (by rw[arZ];omega)]at h;rw[List.getElem?_replicate]at h;split at h<;>cases h
 own:=λi xs h=>by
  unfold ini at h;by_cases hi:i < ds.length
  ·rw[ar3 (by rw[arZ];exact hi),ar5]at h;cases hd:ds[i]? with
   |none=>rw[hd]at h;cases h
   |some d'=>rw[hd]at h;cases h
  ·rw[asf (by rw[arZ];omega)]at h;rw[List.getElem?_replicate]at h;split at h<;>cases h
 sep:=λi j xs ys l ne h=>by
  unfold ini at h;by_cases hi:i < ds.length
  ·rw[ar3 (by rw[arZ];exact hi),ar5]at h;cases hd:ds[i]? with
   |none=>rw[hd]at h;cases h
   |some d'=>rw[hd]at h;cases h
  ·rw[asf (by rw[arZ];omega)]at h;rw[List.getElem?_replicate]at h;split at h<;>cases h
end
def mQ(n:Nat)(body:SF):Mo->List Dat->Out Dat:=λM ds=>match body M (ini n ds) with
 |.ret d _=>.ok d
 |.next _ _=>.ok .none
 |.exc x _ _=>.exc x
 |_=>.bad
def mG(n:Nat)(body:SF):Mo->List Dat->bx Dat:=λM ds=>match body M (ini n ds) with
 |.ret d M'=>.ok d M'
 |.next _ M'=>.ok .none M'
 |.exc x _ M'=>.exc x M'
 |_=>.bad
section
variable{P:Program}{w:World}{K:arO}{mg:Str->Option Value}{base:Heap}{aj:aR}
def aga(E:XK):WX:=λc d _ H=>E c d H
theorem Rep.same{g g':Gh}{H:Hp}{v:V}{d:Dat}(e:g'.tbl=g.tbl)(n:∀a,g'.A a↔g.A a)(h:Rep K g H v d):Rep K g' H v d:=h.less e λa z=>(n a).mp z
theorem acg{g g':Gh}{H H':Hp}(r:Gr true g.in g' H H'):Ex H H':=λa o h=>by
 by_cases w:g.W a
 ·exact r.keepW rfl a o h w
 ·exact r.keep a o h w λz=>z
theorem akB{q:Bool}{g g':Gh}{H H':Hp}(r:Gr q g.in g' H H')(a:Addr):g'.fr.A a↔(g'.W a∨g.Lc a∨g.Lo a):=by
 have hl:g'.Lc=g.in.Lc:=r.Lc;constructor
 ·rintro(z|z|z)
  ·exact .inl z
  ·have z:g'.Lc a:=z;rw[hl]at z;exact .inr z
  ·exact atn z
 ·rintro(z|z)
  ·exact .inl z
  ·refine .inr (.inl ?_);show g'.Lc a;rw[hl];exact z
theorem anF{x qual:Str}{st:Stmt}{f:Addr}{fd:FuncData}{N ps:List Str}{k:Nat}{body:SF}(F:Fun K x qual st f fd)(S:FnScope N ps (defScope st))
  (hb:∀(cdv:Value) (A:Around) (outer:List PySem.Env) (s:Shared) (H:Hp) (E:XK),Room k (A.deeper (envOfC qual (defScope st) s.heap.objs.size f cdv))->JN aj (cxOf (L2.CX P w) P w K mg base N qual (defScope st) f cdv A outer s H E) (aga E) true (defBody st) body) :
  FnOk P w K mg base (L2.CX P w) (k+1) f fd ps (W0 K aj ps.length (mQ N.length body)):=by
 refine F.okX S (λvs H Q E h=>h.1) (λcdv A outer s H vs Q E hr h=>⟨_,hb cdv A outer s H E hr,?_⟩);obtain⟨hl,g,M,ds,kd,wk,rs,h⟩:=h;have wk':fZ K aj g.in H M:=fZ.less (g:=g) (g':=g.in) rfl rfl (λa z=>(ZW g a).mp z) wk;refine⟨g.in,ini N.length ds,M,abl kd.in wk' (aM.less (g:=g) (g':=g.in) rfl (λa z=>(ZW g a).mp z) rs),?_⟩;have back:∀{g':Gh} {H':Hp},Gr true g.in g' H H'->∀a,g.A a↔g'.fr.A a:=λ{g' H'} r a=>by
  rw[akB r a];have e:=(r.qg rfl);have ew:g'.W a↔g.W a:=by unfold Gh.W;rw[e.1,e.2];rfl
  unfold Gh.A;rw[ew]
 unfold mQ at h;cases hf:body M (ini N.length ds) with
 |next Z' M'=>
  rw[hf]at h;exact λσ' H' g' r I'=>h _ H' (acg r) .non
 |ret d M'=>
  rw[hf]at h;exact λv H' g' r k' w' rv=>h v H' (acg r) (Rep.same (g:=g'.fr) (g':=g) (r.qg rfl).1.symm (back r) rv)
 |exc x Z' M'=>
  rw[hf]at h;exact λσ' H' g' c dd r I' rx=>h H' c dd (acg r) (qH.less (g:=g'.fr) (g':=g) (r.qg rfl).1.symm (λa z=>(back r a).mp z) rx)
 |brk Z' M'=>rw[hf]at h;exact atn h
 |cont Z' M'=>rw[hf]at h;exact atn h
 |bad=>rw[hf]at h;exact atn h
theorem anz{x qual:Str}{st:Stmt}{f:Addr}{fd:FuncData}{N ps:List Str}{k:Nat}{body:SF}(F:Fun K x qual st f fd)(S:FnScope N ps (defScope st))
  (hb:∀(cdv:Value) (A:Around) (outer:List PySem.Env) (s:Shared) (H:Hp) (E:XK),Room k (A.deeper (envOfC qual (defScope st) s.heap.objs.size f cdv))->JN aj (cxOf (L2.CX P w) P w K mg base N qual (defScope st) f cdv A outer s H E) (aga E) false (defBody st) body) :
  FnOk P w K mg base (L2.CX P w) (k+1) f fd ps (J9 K aj ps.length (mG N.length body)):=by
 refine F.okX S (λvs H Q E h=>h.1) (λcdv A outer s H vs Q E hr h=>⟨_,hb cdv A outer s H E hr,?_⟩);obtain⟨hl,g,M,ds,kd,wk,rs,h⟩:=h;have wk':fZ K aj g.in H M:=fZ.less (g:=g) (g':=g.in) rfl rfl (λa z=>(ZW g a).mp z) wk;refine⟨g.in,ini N.length ds,M,abl kd.in wk' (aM.less (g:=g) (g':=g.in) rfl (λa z=>(ZW g a).mp z) rs),?_⟩
 let gb:Gh->Gh:=λg'=>{ tbl:=g'.tbl,ow:=g'.ow,Lc:=g.Lc,Lo:=g.Lo }
 have gc:∀{g':Gh} {H':Hp},Gr false g.in g' H H'->Gc g (gb g') H H':=λ{g' H'} r=>⟨λa o h n=>r.keep a o h n λz=>z,r.dom,r.tbl,r.W,r.nW,rfl,rfl⟩;have eA:∀{g':Gh} {H':Hp},Gr false g.in g' H H'->∀a,(gb g').A a↔g'.fr.A a:=λ{g' H'} r a=>by
  rw[akB r a];exact Iff.rfl
 have kk:∀{g':Gh} {H':Hp},Gr false g.in g' H H'->Kd g'.fr H'->Kd (gb g') H':=λ{g' H'} r k'=>by
  have nw:∀a,(g.Lc a∨g.Lo a)->¬g'.W a:=λa z y=>by
   have:g'.fr.Lc a:=by show g'.Lc a;rw[show g'.Lc=g.in.Lc from r.Lc];exact z
   exact(k'.lc a this).1 y
  exact⟨λa z=>k'.ob a ((eA r a).mp z),λa z=>nw a (.inr z),λa z=>⟨nw a (.inl z),(kd.lc a z).2⟩⟩
 unfold mG at h;cases hf:body M (ini N.length ds) with
 |next Z' M'=>
  rw[hf]at h;exact λσ' H' g' r I'=>h _ H' (gb g') (gc r) (kk r I'.kd.fr) (fZ.less (g:=g'.fr) (g':=gb g') rfl rfl (λa z=>(eA r a).mp z) I'.wok.fr) .non
 |ret d M'=>
  rw[hf]at h;exact λv H' g' r k' w' rv=>h v H' (gb g') (gc r) (kk r k') (fZ.less (g:=g'.fr) (g':=gb g') rfl rfl (λa z=>(eA r a).mp z) w') (Rep.same (g:=g'.fr) (g':=gb g') rfl (eA r) rv)
 |exc x Z' M'=>
  rw[hf]at h;exact λσ' H' g' c dd r I' rx=>h H' (gb g') c dd (gc r) (kk r I'.kd.fr) (fZ.less (g:=g'.fr) (g':=gb g') rfl rfl (λa z=>(eA r a).mp z) I'.wok.fr) (qH.less (g:=g'.fr) (g':=gb g') rfl (λa z=>(eA r a).mp z) rx)
 |brk Z' M'=>rw[hf]at h;exact atn h
 |cont Z' M'=>rw[hf]at h;exact atn h
 |bad=>rw[hf]at h;exact atn h
end
def aV(m:Mo->List Dat->Out Dat)(as:QA):QF:=λM Z=>(as M Z).bind λds=>m M ds
section
variable{X:Cx}{aj:aR}{W:WX}{q:Bool}{a b e:Expr}{es:List Expr}{pos p:Pos}{x:Str}{k:Nat}{f:Addr}{fd:FuncData}{ps:List Str}
theorem aiQ{m:Mo->List Dat->Out Dat}{as:QA}(tk:Takes X W)(F:FnOk X.prog X.w X.K X.mg X.base (L2.CX X.prog X.w) k f fd ps (W0 X.K aj ps.length m))(hr:Room k X.A)(hg:Gl X x)(hm:X.mg x=some (.ref f))(hk:PySem.W.keepIn X.K (.ref f)=true)(hb:Binds X.K fd ps [])
  (ha:DQ aj X W (e::es) as) (hl:(e::es).length=ps.length) (hd:(x==("__debug__" : Str))=false) (hs:(e::es).all nst=true) (hn:∀M Z ds,as M Z=.ok ds->ds.length=(e::es).length):QE aj X W (.Call (.Name x p) (e::es) [] pos) (aV m as):=by
 have hs':=hs;rw[asC,arP]at hs';refine PE.weak (pe_callS (E:=λσ=>WE W σ) F hr hg hm hk hb (λσ=>passAt tk σ) ha hd (cJ hs'.1 es) (star_any es hs'.2)) λσ H Q ⟨g,Z,M,I,h⟩=>?_;refine⟨g,Z,M,I,?_⟩;have h:=h.bnd;cases has:as M Z with
 |exc x=>rw[has]at h;exact h
 |bad=>rw[has]at h;exact h
 |ok ds=>
  rw[has]at h;have h:(m M ds).sat (λd=>∀v H',Ex H H'->Rep X.K g H' v d->Q v H') (rG X.K aj W g H σ):=h;intro vs H1 e1 r1;refine⟨by rw[r1.length,hn M Z ds has];exact hl,g,M,ds,I.kd.ex e1,I.wok.ex e1 I.kd,r1,h.mono (λd k v H' e' r'=>k v H' (e1.trans e') r') λx k H' c dd e' r'=>k H' c dd (e1.trans e') r'⟩
end
theorem afR{n:Nat}(h:n<=16001):n<=sizeLine:=asl h (by decide)
theorem amR{prog:Program}{w:World}{A:Around}{E:Value->Shared->Prop}{s:Shared}{l:Addr}{v0:Value}{vs:List Value}{Q:List Value->Shared->Prop}(hh:A.handled=none)(hl:s.heap.IsList l (v0::vs).toArray∨IsTup s.heap l (v0::vs).toArray)(hz:vs.length<=16000)
  (h:∀(h₂:Heap) (tk:Nat),(∀b o,s.heap.get? b=some o->h₂.get? b=some o)->Q [v0,.ref h₂.objs.size] { s with heap:=h₂.push { cls:=.type "list",data:=.seq vs.toArray },toks:=tk }):wpAny (model prog w) A (unpackItems (.ref l) 2 (some 1)) Q E s:=by
 have hll:l < s.heap.objs.size:=by rcases hl with⟨o,ho,_⟩|⟨o,ho,_⟩<;>exact Heap.lt_size ho
 have hlt:l≠s.heap.objs.size:=asw hll;have hsz:(v0::vs).toArray.size=vs.length+1:=by simp
 have hb:(v0::vs).toArray.size<=sizeLine:=afR (by rw[hsz];omega);have hd:(v0::vs).toArray.toList.drop 1=vs:=by simp
 have ht:((v0::vs).toArray.toList.drop 0).take 1=[v0]:=by simp
 have fin:∀(h₂:Heap) (tk:Nat),(∀b o,b≠s.heap.objs.size->s.heap.get? b=some o->h₂.get? b=some o)->wpAny (model prog w) A (newList vs >>= λd=>pure ([v0]++[d]++[])) Q E { s with heap:=h₂,toks:=tk }:=λh₂ tk k=>by
  refine wpAny_bind (wpAny_newObj_type (wpAny_pure ?_) (afR (by simp;omega)));exact h h₂ tk λb o e=>k b o (asw (Heap.lt_size e)) e
 unfold unpackItems;refine wpAny_bind ?_;unfold notIterableAtAll;rcases hl with hl|hl
 ·refine wpAny_bind (wpAny_specialOf hl.typeIs slot_list_iter.lookup (wpAny_pure ?_));simp only[asv,if_false];refine wpAny_bind (wpAny_holding (wpAny_pyIter_list hl ?_));refine wpAny_bind (wpAny_holding (PySem.W.kun_draw hlt 1 0 _ _ ⟨_,Heap.get?_push_size _ rfl,rfl,rfl⟩ (hl.push _) (by rw[hsz];omega) λh₁ i1 b1=>?_));have hl₁:=(hl.push _).extBut b1.extBut hlt;obtain⟨oi,hoi,_⟩:=id i1;obtain⟨ol,hol,_⟩:=id hl₁;rw[ht];refine wpAny_bind (wpAny_holding (PySem.W.kun_collect (s:={ s with heap:=h₁ }) (T:="list_iterator") (.inr (.inr (.inl rfl))) (Walks.list (A:=A.in1) hh s.heap.objs.size l hlt (v0::vs).toArray) (λj u st=>st.1.typeIs) (k:=1) (by rw[hsz];omega) ⟨i1,hl₁⟩ (Heap.lt_size hoi) (Heap.lt_size hol) (λh₂ tk hk=>?_) hb))
  rw[hd];show wpAny _ _ (if vs.length < 0 then _ else newList (vs.take (vs.length - 0)) >>= λd=>pure ([v0]++[d]++vs.drop (vs.length - 0))) _ _ _;rw[if_neg (Nat.not_lt_zero _),Nat.sub_zero,List.take_length,as4];exact fin h₂ tk λb o ne e=>hk b o ne (b1.extBut b o ne (Heap.get?_push_of_some _ e))
 ·refine wpAny_bind (wpAny_specialOf hl.typeIs slot_tuple_iter.lookup (wpAny_pure ?_));simp only[asv,if_false];refine wpAny_bind (wpAny_holding (iter_tuple hl ?_));refine wpAny_bind (wpAny_holding (draw_tuple hlt 1 0 _ _ ⟨_,Heap.get?_push_size _ rfl,rfl,rfl⟩ (hl.push _) (by rw[hsz];omega) λh₁ i1 b1=>?_));have hl₁:IsTup h₁ l (v0::vs).toArray:=(hl.push _).extBut b1.extBut hlt;obtain⟨oi,hoi,_⟩:=id i1;obtain⟨ol,hol,_⟩:=id hl₁;rw[ht];refine wpAny_bind (wpAny_holding (PySem.W.kun_collect (s:={ s with heap:=h₁ }) (T:="tuple_iterator") (.inr (.inr (.inr rfl))) (Walks.tuple (A:=A.in1) hh s.heap.objs.size l hlt (v0::vs).toArray) (λj u st=>st.1.typeIs) (k:=1) (by rw[hsz];omega) ⟨i1,hl₁⟩ (Heap.lt_size hoi) (Heap.lt_size hol) (λh₂ tk hk=>?_) hb))
  rw[hd];show wpAny _ _ (if vs.length < 0 then _ else newList (vs.take (vs.length - 0)) >>= λd=>pure ([v0]++[d]++vs.drop (vs.length - 0))) _ _ _;rw[if_neg (Nat.not_lt_zero _),Nat.sub_zero,List.take_length,as4];exact fin h₂ tk λb o ne e=>hk b o ne (b1.extBut b o ne (Heap.get?_push_of_some _ e))
def agG(K:arO)(i j:Nat):TG:=λv σ H Q=>∃a v0 us,v=.ref a/\(SqL K H a (v0::us)∨SqT K H a (v0::us))/\us.length<=16000/\∀D,H D=none->Q ((σ.set i (some v0)).set j (some (.ref D))) (upd H D (.lst us))
def Vk(X:Cx)(j:Nat)(x:Str):Prop:=X.N[j]?=some x/\Loc X.env.scope x/\(X.fn x=true∨X.env.scope.names.lookup x=some .local)
theorem ahE{X:Cx}{i j k:Nat}{x y:Str}{px py ps pos:Pos}(hc:X.calm=true)(hN:X.N.Nodup)(hx:Vk X i x)(hy:Vk X j y):PG X (.Tuple [.Name x px,.Starred (.Name y py) ps] k pos) (agG X.K i j):=by
 refine⟨λpins s σ H v u Q I r h=>?_⟩;obtain⟨a,v0,us,rfl,hq,hz,q⟩:=h;cases r;have e1:assign (.Tuple [.Name x px,.Starred (.Name y py) ps] k pos) X.env (.ref a)=(do standAt pos;unpack (.ref a) (assignEach [.Name x px,.Starred (.Name y py) ps] X.env)):=by with_unfolding_all rfl
 have e2:assignEach [.Name x px,.Starred (.Name y py) ps] X.env=[(false,assign (.Name x px) X.env),(true,assign (.Name y py) X.env)]:=by with_unfolding_all rfl
 rw[e1,e2];refine wpAny_bind (wpAny_standAt ?_);unfold unpack;obtain⟨w0,ws,hlw,rv0,rvs⟩:∃w0 ws,(s.heap.IsList a (w0::ws).toArray∨IsTup s.heap a (w0::ws).toArray)/\RelV v0 w0/\Vals us ws:=by
  rcases hq with hq|hq
  ·obtain⟨its,rv,p,_⟩:=I.list hq;cases rv with
   |cons r t=>exact⟨_,_,.inl p.isList,r,t⟩
  ·obtain⟨its,rv,p,_⟩:=I.tuple hq;cases rv with
   |cons r t=>exact⟨_,_,.inr p,r,t⟩
 refine wpAny_bind (wpAny_holding (amR (I.ok.hd hc) hlw (by rw[←rvs.length];exact hz) λh₂ tk hk=>?_));have I2:L2.Inv X pins σ H { s with heap:=h₂,toks:=tk }:=I.kept (t':=tk) hk;have I3:=I2.lnew (t':=tk) rvs (afR (by omega));refine assignInOrder_cons (wpAny_assign_Name (store_ok I3 hN hx.1 hx.2.1 rv0 (λs4 I4=>?_) hx.2.2));refine assignInOrder_cons (wpAny_assign_Name (store_ok I4 hN hy.1 hy.2.1 (v:=.ref h₂.objs.size) rfl (λs5 I5=>assignInOrder_nil ?_) hy.2.2));exact⟨_,_,I5,q _ I2.fresh⟩
section
variable{X:Cx}{aj:aR}{W:WX}{q:Bool}{e:Expr}{pos:Pos}
def X6(i j:Nat)(f:GF):SF:=λM Z=>(f M Z).then Z λd M'=>match d with
 |.list (d0::ds)=>if ds.length<=16000 then .next ((Z.set i (some (.dat d0))).set j (some (.dat (.list ds)))) M' else .bad
 |.tuple (d0::ds)=>if ds.length<=16000 then .next ((Z.set i (some (.dat d0))).set j (some (.dat (.list ds)))) M' else .bad
 |_=>.bad
theorem aiT{i j k:Nat}{x y:Str}{px py ps tp:Pos}{f:GF}(hc:X.calm=true)(hN:X.N.Nodup)(hx:Vk X i x)(hy:Vk X j y)(he:GE aj X W q e f)(hs:swapsWithSole [.Tuple [.Name x px,.Starred (.Name y py) ps] k tp] e pos.line X.env=pure false)(hw:swappedStores [.Tuple [.Name x px,.Starred (.Name y py) ps] k tp] e X.env=pure none) :
  SE aj X W q (.Assign [.Tuple [.Name x px,.Starred (.Name y py) ps] k tp] e pos) (X6 i j f):=by
 refine PS.weak (ps_asg he (ahE hc hN hx hy) hs hw (by with_unfolding_all rfl)) λD σ H ⟨g,Z,M,I,z⟩=>?_;refine tE.go I (dw (σ:=σ) z) λd M' v H' g' kk r I' rv=>?_;have fin:∀{a:Addr} {v0:V} {us:List V} {d0:Dat} {ds:List Dat},v=.ref a->(SqL X.K H' a (v0::us)∨SqT X.K H' a (v0::us))->Rep X.K g' H' v0 d0->aM X.K g' H' us ds->(if ds.length<=16000 then tK.next ((Z.set i (some (.dat d0))).set j (some (.dat (.list ds)))) M' else .bad).sat (sN X.K aj q D.nx g H) (sR X.K aj q D.rt g H) (sN X.K aj q D.bk g H) (sN X.K aj q D.ct g H) (sX X.K aj W q g H)->agG X.K i j v σ H' D.nx:=λ{a v0 us d0 ds} ev hq r0 rs kk=>by
  split at kk
  ·next hz=>
   refine⟨a,v0,us,ev,hq,by rw[rs.length];exact hz,λp np=>?_⟩;have e1:=Ex.new (o:=.lst us) np;have I2:=I'.ex e1;refine kk _ _ g' (r.trans (Gr.ex e1)) ((I2.set (r0.ex e1 I'.kd)).set (.lst (.inl ⟨.inl upd_same,I'.kd.fresh np⟩) (rs.ex e1 I'.kd)))
  ·exact atn kk
 split at kk
 ·obtain⟨a,us,ev,s1,t1⟩:=gH rv.weak;cases t1 with
  |cons r0 rs=>exact fin ev (.inl s1) r0 rs kk
 ·obtain⟨a,us,ev,s1,t1⟩:=lK rv.weak;cases t1 with
  |cons r0 rs=>exact fin ev (.inr s1) r0 rs kk
 ·exact atn kk
def Q9(i j:Nat)(f:GF):SF:=λM Z=>(f M Z).then Z λd M'=>.next ((Z.set i (some (.dat d))).set j (some (.dat d))) M'
theorem ah0{i j:Nat}{x y:Str}{px py:Pos}{f:GF}(hN:X.N.Nodup)(hx:Vk X i x)(hy:Vk X j y)(he:GE aj X W q e f)(hw:swappedStores [.Name x px,.Name y py] e X.env=pure none):SE aj X W q (.Assign [.Name x px,.Name y py] e pos) (Q9 i j f):=by refine PS.weak (ps_asg2 he (pg_name hN hx.1 hx.2.1 hx.2.2) (pg_name hN hy.1 hy.2.1 hy.2.2) (by with_unfolding_all rfl) hw) λD σ H ⟨g,Z,M,I,z⟩=>?_;exact tE.go I (dw (σ:=σ) z) λd M' v H' g' kk r I' rv=>kk _ H' g' r ((I'.set rv).set rv)
theorem Tz{pins:List (Addr×Obj)}{H:Hp}{Q:Unit->Shared->Prop}(hN:X.N.Nodup):∀{xs:List Str} {js:List Nat} {vs:List V} {us:List Value} {σ:L2.St} {s:Shared},xs.length=js.length->Vals vs us->us.length=js.length->(∀(n:Nat) (x:Str) (j:Nat),xs[n]?=some x->js[n]?=some j->X.N[j]?=some x/\X.env.scope.names.lookup x=some .local)->L2.Inv X pins σ H s->
  (∀s',L2.Inv X pins (sets σ js vs) H s'->Q () s')->wpAny (model X.prog X.w) X.A (assignInOrder (xs.map λn=>bindName X.env n) us) Q X.xe s
 |[],[],_,[],σ,s,_,.nil,_,_,I,h=>assignInOrder_nil (h s I)
 |[],[],_,_::_,_,_,_,_,e,_,_,_=>nomatch e
 |[],_::_,_,_,_,_,e,_,_,_,_,_=>nomatch e
 |_::_,[],_,_,_,_,e,_,_,_,_,_=>nomatch e
 |x::xs,j::js,_,[],_,_,_,.nil,e,_,_,_=>nomatch e
 |x::xs,j::js,_,_::_,σ,s,e1,.cons r t,e2,hn,I,h=>by
  obtain⟨h1,h2⟩:=hn 0 x j rfl rfl;refine assignInOrder_cons (wpAny_bindName (store_ok I hN h1 (.inl h2) r (λs2 I2=>?_) (.inr h2)));exact Tz hN (asT e1) t (asT e2) (λn x j a b=>hn (n+1) x j a b) I2 h
theorem aaW(σ:L2.St):∀(js:List Nat) (vs:List V) (ks:List Nat) (ws:List V),js.length=vs.length->sets σ (js++ks) (vs++ws)=sets (sets σ js vs) ks ws:=by
 intro js
 induction js generalizing σ with
 |nil=>
  intro vs ks ws e;cases vs with
  |nil=>rfl
  |cons v vs=>cases e
 |cons j js ih=>
  intro vs ks ws e;cases vs with
  |nil=>cases e
  |cons v vs=>exact ih (σ.set j (some v)) vs ks ws (asT e)
theorem VH(j:Nat)(v:V):∀(js:List Nat) (vs:List V) (σ:L2.St),j∉js->(sets σ js vs).set j (some v)=sets (σ.set j (some v)) js vs
 |[],_,_,_=>by unfold sets;rfl
 |_::_,[],_,_=>by unfold sets;rfl
 |k::js,w::vs,σ,h=>by
  show(sets (σ.set k (some w)) js vs).set j (some v)=sets ((σ.set j (some v)).set k (some w)) js vs
  rw[VH j v js vs _ λz=>h (arS _ z),List.set_comm _ _ (λz=>h (by rw[z];exact arU))]
theorem aao:∀(js:List Nat) (vs:List V) (σ:L2.St),js.Nodup->js.length=vs.length->sets σ js.reverse vs.reverse=sets σ js vs
 |[],[],_,_,_=>rfl
 |[],_::_,_,_,e=>nomatch e
 |_::_,[],_,_,e=>nomatch e
 |j::js,v::vs,σ,nd,e=>by
  rw[asW]at nd;rw[as8,as8,aaW _ _ _ _ _ (by rw[asS,asS];exact asT e),aao js vs σ nd.2 (asT e)]
  show(sets σ js vs).set j (some v)=sets (σ.set j (some v)) js vs
  exact VH j v js vs σ nd.1
theorem vals_rev{vs:List V}{us:List Value}(r:Vals vs us):Vals vs.reverse us.reverse:=by
 induction r with
 |nil=>exact .nil
 |cons h t ih=>
  rw[as8,as8];exact Vals.append ih (.cons h .nil)
def tPN(js:List Nat)(ta:TA):TS:=λD σ H=>ta σ H λvs H1=>vs.length=js.length/\D.nx (sets σ js vs) H1
theorem amg{ts es:List Expr}{xs:List Str}{js:List Nat}{ta:TA}{kt k2:Nat}{pt p2:Pos}(hc:X.calm=true)(hN:X.N.Nodup)(hnd:js.Nodup)(hl:xs.length=js.length)(h3:js.length<=3)(hn:∀(n:Nat) (x:Str) (j:Nat),xs[n]?=some x->js[n]?=some j->X.N[j]?=some x/\X.env.scope.names.lookup x=some .local)(ha:PA X es ta)
  (hw:swappedStores [.Tuple ts kt pt] (.Tuple es k2 p2) X.env=pure (some xs)) (hs:swapsWithSole [.Tuple ts kt pt] (.Tuple es k2 p2) pos.line X.env=pure false):PS X (.Assign [.Tuple ts kt pt] (.Tuple es k2 p2) pos) (tPN js ta):=by
 refine⟨λpins s σ H D I h=>?_⟩;rw[exec_Assign_arm];refine wpAny_bind (wpAny_standAt ?_);rw[hs];refine wpAny_bind (wpAny_pure ?_);rw[if_neg (by decide)];refine wpAny_bind (Tuple_ (thn (ha.run _ pins s σ H _ I h) λus s1 ⟨vs,H1,I1,r1,e1,q1⟩=>?_));have hu:us.length=js.length:=by rw[←r1.length];exact e1
 refine wpAny_newObj_type ?_ (asl (by simp;omega) (show 3<=sizeLine by decide));have I2:L2.Inv X pins σ H1 { s1 with heap:=s1.heap.push { cls:=.type "tuple",data:=.seq us.toArray } }:=I1.kept (t':=s1.toks) λb o z=>Heap.get?_push_of_some _ z
 rw[hw];refine wpAny_bind (wpAny_pure ?_);show wpAny (model X.prog X.w) X.A (do rule "assign.swapped-stores";let items ←unpackItems (.ref s1.heap.objs.size) xs.length none;assignInOrder (xs.reverse.map λn=>bindName X.env n) items.reverse;pure Flow.next) _ _ _
 have hz:us.toArray.size=xs.length:=by rw[atf,hu,hl]
 have hup:=λ{Q:List Value->Shared->Prop} hQ=>unpackItems_tuple (prog:=X.prog) (w:=X.w) (A:=X.A) (E:=X.xe) (s:={ s1 with heap:=s1.heap.push { cls:=.type "tuple",data:=.seq us.toArray } }) (items:=us.toArray) (Q:=Q) (I.ok.hd hc) (IsTup.new s1.heap _) hQ
 rw[hz]at hup;refine wpAny_bind (wpAny_rule (wpAny_bind (hup λh' hx'=>?_)));have I3:=I2.kept (h':=h') (t':=s1.toks) λb o z=>hx' b o (asw (Heap.lt_size z)) z;refine wpAny_bind (Tz hN (js:=js.reverse) (vs:=vs.reverse) (by rw[asS,asS];exact hl) (vals_rev r1) (by rw[asS,asS];exact hu) (λn x j a b=>?_) I3 λs4 I4=>wpAny_pure ?_)
 ·have n1:=(arQ.mp a).1;have n2:=(arQ.mp b).1;rw[asS]at n1 n2;rw[List.getElem?_reverse n1]at a;rw[List.getElem?_reverse n2,←hl]at b;exact hn _ x j a b
 ·rw[aao js vs σ hnd e1.symm]at I4;exact⟨_,H1,I4,q1⟩
def sPN(js:List Nat)(as:QA):SF:=λM Z=>((as M Z).at M).then Z λds M'=>match rJ js ds Z with
 |some Z'=>.next Z' M'
 |none=>.bad
theorem amT{ts es:List Expr}{xs:List Str}{js:List Nat}{as:QA}{kt k2:Nat}{pt p2:Pos}(hc:X.calm=true)(hN:X.N.Nodup)(hnd:js.Nodup)(hl:xs.length=js.length)(h3:js.length<=3)(hn:∀(n:Nat) (x:Str) (j:Nat),xs[n]?=some x->js[n]?=some j->X.N[j]?=some x/\X.env.scope.names.lookup x=some .local)(ha:DQ aj X W es as)
  (hw:swappedStores [.Tuple ts kt pt] (.Tuple es k2 p2) X.env=pure (some xs)) (hs:swapsWithSole [.Tuple ts kt pt] (.Tuple es k2 p2) pos.line X.env=pure false):SE aj X W q (.Assign [.Tuple ts kt pt] (.Tuple es k2 p2) pos) (sPN js as):=by
 refine PS.weak (amg hc hN hnd hl h3 hn ha hw hs) λD σ H ⟨g,Z,M,I,z⟩=>?_;refine⟨g,Z,M,I,?_⟩;unfold sPN at z;cases hf:as M Z with
 |exc x=>rw[hf]at z;exact λH' c dd e r=>z σ H' g c dd (Gr.ex e) (I.ex e) r.fr
 |bad=>rw[hf]at z;exact atn z
 |ok ds=>
  rw[hf]at z;intro vs H' e r;have z:(match rJ js ds Z with
   |some Z'=>tK.next Z' M
   |none=>.bad).sat (sN X.K aj q D.nx g H) (sR X.K aj q D.rt g H) (sN X.K aj q D.bk g H) (sN X.K aj q D.ct g H) (sX X.K aj W q g H):=z
  split at z
  ·next Z' e'=>
   obtain⟨l1,I1⟩:=Jq (I.ex e) r e';exact⟨l1,z _ H' g (Gr.ex e) I1⟩
  ·exact atn z
theorem alD{j:Nat}{y:Str}{py:Pos}{elt tg iter:Expr}{cpos:Pos}{scope:Scope}{own:List (Str×Nat)}{it:IF}{tgf:fO}{js:List Nat}{tt:QT}{te:QF}{ifs:List Expr}(hc:X.calm=true)(hN:X.N.Nodup)(hy:X.N[j]?=some y)(hyl:X.env.scope.names.lookup y=some .local)
  (hsw:swapsWith (.ListComp elt [⟨tg,iter,ifs,0⟩] scope cpos) (some (.Name y py)) pos.line X.env=pure true) (hi:QI aj X W false tg iter it) (ok:blkC X.N X.env.scope scope own=true) (hj:∀j∈js,j∈own.map (·.2))
  (hg:∀(s:Shared) (H:Hp) (C:Addr) (cl:List (Str×Addr)) (fp:List Addr),QG aj (X.blk s H scope (compEnvC scope cl C X.env) fp) tg js tgf)
  (ht:∀(s:Shared) (H:Hp) (C:Addr) (cl:List (Str×Addr)) (fp:List Addr),PTs (X.blk s H scope (compEnvC scope cl C X.env) fp) ifs (j7 X.K aj WF tt))
  (he:∀(s:Shared) (H:Hp) (C:Addr) (cl:List (Str×Addr)) (fp:List Addr),QE aj (X.blk s H scope (compEnvC scope cl C X.env) fp) WF elt te) (hs:∀x,foldedSetIterable iter X.env x=pure x) :
  SE aj X W q (.Assign [.Name y py] (.ListComp elt [⟨tg,iter,ifs,0⟩] scope cpos) pos) (aZ (aF j) (gOf (dY it tgf (own.map (·.2)) tt te))):=by
 refine PS.weak (ps_setLc (g:=Av X.K aj js tgf) (tt:=j7 X.K aj WF tt) (te:=tQ X.K aj WF te) hc hN hy hyl hsw hi (blkOk_by ok) (λs H C cl fp=>hg s H C cl fp) ht (λs H C cl fp=>he s H C cl fp) hs) λD σ H ⟨g,Z,M,I,z⟩=>?_;refine agZ hj σ H _ ⟨g,Z,M,I,(Out.iV (dw (σ:=σ) z)).mono (λd kk v H' e r=>?_) λx kk H' c dd e r=>kk H' g c dd (Gr.ex e) (I.ex e) r⟩;exact kk _ H' g (Gr.ex e) ((I.ex e).set r)
end
inductive GV where
 |con (d:Dat)
 |fq (n:Nat) (m:Mo->List Dat->Out Dat)
 |fg (n:Nat) (m:Mo->List Dat->bx Dat)
 |dic (kvs:List (Str×Dat))
 |exc
 |exi (fs:List Str)
 |cls (n:Nat) (m:Mo->List Dat->bx Dat)
inductive MV where
 |q (n:Nat) (m:Mo->List Dat->Out Dat)
 |g (n:Nat) (m:Mo->List Dat->bx Dat)
def FQ(P:Program)(w:World)(K:arO)(mg:Str->Option Value)(base:Heap)(aj:aR)(k:Nat)(f:Addr)(n:Nat)(m:Mo->List Dat->Out Dat):Prop:=
 ∃(fd:FuncData) (ps:List Str) (j:Nat),j<=k/\ps.length=n/\Binds K fd ps []/\FnOk P w K mg base (L2.CX P w) j f fd ps (W0 K aj ps.length m)
def FG(P:Program)(w:World)(K:arO)(mg:Str->Option Value)(base:Heap)(aj:aR)(k:Nat)(f:Addr)(n:Nat)(m:Mo->List Dat->bx Dat):Prop:=
 ∃(fd:FuncData) (ps:List Str) (j:Nat),j<=k/\ps.length=n/\Binds K fd ps []/\FnOk P w K mg base (L2.CX P w) j f fd ps (J9 K aj ps.length m)
def jm(K:arO)(aj:aR):Prop:=∀c C f,aj c=some C->f∈aj.fl c->Cls K C/\NoAttr K C f
def bY(P:Program)(w:World)(K:arO)(mg:Str->Option Value)(base:Heap)(aj:aR)(k:Nat)(c m:Str)(v:MV):Prop:=
 ∃C f,aj c=some C/\Cls K C/\Meth K C m f/\m∉aj.fl c/\match v with
  |.q n mm=>FQ P w K mg base aj k f n mm
  |.g n mm=>FG P w K mg base aj k f n mm
def afs(C:Addr)(fs:List Str):Sp:=λvs H Q _=>∃(a:Addr) (xs:List V),vs=.ref a::xs/\xs.length=fs.length/\H a=some (exo a C none)/\
 ∀(dx:Addr) (H':Hp),H dx=none->(∀b o,b≠a->H b=some o->H' b=some o)->(∀b,H' b=none->H b=none)->H' a=some (exo a C (some dx))->H' dx=some (exd dx (fs.zip xs).reverse)->Q .non H'
def acU(w:World)(K:arO)(a:Addr)(kvs:List (Str×Dat)):Prop:=∃(es:Array DictEntry) (n:Nat),KDict K w a es n/\(kvs.map (·.1)).Nodup/\
 ∀x:Str,match kvs.lookup x with
  |some d=>∃v u,PySem.W.nsIn K a x=some (some u)/\RelV v u/\∀g H,Rep K g H v d
  |none=>PySem.W.nsIn K a x=some none
def bf(P:Program)(w:World)(K:arO)(mg:Str->Option Value)(base:Heap)(aj:aR)(k:Nat)(x:Str):GV->Prop
 |.con d=>∃v u,mg x=some u/\RelV v u/\∀g H,Rep K g H v d
 |.fq n m=>∃f,mg x=some (.ref f)/\PySem.W.keepIn K (.ref f)=true/\FQ P w K mg base aj k f n m
 |.fg n m=>∃f,mg x=some (.ref f)/\PySem.W.keepIn K (.ref f)=true/\FG P w K mg base aj k f n m
 |.dic kvs=>∃a,mg x=some (.ref a)/\acU w K a kvs
 |.exc=>∃C,mg x=some (.ref C)/\aj x=some C/\PySem.W.excIn K C He.veBase "ValueError.__new__"=true/\PySem.W.keepIn K (.ref C)=true/\PySem.W.subIn K (.ref C) (.type "BaseException")=some true/\PySem.W.typeIn K (.ref C)=some (.type "type")
 |.exi fs=>∃(C fI:Addr) (fd:FuncData) (ps:List Str),mg x=some (.ref C)/\aj x=some C/\OexC K C/\PySem.W.findIn K (.ref C) "__init__"=some (some (.ref fI))/\PySem.W.typeIn K (.ref fI)=some (.type "function")/\2<=k/\ps.length=fs.length+1/\Binds K fd ps []/\FnOk P w K mg base CX0 1 fI fd ps (afs C fs)
 |.cls n m=>∃(C f:Addr) (fd:FuncData) (ps:List Str) (j:Nat),mg x=some (.ref C)/\aj x=some C/\Cls K C/\Mk K C f/\j+1<=k/\ps.length=n+1/\Binds K fd ps []/\FnOk P w K mg base (L2.CX P w) j f fd ps (J9 K aj ps.length m)
def acD(K:arO)(aj:aR)(y:Str)(tk:Str->Option Bool):Prop:=∀x b C,tk x=some b->aj x=some C->∀D,aj y=some D->PySem.W.exmOne K (.ref C) (.ref D)=some b
def putL(f:Str)(x:jc):List (Str×jc)->List (Str×jc)
 |[]=>[(f,x)]
 |(g,y)::r=>if g=f then(g,x)::r else(g,y)::putL f x r
def Inst.put(i:Inst)(f:Str)(x:jc):Inst:=⟨i.cls,putL f x i.fs⟩
theorem Jl(f:Str)(x:jc):∀gs:List (Str×jc),(putL f x gs).map (·.1)=if f∈gs.map (·.1) then gs.map (·.1) else gs.map (·.1)++[f]
 |[]=>by simp[putL]
 |(g,y)::r=>by
  have ih:=Jl f x r;rw[putL];by_cases e:g=f
  ·subst e;simp
  ·rw[if_neg e,arT,ih];by_cases h:f∈r.map (·.1)
   ·rw[if_pos h,if_pos (by simp[h])];rfl
   ·rw[if_neg h,if_neg (by
     rw[arT,ar4]
     rintro(z|z)
     ·exact e z.symm
     ·exact h z)]
    rfl
theorem acz{f:Str}{x:jc}{gs:List (Str×jc)}(h:(gs.map (·.1)).Nodup):((putL f x gs).map (·.1)).Nodup:=by
 rw[Jl];split
 ·exact h
 ·next n=>
  rw[asO];refine⟨h,by simp,λa ha b hb e=>?_⟩;subst e;rw[arV]at hb;subst hb;exact n ha
theorem KN{f:Str}{v:V}:∀{fs:List (Str×V)},fs.lookup f=some v->putF f v fs=fs
 |[],h=>nomatch h
 |(g,y)::r,h=>by
  rw[asp]at h;rw[show putF f v ((g,y)::r)=(if g=f then(g,v)::r else(g,y)::putF f v r) from rfl];by_cases e:g=f
  ·subst e;simp at h;rw[if_pos rfl,h]
  ·have ne:(f==g)=false:=by simpa using λz=>e z.symm
   rw[ne]at h;rw[if_neg e,KN h]
section
variable{K:arO}{aj:aR}{W:WX}{g g':Gh}{H H':Hp}{σ:L2.St}{Z:Env}{M:Mo}{h:Nat}{f:Str}{v:V}{fl:jc}
theorem cM.put(hk:∀f' v' fl',f'≠f->dU K aj g H h f' v' fl'->dU K aj g' H' h f' v' fl')(new:dU K aj g' H' h f v fl):∀{fs:List (Str×V)} {gs:List (Str×jc)},cM K aj g H h fs gs->(gs.map (·.1)).Nodup->cM K aj g' H' h (putF f v fs) (putL f fl gs)
 |_,_,.nil,_=>.cons new .nil
 |_,_,.cons (f:=f') (v:=v') (fl:=fl') (fs:=fs) (gs:=gs) z t,nd=>by
  rw[show putF f v ((f',v')::fs)=(if f'=f then(f',v)::fs else(f',v')::putF f v fs) from rfl,putL];rw[arT,asW]at nd;by_cases e:f'=f
  ·subst e;rw[if_pos rfl,if_pos rfl];refine .cons new ?_;have go:∀{fs:List (Str×V)} {gs:List (Str×jc)},cM K aj g H h fs gs->f'∉gs.map (·.1)->cM K aj g' H' h fs gs:=λ{fs gs} t=>by
    induction t with
    |nil=>exact λ_=>.nil
    |cons z _ ih=>
     intro n;rw[arT,ar4,not_or]at n;exact .cons (hk _ _ _ (λq=>n.1 q.symm) z) (ih n.2)
   exact go t nd.1
  ·rw[if_neg e,if_neg e];exact .cons (hk _ _ _ e z) (cM.put hk new t nd.2)
structure Chg(M:Mo)(g g':Gh)(H H':Hp)(h:Nat)(f:Str):Prop where
 gc:Gc g g' H H'
 kd:Kd g' H'
 tbl:g'.tbl=g.tbl
 ow:∀a p,g.ow a=some p->g'.ow a=some p
 oth:∀a p,g.ow a=some p->p≠(h,f)->H' a=H a
 ins:∀(k:Nat) (a:Addr) (i:Inst),g.tbl[k]?=some a->M[k]?=some i->i.cls≠""->k≠h->H' a=H a
 nt:∀(k:Nat) (a:Addr) (i:Inst),g.tbl[k]?=some a->M[k]?=some i->i.cls≠""->∀p,g'.ow a≠some p
theorem jy.chg{l:Addr}(r:Gr false g g' H H')(k:Kd g H)(e:H' l=H l):∀{n:Bool} {kvs:List (Dat×Dat)},jy K aj g H l n kvs->jy K aj g' H' l n kvs
 |false,_,⟨kv,h1,h2,h3⟩=>⟨kv,e.trans h1,h2,h3.gr r k⟩
 |true,_,⟨o,xs,vs,h1,h2,h3,h4,h5,h6⟩=>⟨o,xs,vs,e.trans h1,h2,h3,h4.gr r k,h5,h6.gr r k⟩
theorem dU.chg(c:Chg M g g' H H' h f)(k:Kd g H){h':Nat}{f':Str}{v':V}(ne:(h',f')≠(h,f)):∀{fl':jc},dU K aj g H h' f' v' fl'->dU K aj g' H' h' f' v' fl'
 |.dat _,z=>Rep.gr c.gc.gr k z
 |.lst _ _,⟨l,us,h1,h2,h3,h4,h5⟩=>⟨l,us,h1,(c.oth l _ h3 ne).trans h2,c.ow l _ h3,h4.gr c.gc.gr k,c.gc.gr.tb h5⟩
 |.dic _ _,⟨l,h1,h2,h3⟩=>⟨l,h1,c.ow l _ h2,h3.chg c.gc.gr k (c.oth l _ h2 ne)⟩
theorem fZ.chg(w:fZ K aj g H M)(k:Kd g H)(c:Chg M g g' H H' h f){a:Addr}{i:Inst}(ha:g.tbl[h]?=some a)(hi:M[h]?=some i)(hne:i.cls≠"")(hf:f∈aj.fl i.cls){C dx:Addr}{fs:List (Str×V)}(hC:aj i.cls=some C)(R:cM K aj g H h fs i.fs)
  (e':H' a=some (.ins C dx (putF f v fs))) (new:dU K aj g' H' h f v fl):fZ K aj g' H' (M.set h (i.put f fl)) where
 len:=by rw[c.tbl,aso];exact w.len
 inj:=by rw[c.tbl];exact w.inj
 ins:=λh' a' i' ha' hi' hc'=>by
  rw[c.tbl]at ha';by_cases z:h'=h
  ·subst z;rw[ha]at ha';cases ha';rw[ar8 (arQ.mp hi).1]at hi';cases hi';exact⟨C,dx,_,hC,e',R.put (λf' v' fl' ne z=>z.chg c k λq=>ne (congrArg Prod.snd q)) new (w.nd _ i hi)⟩
  ·rw[arX (Ne.symm z)]at hi';obtain⟨C',dx',fs',c1,c2,c3⟩:=w.ins h' a' i' ha' hi' hc';refine⟨C',dx',fs',c1,(c.ins h' a' i' ha' hi' hc' z).trans c2,?_⟩;have go:∀{fs:List (Str×V)} {gs:List (Str×jc)},cM K aj g H h' fs gs->cM K aj g' H' h' fs gs:=λ{fs gs} t=>by
    induction t with
    |nil=>exact .nil
    |cons y _ ih=>exact .cons (y.chg c k λq=>z (congrArg Prod.fst q)) ih
   exact go c3
 nd:=λh' i' hi'=>by
  by_cases z:h'=h
  ·subst z;rw[ar8 (arQ.mp hi).1]at hi';cases hi';exact acz (w.nd _ i hi)
  ·rw[arX (Ne.symm z)]at hi';exact w.nd h' i' hi'
 fd:=λh' i' hi' f' hf'=>by
  by_cases z:h'=h
  ·subst z;rw[ar8 (arQ.mp hi).1]at hi';cases hi';have hf':f'∈(putL f fl i.fs).map (·.1):=hf';rw[Jl]at hf';split at hf'
   ·exact w.fd _ i hi f' hf'
   ·rcases ar0.mp hf' with y|y
    ·exact w.fd _ i hi f' y
    ·rw[arV]at y;rw[y];exact hf
  ·rw[arX (Ne.symm z)]at hi';exact w.fd h' i' hi' f' hf'
 tw:=λk' a' i' ha' hi' hc'=>by
  rw[c.tbl]at ha';have:∃i0,M[k']?=some i0/\i0.cls≠"":=by
   by_cases z:k'=h
   ·subst z;exact⟨i,hi,hne⟩
   ·rw[arX (Ne.symm z)]at hi';exact⟨i',hi',hc'⟩
  obtain⟨i0,m1,m2⟩:=this;cases hz:g'.ow a' with
  |none=>rfl
  |some p=>exact absurd hz (c.nt k' a' i0 ha' m1 m2 p)
 dm:=λh' i' hi' hc'=>by
  by_cases z:h'=h
  ·subst z;rw[ar8 (arQ.mp hi).1]at hi';cases hi';exact absurd hc' hne
  ·rw[arX (Ne.symm z)]at hi';exact w.dm h' i' hi' hc'
 nc:=w.nc
theorem amC{a:Addr}(ha:g.tbl[h]?=some a):g.W a:=.inl (arW ha)
theorem U5(k:Kd g H)(w:fZ K aj g H M){a:Addr}{i:Inst}(ha:g.tbl[h]?=some a)(hi:M[h]?=some i)(hc:i.cls≠""){C dx:Addr}{fs':List (Str×V)}:Chg M g g H (upd H a (.ins C dx fs')) h f where
 gc:=⟨λb o hb n=>by rw[upd_ne (λz=>by subst z;exact n (amC ha))];exact hb,λb hb=>by
  by_cases z:b=a
  ·subst z;rw[upd_same]at hb;cases hb
  ·rw[upd_ne z]at hb;exact hb,⟨[],by simp⟩,λ_ z=>z,λ_ z=>.inl z,rfl,rfl⟩
 kd:=k.upd trivial
 tbl:=rfl
 ow:=λ_ _ z=>z
 oth:=λb p hb _=>upd_ne λz=>by
  subst z;rw[w.tw h _ i ha hi hc]at hb;cases hb
 ins:=λj b i' hb _ _ ne=>upd_ne λz=>by
  subst z;exact ne (w.inj _ _ _ hb ha)
 nt:=λj b i' hb hj hcj p z=>by
  rw[w.tw j b i' hb hj hcj]at z;cases z
def Gh.own(g:Gh)(l:Addr)(h:Nat)(f:Str):Gh:={ g with ow:=λb=>if b=l then some (h,f) else g.ow b }
theorem alO{l a:Addr}(hl:l∈g.tbl):(g.own l h f).W a↔g.W a:=by
 constructor
 ·rintro(z|z)
  ·exact .inl z
  ·by_cases y:a=l
   ·subst y;exact .inl hl
   ·have z:(if a=l then some (h,f) else g.ow a)≠none:=z;rw[if_neg y]at z;exact .inr z
 ·rintro(z|z)
  ·exact .inl z
  ·refine .inr ?_
   show(if a=l then some (h,f) else g.ow a)≠none
   split
   ·exact λq=>nomatch q
   ·exact z
theorem Vu(k:Kd g H)(w:fZ K aj g H M){a l:Addr}{n:Nat}{i:Inst}(ha:g.tbl[h]?=some a)(hi:M[h]?=some i)(hc:i.cls≠"")(hl:g.tbl[n]?=some l)(hn:M[n]?=some ⟨"",[]⟩)(nl:g.ow l=none){C dx:Addr}{fs':List (Str×V)}:Chg M g (g.own l h f) H (upd H a (.ins C dx fs')) h f:=by
 have W':∀{b:Addr},(g.own l h f).W b↔g.W b:=λ{b}=>alO (arW hl);have d:=U5 (f:=f) (C:=C) (dx:=dx) (fs':=fs') k w ha hi hc;refine⟨⟨d.gc.keep,d.gc.dom,⟨[],by simp[Gh.own]⟩,λb z=>W'.mpr z,λb z=>.inl (W'.mp z),rfl,rfl⟩,⟨λb z=>d.kd.ob b ?_,λb z y=>d.kd.lo b z (W'.mp y),λb z=>⟨λy=>(d.kd.lc b z).1 (W'.mp y),(d.kd.lc b z).2⟩⟩,rfl,λb p z=>?_,d.oth,d.ins,λj b i' hb hj hcj p z=>?_⟩
 ·rcases z with z|z|z
  ·exact .inl (W'.mp z)
  ·exact .inr (.inl z)
  ·exact .inr (.inr z)
 ·show(if b=l then some (h,f) else g.ow b)=some p
  rw[if_neg (λy=>by subst y;rw[nl]at z;cases z)];exact z
 ·have z:(if b=l then some (h,f) else g.ow b)=some p:=z;by_cases y:b=l
  ·subst y;cases w.inj _ _ _ hb hl;rw[hn]at hj;cases hj;exact hcj rfl
  ·rw[if_neg y,w.tw j b i' hb hj hcj]at z;cases z
theorem aer(k:Kd g H)(w:fZ K aj g H M){l:Addr}{o':HO}(ho:g.ow l=some (h,f))(mo:Ir o'):Chg M g g H (upd H l o') h f where
 gc:=⟨λb u hb n=>by rw[upd_ne (λz=>by subst z;exact n (.inr (by rw[ho];exact λy=>nomatch y)))];exact hb,λb hb=>by
  by_cases z:b=l
  ·subst z;rw[upd_same]at hb;cases hb
  ·rw[upd_ne z]at hb;exact hb,⟨[],by simp⟩,λ_ z=>z,λ_ z=>.inl z,rfl,rfl⟩
 kd:=k.upd mo
 tbl:=rfl
 ow:=λ_ _ z=>z
 oth:=λb p hb ne=>upd_ne λz=>by
  subst z;rw[ho]at hb;exact ne (ase hb).symm
 ins:=λj b i' hb hj hcj ne=>upd_ne λz=>by
  subst z;rw[w.tw j _ i' hb hj hcj]at ho;cases ho
 nt:=λj b i' hb hj hcj p z=>by
  rw[w.tw j b i' hb hj hcj]at z;cases z
theorem cM.len{fs:List (Str×V)}{gs:List (Str×jc)}(t:cM K aj g H h fs gs):fs.length=gs.length:=by
 induction t with
 |nil=>rfl
 |cons _ _ ih=>simp[ih]
end
def Lh(M:Mo)(f:Str):Dat->Option jc
 |.dict [(.none,.int (.ofNat h))]=>(M[h]?).bind λi=>i.fs.lookup f
 |_=>none
def gQ(f:Str)(o:QF):QF:=λM Z=>(o M Z).bind λd=>match Lh M f d with
 |some (.dat x)=>.ok x
 |_=>.bad
def bL(f:Str)(o:QF):QF:=λM Z=>(o M Z).bind λd=>match Lh M f d with
 |some (.dat x)=>.ok x
 |some (.lst _ xs)=>.ok (.list xs)
 |_=>.bad
theorem aeA{M:Mo}{f:Str}{d:Dat}{fl:jc}(h:Lh M f d=some fl):∃n i,d=obj n/\M[n]?=some i/\i.fs.lookup f=some fl:=by
 unfold Lh at h;split at h
 ·next n=>
  obtain⟨i,h1,h2⟩:=arN.mp h;exact⟨n,i,rfl,h1,h2⟩
 ·cases h
theorem lookup_mem{f:Str}{fl:jc}:∀{gs:List (Str×jc)},gs.lookup f=some fl->f∈gs.map (·.1)
 |[],h=>nomatch h
 |(g,y)::r,h=>by
  rw[asp]at h;cases hb:f==g with
  |true=>rw[eq_of_beq hb];simp
  |false=>
   rw[hb]at h;exact arS _ (lookup_mem h)
section
variable{K:arO}{aj:aR}{g:Gh}{H:Hp}{M:Mo}
theorem aaj(co:jm K aj)(w:fZ K aj g H M){f:Str}{d:Dat}{fl:jc}{v:V}(h:Lh M f d=some fl)(r:dX K g H v d):∃n i a C dx fs u,d=obj n/\M[n]?=some i/\i.fs.lookup f=some fl/\g.tbl[n]?=some a/\v=.ref a/\aj i.cls=some C/\H a=some (.ins C dx fs)/\cM K aj g H n fs i.fs/\Cls K C/\NoAttr K C f/\fs.lookup f=some u/\dU K aj g H n f u fl:=by
 obtain⟨n,i,rfl,h1,h2⟩:=aeA h;obtain⟨a,rfl,ha⟩:=Ls r;have hc:i.cls≠"":=λz=>by
  rw[w.dm n i h1 z]at h2;cases h2
 obtain⟨C,dx,fs,c1,c2,c3⟩:=w.ins n a i ha h1 hc;obtain⟨u,l1,l2⟩:=c3.get h2;obtain⟨k1,k2⟩:=co i.cls C f c1 (w.fd n i h1 f (lookup_mem h2));exact⟨n,i,a,C,dx,fs,u,rfl,h1,h2,ha,rfl,c1,c2,c3,k1,k2,l1,l2⟩
end
section
variable{X:Cx}{aj:aR}{W:WX}{o e:Expr}{es:List Expr}{fo:QF}{f m:Str}{pos apos:Pos}
theorem ak9(co:jm X.K aj)(ho:QW aj X W o fo)(hb:baseOk o=true):QE aj X W (.Attribute o f pos) (gQ f fo):=
 PE.weak (pe_fld ho (mW hb)) λσ H Q ⟨g,Z,M,I,h⟩=>by
  refine tW.go I h.bnd λd v H1 h1 e1 r1=>?_;split at h1
  ·next x hx=>
   obtain⟨n,i,a,C,dx,fs,u,_,_,_,_,rfl,_,c2,_,k1,k2,l1,l2⟩:=aaj co (I.ex e1).wok hx r1;exact⟨a,C,dx,fs,u,rfl,c2,k1,k2,l1,h1 u H1 e1 l2⟩
  ·exact atn h1
theorem akS(co:jm X.K aj)(ho:QW aj X W o fo)(hb:baseOk o=true):QW aj X W (.Attribute o f pos) (bL f fo):=
 PE.weak (pe_fld ho (mW hb)) λσ H Q ⟨g,Z,M,I,h⟩=>by
  refine tW.go I h.bnd λd v H1 h1 e1 r1=>?_;split at h1
  ·next x hx=>
   obtain⟨n,i,a,C,dx,fs,u,_,_,_,_,rfl,_,c2,_,k1,k2,l1,l2⟩:=aaj co (I.ex e1).wok hx r1;exact⟨a,C,dx,fs,u,rfl,c2,k1,k2,l1,h1 u H1 e1 (Rep.weak l2)⟩
  ·next xs hx=>
   obtain⟨n,i,a,C,dx,fs,u,_,_,_,_,rfl,_,c2,_,k1,k2,l1,l,us,rfl,s1,s2,s3,_⟩:=aaj co (I.ex e1).wok hx r1;exact⟨a,C,dx,fs,_,rfl,c2,k1,k2,l1,h1 _ H1 e1 ⟨l,us,rfl,sq_of s1,s3⟩⟩
  ·exact atn h1
def Rh(X:Cx)(W:WX)(m:Str)(ta:TE)(t:TA):TE:=λσ H Q=>ta σ H λx H1=>∃(a C dx:Addr) (fs:List (Str×V)) (f:Addr) (fd:FuncData) (ps:List Str) (sp:Sp) (k:Nat),x=.ref a/\H1 a=some (.ins C dx fs)/\fs.lookup m=none/\Cls X.K C/\Meth X.K C m f/\Room k X.A/\Binds X.K fd ps []/\
 FnOk X.prog X.w X.K X.mg X.base (L2.CX X.prog X.w) k f fd ps sp/\t σ H1 λvs H2=>sp (x::vs) H2 Q (WE W σ)
theorem V7{M:Model}{A:Around}{E:Value->Shared->Prop}{s:Shared}{env:PySem.Env}{args:List Expr}{Q:Value->Shared->Prop}(hbase:baseOk o=true)(hs:args.all nst=true)(hz:args.length < 30)(hl:(apos.endLine==pos.line)=true)
  (h:wpAny M A (eval o env) (λov s₁=>∀pl:Sem Bool,wpAny M A (getMethod ov m pl) (λfx s₂=>wpAny M A (callWith pos fx.1 fx.2 (backTo pos (starEach args env)) (backToKw pos (keywordEach [] env))) Q E s₂) E s₁) E s) :
  wpAny M A (eval (.Call (.Attribute o m apos) args [] pos) env) Q E s:=by
 have hform:methodCallForm (args.length+([]:List Keyword).length) (backTo pos (starEach args env)) (backToKw pos (keywordEach [] env))=true:=few hs hz;have hpos:methodCallPos true o env apos pos=pure pos:=by unfold methodCallPos;simp[hl]
 rw[arm_eval_Call,mW hbase];refine wpAny_bind (wpAny_mono h (λov s₁ h₁=>?_) λ_ _ e=>e);refine wpAny_bind (wpAny_standAt ?_);unfold methodCall;rw[hform];refine wpAny_bind (wpAny_holding ?_);refine wpAny_mono (h₁ _) (λfx s₂ h₂=>?_) λ_ _ e=>e;exact wpAny_bind (wpAny_of_eq hpos h₂)
theorem YH{ta:TE}{t:TA}(tk:Takes X W)(ho:PE X o ta)(ha:PA X (e::es) t)(hb:baseOk o=true)(hs:(e::es).all nst=true)(hl:(apos.endLine==pos.line)=true)(hz:(e::es).length < 30):PE X (.Call (.Attribute o m apos) (e::es) [] pos) (Rh X W m ta t):=by have hs':=hs;rw[asC,arP]at hs';refine⟨λpins s σ H Q I h=>?_⟩;refine V7 hb hs hz hl (thn (ho.run pins s σ H _ I h) λu s1 ⟨x,G,J,rx,a,C,dx,fs,f,fd,ps,sp,k,ex,ea,l,c,hm,hr,hB,F,q⟩ pl=>?_);subst ex;cases rx;refine getmeth_ok J ea c hm l ?_;refine PySem.W.callWith_K (first:=[.ref a]) (h₀:=X.base) I.ok.mod.kin hm.kp (thn (ha.run pos pins s1 σ G _ J q) λus s2 ⟨vs,G2,J2,r,q2⟩=>⟨J2.kIn,?_⟩) (cJ hs'.1 es) (star_any es hs'.2);exact run_fnS (us:=.ref a::us) (vs:=.ref a::vs) F hr hB (passAt tk σ) J2 (.cons rfl r) q2
theorem WW{ta:TE}(tk:Takes X W)(ho:PE X o ta)(hb:baseOk o=true)(hl:(apos.endLine==pos.line)=true):PE X (.Call (.Attribute o m apos) [] [] pos) (Rh X W m ta tNil):=by refine⟨λpins s σ H Q I h=>?_⟩;refine V7 hb rfl (by decide) hl (thn (ho.run pins s σ H _ I h) λu s1 ⟨x,G,J,rx,a,C,dx,fs,f,fd,ps,sp,k,ex,ea,l,c,hm,hr,hB,F,q⟩ pl=>?_);subst ex;cases rx;refine getmeth_ok J ea c hm l ?_;exact PySem.W.callWith_K0 (first:=[.ref a]) J.kIn hm.kp (run_fnS (us:=[.ref a]) (vs:=[.ref a]) F hr hB (passAt tk σ) J (.cons rfl .nil) q)
def Ey(tb:List (Str×MV))(M:Mo):Dat->Option MV
 |.dict [(.none,.int (.ofNat h))]=>(M[h]?).bind λi=>tb.lookup i.cls
 |_=>none
def aU(tb:List (Str×MV))(o:QF)(as:QA):QF:=λM Z=>(o M Z).bind λd=>match Ey tb M d with
 |some (.q _ m)=>(as M Z).bind λds=>m M (d::ds)
 |_=>.bad
def cO(tb:List (Str×MV))(o:QF)(as:QA):GF:=λM Z=>((o M Z).at M).bind λd _=>match Ey tb M d with
 |some (.q _ m)=>((as M Z).at M).bind λds _=>(m M (d::ds)).at M
 |some (.g _ m)=>((as M Z).at M).bind λds _=>m M (d::ds)
 |none=>.bad
def Io(X:Cx)(aj:aR)(k:Nat)(m:Str)(n:Nat)(tb:List (Str×MV)):Prop:=∀c v,tb.lookup c=some v->bY X.prog X.w X.K X.mg X.base aj k c m v/\match v with
  |.q j _=>j=n
  |.g j _=>j=n
theorem Io.cls{k n:Nat}{tb:List (Str×MV)}(T:Io X aj k m n tb):∀c v,tb.lookup c=some v->aj c≠none:=λc v h z=>by
 obtain⟨⟨C,f,c1,_⟩,_⟩:=T c v h;rw[z]at c1;cases c1
theorem Vn{K:arO}{g:Gh}{H:Hp}{M:Mo}{tb:List (Str×MV)}{d:Dat}{v:V}{mv:MV}(ht:∀c v,tb.lookup c=some v->aj c≠none)(w:fZ K aj g H M)(h:Ey tb M d=some mv)(r:dX K g H v d):∃n i a C dx fs,d=obj n/\M[n]?=some i/\tb.lookup i.cls=some mv/\g.tbl[n]?=some a/\v=.ref a/\aj i.cls=some C/\H a=some (.ins C dx fs)/\cM K aj g H n fs i.fs:=by
 unfold Ey at h;split at h
 ·next n=>
  obtain⟨i,h1,h2⟩:=arN.mp h;obtain⟨a,rfl,ha⟩:=Ls r;obtain⟨C,dx,fs,c1,c2,c3⟩:=w.ins n a i ha h1 λz=>ht _ _ h2 (by rw[z];exact w.nc);exact⟨n,i,a,C,dx,fs,rfl,h1,h2,ha,rfl,c1,c2,c3⟩
 ·cases h
theorem Za{K:arO}{g:Gh}{H:Hp}{M:Mo}{n:Nat}{i:Inst}{fs:List (Str×V)}(w:fZ K aj g H M)(hi:M[n]?=some i)(R:cM K aj g H n fs i.fs)(h:m∉aj.fl i.cls):fs.lookup m=none:=by
 refine R.no ?_;cases hl:i.fs.lookup m with
 |none=>rfl
 |some x=>exact absurd (w.fd n i hi m (lookup_mem hl)) h
theorem adH{tb:List (Str×MV)}{as:QA}{n k:Nat}{t:TA}(hr:Room k X.A)(T:Io X aj k m n tb)(hn:∀M Z ds,as M Z=.ok ds->ds.length+1=n)(ht:∀σ H Q,Ov X.K aj W as σ H Q->t σ H Q)(σ:L2.St)(H:Hp)(Q:VK)(h:tQ X.K aj W (aU tb fo as) σ H Q):Rh X W m (tW X.K aj W fo) t σ H Q:=by
 obtain⟨g,Z,M,I,h⟩:=h;refine tW.go I h.bnd λd v H1 h1 e1 r1=>?_;have I1:=I.ex e1;split at h1
 ·next j mm hmv=>
  obtain⟨hd,i,a,C,dx,fs,rfl,hi,hl,ha,rfl,c1,c2,c3⟩:=Vn T.cls I1.wok hmv r1;obtain⟨⟨C',f,cc,cl,me,nf,fd,ps,j',hj,hp,hB,F⟩,en⟩:=T _ _ hl;have en:j=n:=en;rw[c1]at cc;cases cc;refine⟨a,C,dx,fs,f,fd,ps,_,j',rfl,c2,Za I1.wok hi c3 nf,cl,me,hr.mono hj,hB,F,ht σ H1 _ ⟨g,Z,M,I1,?_⟩⟩;have h2:=h1.bnd;cases has:as M Z with
  |exc x=>rw[has]at h2;exact rG.ex e1 h2
  |bad=>rw[has]at h2;exact atn h2
  |ok ds=>
   rw[has]at h2;intro vs H2 e2 r2;refine⟨by rw[hp,en,←hn M Z ds has,ar6,r2.length],g,M,obj hd::ds,(I1.ex e2).kd,(I1.ex e2).wok,.cons (.obj ha) r2,?_⟩;exact Out.sat.mono h2 (λd k v H' e' r'=>k v H' ((e1.trans e2).trans e') r') λx k H' c dd e' r'=>k H' c dd ((e1.trans e2).trans e') r'
 ·exact atn h1
theorem ahI{tb:List (Str×MV)}{as:QA}{k:Nat}(tk:Takes X W)(hr:Room k X.A)(T:Io X aj k m ((e::es).length+1) tb)(ho:QW aj X W o fo)(ha:DQ aj X W (e::es) as)(hn:∀M Z ds,as M Z=.ok ds->ds.length=(e::es).length)(hb:baseOk o=true)(hs:(e::es).all nst=true)(hl:(apos.endLine==pos.line)=true)(hz:(e::es).length < 30) :
  QE aj X W (.Call (.Attribute o m apos) (e::es) [] pos) (aU tb fo as):=
 PE.weak (YH tk ho ha hb hs hl hz) λσ H Q h=>adH hr T (λM Z ds z=>by rw[hn M Z ds z]) (λ_ _ _ z=>z) σ H Q h
theorem agh{tb:List (Str×MV)}{k:Nat}(tk:Takes X W)(hr:Room k X.A)(T:Io X aj k m 1 tb)(ho:QW aj X W o fo)(hb:baseOk o=true)(hl:(apos.endLine==pos.line)=true) :
  QE aj X W (.Call (.Attribute o m apos) [] [] pos) (aU tb fo au):=
 PE.weak (WW tk ho hb hl) λσ H Q h=>adH hr T (λM Z ds z=>by cases z;rfl) (λσ H Q ⟨g,Z,M,I,z⟩=>z [] H (Ex.refl H) .nil) σ H Q h
theorem aeu{tb:List (Str×MV)}{as:QA}{n k:Nat}{t:TA}(hr:Room k X.A)(T:Io X aj k m n tb)(hn:∀M Z ds,as M Z=.ok ds->ds.length+1=n)(ht:∀σ H Q,Ov X.K aj W as σ H Q->t σ H Q)(σ:L2.St)(H:Hp)(Q:VK)(h:tE X.K aj W false (cO tb fo as) σ H Q):Rh X W m (tW X.K aj W fo) t σ H Q:=by
 obtain⟨g,Z,M,I,h⟩:=h;have quiet:∀{x:dG},gE X.K aj W false g H σ Z x M->rG X.K aj W g H σ x:=λ{x} z H' c dd e r=>z H' g c dd (Gr.ex e) (I.ex e) r;have h:=h.bnd;refine⟨g,Z,M,I,?_⟩;cases ho:fo M Z with
 |exc x=>rw[ho]at h;exact quiet h
 |bad=>rw[ho]at h;exact atn h
 |ok d=>
  rw[ho]at h;intro v H1 e1 r1;have I1:=I.ex e1;have h:(match Ey tb M d with
   |some (.q _ m)=>((as M Z).at M).bind λds _=>(m M (d::ds)).at M
   |some (.g _ m)=>((as M Z).at M).bind λds _=>m M (d::ds)
   |none=>.bad).sat (λd M'=>∀v H' g',Gr false g g' H H'->SInv X.K aj σ H' g' Z M'->Rep X.K g' H' v d->Q v H') (gE X.K aj W false g H σ Z):=h
  split at h
  ·next j mm hmv=>
   obtain⟨hd,i,a,C,dx,fs,rfl,hi,hl,ha,rfl,c1,c2,c3⟩:=Vn T.cls I1.wok hmv r1;obtain⟨⟨C',f,cc,cl,me,nf,fd,ps,j',hj,hp,hB,F⟩,en⟩:=T _ _ hl;have en:j=n:=en;rw[c1]at cc;cases cc;refine⟨a,C,dx,fs,f,fd,ps,_,j',rfl,c2,Za I1.wok hi c3 nf,cl,me,hr.mono hj,hB,F,ht σ H1 _ ⟨g,Z,M,I1,?_⟩⟩;have h2:=h.bnd;cases has:as M Z with
   |exc x=>rw[has]at h2;exact rG.ex e1 (quiet h2)
   |bad=>rw[has]at h2;exact atn h2
   |ok ds=>
    rw[has]at h2;intro vs H2 e2 r2;have e12:=e1.trans e2;refine⟨by rw[hp,en,←hn M Z ds has,ar6,r2.length],g,M,obj hd::ds,(I1.ex e2).kd,(I1.ex e2).wok,.cons (.obj ha) r2,?_⟩;exact Out.sat.mono (Out.iV h2) (λd k v H' e' r'=>k v H' g (Gr.ex (e12.trans e')) (I.ex (e12.trans e')) r') λx k H' c dd e' r'=>k H' g c dd (Gr.ex (e12.trans e')) (I.ex (e12.trans e')) r'
  ·next j mm hmv=>
   obtain⟨hd,i,a,C,dx,fs,rfl,hi,hl,ha,rfl,c1,c2,c3⟩:=Vn T.cls I1.wok hmv r1;obtain⟨⟨C',f,cc,cl,me,nf,fd,ps,j',hj,hp,hB,F⟩,en⟩:=T _ _ hl;have en:j=n:=en;rw[c1]at cc;cases cc;refine⟨a,C,dx,fs,f,fd,ps,_,j',rfl,c2,Za I1.wok hi c3 nf,cl,me,hr.mono hj,hB,F,ht σ H1 _ ⟨g,Z,M,I1,?_⟩⟩;have h2:=h.bnd;cases has:as M Z with
   |exc x=>rw[has]at h2;exact rG.ex e1 (quiet h2)
   |bad=>rw[has]at h2;exact atn h2
   |ok ds=>
    rw[has]at h2;intro vs H2 e2 r2;have e12:=e1.trans e2;refine⟨by rw[hp,en,←hn M Z ds has,ar6,r2.length],g,M,obj hd::ds,(I1.ex e2).kd,(I1.ex e2).wok,.cons (.obj ha) r2,?_⟩;exact bx.sat.mono h2 (λd M' k v H' g' c kd wk r'=>k v H' g' ((Gr.ex e12).trans c.gr) ((I.ex e12).call c kd wk) r') λx M' k H' g' cc dd c kd wk r'=>k H' g' cc dd ((Gr.ex e12).trans c.gr) ((I.ex e12).call c kd wk) r'
  ·exact atn h
theorem ahS{tb:List (Str×MV)}{as:QA}{k:Nat}(tk:Takes X W)(hr:Room k X.A)(T:Io X aj k m ((e::es).length+1) tb)(ho:QW aj X W o fo)(ha:DQ aj X W (e::es) as)(hn:∀M Z ds,as M Z=.ok ds->ds.length=(e::es).length)(hb:baseOk o=true)(hs:(e::es).all nst=true)(hl:(apos.endLine==pos.line)=true)(hz:(e::es).length < 30) :
  GE aj X W false (.Call (.Attribute o m apos) (e::es) [] pos) (cO tb fo as):=
 PE.weak (YH tk ho ha hb hs hl hz) λσ H Q h=>aeu hr T (λM Z ds z=>by rw[hn M Z ds z]) (λ_ _ _ z=>z) σ H Q h
theorem afV{tb:List (Str×MV)}{k:Nat}(tk:Takes X W)(hr:Room k X.A)(T:Io X aj k m 1 tb)(ho:QW aj X W o fo)(hb:baseOk o=true)(hl:(apos.endLine==pos.line)=true) :
  GE aj X W false (.Call (.Attribute o m apos) [] [] pos) (cO tb fo au):=
 PE.weak (WW tk ho hb hl) λσ H Q h=>aeu hr T (λM Z ds z=>by cases z;rfl) (λσ H Q ⟨g,Z,M,I,z⟩=>z [] H (Ex.refl H) .nil) σ H Q h
end
def eG(x:Str):SF:=λM Z=>.exc ⟨x,[]⟩ Z M
def BZ(x:Str)(fs:List Str)(as:QA):SF:=λM Z=>((as M Z).at M).then Z λds M'=>.exc ⟨x,(fs.zip ds).reverse⟩ Z M'
section
variable{X:Cx}{aj:aR}{W:WX}{q:Bool}{x:Str}{pos p p1:Pos}{k:Nat}
theorem afg(hc:X.calm=true)(tk:Takes X W)(hg:Gl X x)(hd:(x==("__debug__" : Str))=false)(g:bf X.prog X.w X.K X.mg X.base aj k x .exc):SE aj X W q (.Raise (some (.Call (.Name x p) [] [] p1)) none pos) (eG x):=by obtain⟨C,g1,g2,g3,g4,g5,g6⟩:=g;exact PS.weak (ps_raise hc tk (Ear.afD PySem.F.excBase_ValueError g3 g1 g4 (raises_own g5 g6) hg hd)) λD σ H ⟨g,Z,M,I,z⟩=>z σ H g (.ref C) none Gr.refl I ⟨C,g2,rfl,.inl ⟨rfl,rfl⟩⟩
theorem lA.gr{K:arO}{g g':Gh}{H H':Hp}{q:Bool}(r:Gr q g g' H H')(k:Kd g H){fs:List (Str×V)}{gs:List (Str×Dat)}(h:lA K g H fs gs):lA K g' H' fs gs:=by
 induction h with
 |nil=>exact .nil
 |cons z _ ih=>exact .cons (z.gr r k) ih
theorem lA.snoc{K:arO}{g:Gh}{H:Hp}{f:Str}{v:V}{d:Dat}(z:Rep K g H v d){fs:List (Str×V)}{gs:List (Str×Dat)}(h:lA K g H fs gs):lA K g H (fs++[(f,v)]) (gs++[(f,d)]):=by
 induction h with
 |nil=>exact .cons z .nil
 |cons y _ ih=>exact .cons y ih
theorem adF{K:arO}{g:Gh}{H:Hp}:∀{fs:List Str} {vs:List V} {ds:List Dat},aM K g H vs ds->lA K g H (fs.zip vs).reverse (fs.zip ds).reverse
 |[],_,_,_=>.nil
 |_::_,_,_,.nil=>.nil
 |f::fs,_,_,.cons z t=>by
  rw[as6,as6,as8,as8];exact(adF t).snoc z
theorem adD{e:Expr}{es:List Expr}{fs:List Str}{as:QA}(hc:X.calm=true)(tk:Takes X W)(hr:Room k X.A)(hg:Gl X x)(hd:(x==("__debug__" : Str))=false)(g:bf X.prog X.w X.K X.mg X.base aj k x (.exi fs))(ha:DQ aj X W (e::es) as)
  (hs:(e::es).all nst=true) (hn:∀M Z ds,as M Z=.ok ds->ds.length=fs.length) (hz:fs.length<=1000):SE aj X W q (.Raise (some (.Call (.Name x p) (e::es) [] p1)) none pos) (BZ x fs as):=by
 obtain⟨C,fI,fd,ps,g1,g2,g3,g4,g5,hk,hp,hB,F⟩:=g;have hs':=hs;rw[asC,arP]at hs';refine PS.weak (ps_raise hc tk (pmk_oex g3 g4 g5 F (hr.mono hk) hB .nil pass0 hg g1 ha hd (cJ hs'.1 es) (star_any es hs'.2))) λD σ H ⟨g,Z,M,I,z⟩=>?_;refine⟨g,Z,M,I,?_⟩;unfold BZ at z;cases has:as M Z with
 |exc y=>rw[has]at z;exact λH' c dd e r=>z σ H' g c dd (Gr.ex e) (I.ex e) r.fr
 |bad=>rw[has]at z;exact atn z
 |ok ds=>
  rw[has]at z;intro vs H1 e1 r1;have hl:vs.length=fs.length:=by rw[r1.length,hn M Z ds has]
  refine⟨by omega,λa na=>⟨a,vs++[],rfl,by simpa using hl,upd_same,λdx H' nd kp dm ha' hd'=>?_⟩⟩;have ne:dx≠a:=λz=>by
   subst z;rw[upd_same]at nd;cases nd
  rw[upd_ne ne]at nd;refine⟨rfl,dx,_,ha',hd',nd,?_⟩;have kp':∀b o,H1 b=some o->(upd (del H' a) dx (.xd (fs.zip (vs++[])).reverse)) b=some o:=λb o hb=>by
   have nb:b≠a:=λz=>by subst z;rw[na]at hb;cases hb
   have nd':b≠dx:=λz=>by subst z;rw[nd]at hb;cases hb
   rw[upd_ne nd',del_ne nb];exact kp b o nb (by rw[upd_ne nb];exact hb)
  have ex:Ex H1 (upd (del H' a) dx (.xd (fs.zip (vs++[])).reverse)):=λb o hb=>kp' b o hb;have I1:=I.ex e1;refine z σ _ g (.ref C) (some dx) (Gr.ex (e1.trans ex)) (I1.ex ex) ⟨C,g2,rfl,.inr ⟨dx,_,rfl,upd_same,?_⟩⟩;rw[asR];have:=(adF (fs:=fs) r1).gr (Gr.ex (q:=true) ex) I1.kd;rw[asR]at this;exact lA.less (g:=g) (g':=g.fr) rfl (wC g) this
end
section
variable{P:Program}{w:World}{K:arO}{mg:Str->Option Value}{base:Heap}{C f:Addr}{fd:FuncData}{qual:Str}{st:Stmt}
theorem vis_par{N ps:List Str}{sc:Scope}(S:FnScope N ps sc){y:Str}(h:y∈ps):Vis sc y:=(S.par y h).elim (λz=>.inl z) λz=>.inr (.inl z)
theorem adx{s a1 a2 a3 f1 f2 f3:Str}{p1 p2 p3 p4 p5 p6 p7 p8 p9 p10 p11 p12:Pos}(F:L2.Fun K "__init__" qual st f fd)(S:FnScope [s,a1,a2,a3] [s,a1,a2,a3] (defScope st))(T:OexC K C)
  (hb:defBody st=[.Assign [.Attribute (.Name s p1) f1 p2] (.Name a1 p3) p4,.Assign [.Attribute (.Name s p5) f2 p6] (.Name a2 p7) p8,.Assign [.Attribute (.Name s p9) f3 p10] (.Name a3 p11) p12])
  (dz:∀y∈[s,a1,a2,a3],(y==("__debug__" : Str))=false/\(y==("__classdict__" : Str))=false) (n1:PySem.W.findIn K (.ref C) f1=some none) (n2:PySem.W.findIn K (.ref C) f2=some none) (n3:PySem.W.findIn K (.ref C) f3=some none) :
  FnOk P w K mg base CX0 1 f fd [s,a1,a2,a3] (afs C [f1,f2,f3]):=by
 refine F.ok S (λvs H Q E h=>?_) (λcdv A outer s0 H vs Q E hr h=>?_)
 ·obtain⟨a,xs,rfl,hl,_⟩:=h;simp[hl]
 ·obtain⟨a,xs,rfl,hl,ha,q⟩:=h
  match xs,hl with
  |[x,y,z],_=>
  rw[hb];have v0:=vis_par S (y:=s) (by simp);have v1:=vis_par S (y:=a1) (by simp);have v2:=vis_par S (y:=a2) (by simp);have v3:=vis_par S (y:=a3) (by simp);obtain⟨c0,k0⟩:=dz s (by simp);obtain⟨c1,k1⟩:=dz a1 (by simp);obtain⟨c2,k2⟩:=dz a2 (by simp);obtain⟨c3,k3⟩:=dz a3 (by simp);refine⟨_,pss_cons (ps_ost (pe_var (i:=0) rfl v0 c0 k0) (pe_var (i:=1) rfl v1 c1 k1)) (pss_cons (ps_ost (pe_var (i:=0) rfl v0 c0 k0) (pe_var (i:=2) rfl v2 c2 k2)) (pss_one (ps_ost (pe_var (i:=0) rfl v0 c0 k0) (pe_var (i:=3) rfl v3 c3 k3)))),?_⟩;refine⟨_,rfl,_,rfl,a,C,rfl,T,n1,.inl ⟨ha,λdx nd ne=>?_⟩⟩;refine⟨_,rfl,_,rfl,a,C,rfl,T,n2,.inr ⟨dx,[(f1,x)],upd_same,(by rw[upd_ne ne];exact upd_same),(show 1<=900 by decide),?_⟩⟩;refine⟨_,rfl,_,rfl,a,C,rfl,T,n3,.inr ⟨dx,_,(by rw[upd_ne ne.symm];exact upd_same),upd_same,(show 2<=900 by decide),?_⟩⟩;refine q dx _ nd (λb o hb hB=>?_) (λb hB=>?_) (by rw[upd_ne ne.symm,upd_ne ne.symm];exact upd_same) upd_same
  ·have hbd:b≠dx:=ne_of_none hB nd;rw[upd_ne hbd,upd_ne hbd,upd_ne hb,upd_ne hbd];exact hB
  ·by_cases e:b=dx
   ·rw[e];exact nd
   ·by_cases e2:b=a
    ·subst e2;rw[upd_ne e,upd_ne e,upd_same]at hB;cases hB
    ·rw[upd_ne e,upd_ne e,upd_ne e2,upd_ne e]at hB;exact hB
end
structure Cl where
 c:Value
 nm:Option Nat
 ts:Addr->Value->Option Addr->TS
def aoe(D:Ends)(i:Nat):Ends:={ nx:=λτ G=>D.nx (τ.set i none) G,rt:=D.rt,bk:=λτ G=>D.bk (τ.set i none) G,ct:=λτ G=>D.ct (τ.set i none) G }
def Zm(K:arO)(Wo:WX)(D:Ends):List Cl->WX
 |[]=>Wo
 |l::r=>λcls d τ G=>∃b,PySem.W.exmOne K cls l.c=some b/\(b=true->∀a,G a=none->(match l.nm with
   |none=>l.ts a cls d D τ G
   |some i=>l.ts a cls d (aoe D i) (τ.set i (some (.ref a))) G))/\(b=false->Zm K Wo D r cls d τ G)
inductive BP(X:Cx):List ExceptHandler->List Cl->Prop
 |nil:BP X [] []
 |one {x:Str} {l:Cl} {s0:Stmt} {su:List Stmt} {np cp:Pos} {hds:List ExceptHandler} {ls:List Cl} (hc:Names X x l.c) (hn:l.nm=none)
   (hsu:∀(a:Addr) (oe:Obj) (cls:Value) (d:Option Addr) (pn:List (Addr×Obj)),Zc cls d oe->(∃vs,oe.data=.fields vs)->PSs (X.suite a ((a,oe)::pn)) (s0::su) (l.ts a cls d)) (r:BP X hds ls) :
   BP X (.ExceptHandler (some (.Name x np)) none (s0::su) cp::hds) (l::ls)
 |as {x n:Str} {i:Nat} {l:Cl} {s0:Stmt} {su:List Stmt} {np cp:Pos} {hds:List ExceptHandler} {ls:List Cl} (hc:Names X x l.c) (hn:l.nm=some i) (hi:X.N[i]?=some n) (hl:X.env.kindOf n=some .local)
   (hsu:∀(a:Addr) (oe:Obj) (cls:Value) (d:Option Addr) (pn:List (Addr×Obj)),Zc cls d oe->(∃vs,oe.data=.fields vs)->PSs (X.suite a ((a,oe)::pn)) (s0::su) (l.ts a cls d)) (r:BP X hds ls) :
   BP X (.ExceptHandler (some (.Name x np)) (some n) (s0::su) cp::hds) (l::ls)
section
variable{X:Cx}{body:List Stmt}{h0:ExceptHandler}{hds:List ExceptHandler}{ls:List Cl}{pos:Pos}{tb:WX->TS}{Wo:WX}
theorem aiL(hs:X.stack=X.env::X.outer)(hf:X.env.frame=some X.env.locals)(hN:X.N.Nodup)(tk:Takes X Wo)
  (hb:∀(W:WX) (pn:List (Addr×Obj)) (xe:Value->Shared->Prop),Takes (X.tr pn xe) W->PassesOwn (model X.prog X.w) X.A X.env xe->PSs (X.tr pn xe) body (tb W))
  (hh:BP X (h0::hds) ls):PS X (.Try body (h0::hds) [] [] pos) (λD σ H=>tb (Zm X.K Wo D ls) D σ H):=by
 constructor;intro pins s σ H D I h;have ok:=I.ok;have frm:X.A.frames=some (X.env::X.outer):=by rw[ok.frames,hs]
 have run:=(hb (Zm X.K Wo D ls) (X.pn++pins) (λe t₁=>wpAny (model X.prog X.w) X.A (noteFrame e X.env) (λ_ t₂=>wpAny (model X.prog X.w) X.A (setFlight e none) (λ_ t₃=>wpAny (model X.prog X.w) X.A (handleBy e X.env (h0::hds)) (SP X pins D) X.xe t₃) X.xe t₂) X.xe t₁) (λu t xx=>by
  obtain⟨a,B,sI,pins2,τ,G,cls,d,rfl,J2,nb,up,sky,na,os,ag,w⟩:=xx;have J:Inv X pins τ G sI:=J2.ofTry ok;have sky2:Sky B (X.env::X.outer) a (Zc cls d) X.env.locals t.heap:=by rw[←hs];exact sky
  show wpAny (model X.prog X.w) X.A (noteFrame (.ref a) X.env) _ _ _;refine Sky.land Zc.steady frm hf sky2 ?_;intro h3 fl3 up3;have J3:Inv X pins τ G { t with heap:=h3 }:=J.landed nb fl3.1 (up.trans up3) os ag;obtain⟨oe3,vs3,he3,hz3,hd3⟩:=fl3.there;have notF:a∉frs (X.env::X.outer):=λhm=>by
   obtain⟨_,o,eo,hnf⟩:=Heap.FunFrames.mem fl3.2.2.1 hm;rw[he3]at eo;cases eo;exact hnf _ hd3
  have nL:a≠X.env.locals:=λz=>notF (List.mem_filterMap.mpr ⟨X.env,arU,(by rw[hf,z])⟩);have nF:a∉X.fs:=λhm=>by
   obtain⟨e,he,q⟩:=List.mem_filterMap.mp hm;exact notF (List.mem_filterMap.mpr ⟨e,arS _ he,q⟩)
  have S3:=J3.suite he3 hd3 na nL nF;have look:PySem.W.Looks (model X.prog X.w) h3 (typeOf (.ref a)) cls:=λA Q E s k q=>wpAny_typeOf_ref (k _ _ he3) (by rw[hz3.1];exact q);have named:∀{x:Str} {c:Value} {np:Pos} {Q:Value->Shared->Prop} {E:Value->Shared->Prop},Names X x c->Q c { t with heap:=h3 }->wpAny (model X.prog X.w) (X.A.mark (some (.ref a))) (eval (.Name x np) X.env) Q E { t with heap:=h3 }:=by
   intro x c np Q E hc q;obtain⟨hg,hdb,hm⟩:=hc;rcases hm with hm|⟨hm,hv,hnn⟩
   ·exact ld_glob (X:=X.suite a ((a,oe3)::(X.pn++pins))) S3 hg hm q hdb
   ·exact ld_blt (X:=X.suite a ((a,oe3)::(X.pn++pins))) S3 hg hm hv q hnn hdb
  have all:∀{hds2:List ExceptHandler} {ls2:List Cl},BP X hds2 ls2->Zm X.K Wo D ls2 cls d τ G->wpAny (model X.prog X.w) X.A (handleBy (.ref a) X.env hds2) (SP X pins D) X.xe { t with heap:=h3 }:=by
   intro hds2 ls2 hk
   induction hk with
   |nil=>
    intro w;refine wpAny_handleBy_nil ?_;obtain⟨k1,k2,k3,oe,vs,T,oT,ts2,he,hz,hd,h1,hr⟩:=id fl3;unfold PySem.passOn;refine wpAny_bind (wpAny_field he hd h1 ?_);have nT:¬((Value.ref T==Value.none)=true):=by simp
    rw[if_neg nT];have fin:wpAny (model X.prog X.w) X.A (setFlight (.ref a) X.env.frame) (λ_ s4=>wpAny (model X.prog X.w) X.A (throw (.ref a):Sem Flow) (SP X pins D) X.xe s4) X.xe { t with heap:=h3 }:=by rw[hf];refine HandSPX.setFlight_upZ fl3 ?_;intro h4 hh4 up4;refine wpAny_throw (tk _ _ ?_);exact⟨a,B,sI,pins,τ,G,cls,d,rfl,J,nb,(up.trans up3).trans up4,.inr (.inr (by rw[hs];exact hh4)),na,os,ag,w⟩
    first
     |exact wpAny_bind (wpAny_pure (wpAny_bind fin))
     |exact wpAny_bind fin
   | @one x l s0 su np cp hds3 ls3 hc hn hsu r ih=>
    intro w;obtain⟨b,hb1,yes,no⟩:=w;rw[hn]at yes;have LM:=PySem.W.exm_one (M:=model X.prog X.w) J3.kIn look hb1;refine wpAny_handleBy_cons (codeAny_handlers_test ?_) (by intro q;cases q);refine named hc (LM.here ?_);cases b with
    |false=>exact ih (no rfl)
    |true=>
     refine codeAny_handlers_suite ?_;refine HandSPX.lands_againZ fl3 ?_;intro h4 fl4 up4;have J4:Inv X pins τ G { t with heap:=h4 }:=J.landed nb fl4.1 ((up.trans up3).trans up4) os ag;obtain⟨oe4,vs4,he4,hz4,hd4⟩:=fl4.there;have S4:=J4.suite he4 hd4 na nL nF;refine wpAny_mono ((hsu a oe4 cls d (X.pn++pins) hz4 ⟨_,hd4⟩).run [] _ _ G _ S4 (yes rfl a na)) ?_ (λ_ _ z=>atn z);intro f s6 sp6;cases f with
     |ret u=>
      obtain⟨v6,τ6,G6,S6,r6,q6⟩:=sp6;exact⟨_,_,_,S6.unsuite ok,r6,q6⟩
     |next=>
      obtain⟨τ6,G6,S6,q6⟩:=sp6;exact⟨_,_,S6.unsuite ok,q6⟩
     |brk=>
      obtain⟨τ6,G6,S6,q6⟩:=sp6;exact⟨_,_,S6.unsuite ok,q6⟩
     |cont=>
      obtain⟨τ6,G6,S6,q6⟩:=sp6;exact⟨_,_,S6.unsuite ok,q6⟩
   | @as x n i l s0 su np cp hds3 ls3 hc hn hi hl hsu r ih=>
    intro w;obtain⟨b,hb1,yes,no⟩:=w;rw[hn]at yes;have LM:=PySem.W.exm_one (M:=model X.prog X.w) J3.kIn look hb1;refine wpAny_handleBy_cons (codeAny_handlers_test ?_) (by intro q;cases q);refine named hc (LM.here ?_);cases b with
    |false=>exact ih (no rfl)
    |true=>
     refine codeAny_handlers_suite_as ?_;refine HandSPX.lands_againZ fl3 ?_;intro h4 fl4 up4;have J4:Inv X pins τ G { t with heap:=h4 }:=J.landed nb fl4.1 ((up.trans up3).trans up4) os ag;obtain⟨oe4,vs4,he4,hz4,hd4⟩:=fl4.there;have S4:=J4.suite he4 hd4 na nL nF;refine store_ok (X:=X.suite a ((a,oe4)::(X.pn++pins))) (v:=.ref a) S4 hN hi (.inl hl) rfl ?_ (.inr hl);intro s5 S5;refine wpAny_mono ((hsu a oe4 cls d (X.pn++pins) hz4 ⟨_,hd4⟩).run [] s5 _ G _ S5 (yes rfl a na)) ?_ (λ_ _ z=>atn z);intro f s6 sp6;have bye:∀{τ6:L2.St} {G6:Hp} {Q:Shared->Prop},Inv (X.suite a ((a,oe4)::(X.pn++pins))) [] τ6 G6 s6->(∀s7,Inv X pins (τ6.set i none) G6 s7->Q s7)->
       wpAny (model X.prog X.w) X.A (do bindName X.env n .none;unbindBehindTheSuite X.env n cp) (λ_ s7=>Q s7) X.xe s6:=λS6 hq=>gone_ok (S6.unsuite ok) hN hi hl hq
     cases f with
     |ret u=>
      obtain⟨v6,τ6,G6,S6,r6,q6⟩:=sp6;exact bye S6 λs7 J7=>⟨_,_,_,J7,r6,q6⟩
     |next=>
      obtain⟨τ6,G6,S6,q6⟩:=sp6;exact bye S6 λs7 J7=>⟨_,_,J7,q6⟩
     |brk=>
      obtain⟨τ6,G6,S6,q6⟩:=sp6;exact bye S6 λs7 J7=>⟨_,_,J7,q6⟩
     |cont=>
      obtain⟨τ6,G6,S6,q6⟩:=sp6;exact bye S6 λs7 J7=>⟨_,_,J7,q6⟩
  exact all hh w) PassesOwn.looking).run [] s σ H D (I.toTry _) h
 refine wpAny_Try_except (wpAny_mono run ?_ (λ_ _ z=>z));intro f s1 sp1;cases f with
 |ret u=>
  obtain⟨v,τ,G,J2,r,q⟩:=sp1;exact⟨v,τ,G,J2.ofTry ok,r,q⟩
 |next=>
  obtain⟨τ,G,J2,q⟩:=sp1;exact wpAny_execs_nil ⟨τ,G,J2.ofTry ok,q⟩
 |brk=>
  obtain⟨τ,G,J2,q⟩:=sp1;exact⟨τ,G,J2.ofTry ok,q⟩
 |cont=>
  obtain⟨τ,G,J2,q⟩:=sp1;exact⟨τ,G,J2.ofTry ok,q⟩
end
inductive Eb where
 |con (d:Dat)|fld (f:Str)|flds (fs:List Str)
def Ys(y:Str)(x:dG)(f:Str):Option Dat:=match x.cls==y with
 |true=>(x.fs.lookup f).bind λd=>match lf d with
  |true=>some d
  |false=>none
 |false=>none
def RW(y:Str)(x:dG):List Str->Option (List Dat)
 |[]=>some []
 |f::fs=>(Ys y x f).bind λd=>(RW y x fs).bind λds=>some (d::ds)
def YB(y:Str)(x:dG):Eb->Option Dat
 |.con d=>some d
 |.fld f=>Ys y x f
 |.flds fs=>(RW y x fs).bind λds=>some (.tuple ds)
def Fg(y:Str)(x:dG):List (Nat×Eb)->Env->Option Env
 |[],Z=>some Z
 |(j,e)::r,Z=>(YB y x e).bind λd=>Fg y x r (Z.set j (some (.dat d)))
structure Hd where
 y:Str
 tk:Str->Option Bool
 nm:Option Nat
 st:List (Nat×Eb)
def Vl(Z:Env):Option Nat->Env
 |none=>Z
 |some i=>Z.set i none
def acQ(Z:Env):Option Nat->Bool
 |none=>true
 |some i=>decide (i < Z.length)
def hdl:List Hd->dG->Env->Mo->tK
 |[],x,Z,M=>.exc x Z M
 |h::r,x,Z,M=>match h.tk x.cls with
  |some true=>match acQ Z h.nm with
   |true=>match Fg h.y x h.st (Vl Z h.nm) with
    |some Z2=>.next (Vl Z2 h.nm) M
    |none=>.bad
   |false=>.bad
  |some false=>hdl r x Z M
  |none=>.bad
def U4(f:SF)(hs:List Hd):SF:=λM Z=>match f M Z with
 |.exc x Z' M'=>hdl hs x Z' M'
 |o=>o
structure XIn(K:arO)(aj:aR)(σ:L2.St)(H:Hp)(g:Gh)(Z:Env)(M:Mo)(x:dG)(a:Addr)(cls:Value)(d:Option Addr)(i:Option Nat):Prop where
 inv:SInv K aj σ H g Z M
 xr:qH K aj g.fr H x cls d
 sl:∀j,i=some j->σ[j]?=some (some (.ref a))
section
variable(K:arO)(aj:aR)(a:Addr)(cls:Value)(d:Option Addr)(i:Option Nat)
def tU(f:dG->Option Dat):TE:=λσ H Q=>∃g Z M x z,XIn K aj σ H g Z M x a cls d i/\f x=some z/\∀v H',Ex H H'->Rep K g H' v z->Q v H'
def tUA(f:dG->Option (List Dat)):TA:=λσ H Q=>∃g Z M x z,XIn K aj σ H g Z M x a cls d i/\f x=some z/\∀v H',Ex H H'->aM K g H' v z->Q v H'
def tSu(y:Str)(st:List (Nat×Eb)):TS:=λD σ H=>∃g Z M x Z2,XIn K aj σ H g Z M x a cls d i/\Fg y x st Z=some Z2/\(∀p∈st,i≠some p.1)/\∀σ' H',Ex H H'->SInv K aj σ' H' g Z2 M->D.nx σ' H'
end
section
variable{K:arO}{aj:aR}{a:Addr}{cls:Value}{d:Option Addr}{i:Option Nat}{σ:L2.St}{H H':Hp}{g:Gh}{Z:Env}{M:Mo}{x:dG}
theorem lA.ex{fs:List (Str×V)}{gs:List (Str×Dat)}(e:Ex H H')(k:Kd g H)(h:lA K g H fs gs):lA K g H' fs gs:=h.gr (Gr.ex (q:=true) e) k
theorem qH.ex{c:Value}{dd:Option Addr}(e:Ex H H')(k:Kd g H)(h:qH K aj g H x c dd):qH K aj g H' x c dd:=by obtain⟨C,h1,h2,h3⟩:=h;exact⟨C,h1,h2,h3.imp id λ⟨b,fs,e1,e2,e3⟩=>⟨b,fs,e1,e _ _ e2,e3.ex e k⟩⟩
theorem XIn.ex(e:Ex H H')(h:XIn K aj σ H g Z M x a cls d i):XIn K aj σ H' g Z M x a cls d i:=⟨h.inv.ex e,h.xr.ex e h.inv.kd.fr,h.sl⟩
theorem lA.get{f:Str}{z:Dat}{fs:List (Str×V)}{gs:List (Str×Dat)}(h:lA K g H fs gs)(e:gs.lookup f=some z):∃v,fs.lookup f=some v/\Rep K g H v z:=by
 induction h with
 |nil=>cases e
 | @cons f' v d' _ _ r _ ih=>
  rw[asp]at e;rw[asp];cases hb:f==f' with
  |true=>
   rw[hb]at e;cases e;exact⟨v,rfl,r⟩
  |false=>
   rw[hb]at e;exact ih e
end
section
variable{X:Cx}{aj:aR}{a C:Addr}{oe:Obj}{cls:Value}{d:Option Addr}{pn:List (Addr×Obj)}{y n:Str}{pos p:Pos}{j:Nat}
theorem adi{e:Expr}{z:Dat}{i:Option Nat}{t:TE}(h:PE (X.suite a ((a,oe)::pn)) e t)(ht:∀σ H Q,tU X.K aj a cls d i (λ_=>some z) σ H Q->t σ H Q):PE (X.suite a ((a,oe)::pn)) e (tU X.K aj a cls d i λ_=>some z):=PE.weak h ht
theorem adY{f:Str}(hC:aj y=some C)(T:XfC X.K C)(hno:PySem.W.findIn X.K (.ref C) f=some none)(hz:Zc cls d oe)(hf:∃vs,oe.data=.fields vs)(hN:X.N[j]?=some n)(hv:Vis X.env.scope n)(hd:(n==("__debug__" : Str))=false)(hcd:(n==("__classdict__" : Str))=false) :
  PE (X.suite a ((a,oe)::pn)) (.Attribute (.Name n p) f pos) (tU X.K aj a cls d (some j) λx=>Ys y x f):=by
 refine PE.weak (pe_xf T hno hz hf (pe_var (i:=j) (X:=X.suite a ((a,oe)::pn)) hN hv hd hcd)) λσ H Q ⟨g,Z,M,x,z,I,e,k⟩=>?_;have e:Ys y x f=some z:=e;unfold Ys at e;split at e
 ·next ey=>
  obtain⟨z',l,e⟩:=arN.mp e;split at e
  ·next hl=>
   cases e;obtain⟨C',c1,c2,c3⟩:=I.xr;rw[eq_of_beq ey,hC]at c1;cases c1;rcases c3 with⟨c3,_⟩|⟨b,fs,c3,c4,c5⟩
   ·rw[c3]at l;cases l
   ·obtain⟨v,l1,l2⟩:=c5.get l;exact⟨.ref a,I.sl j rfl,rfl,c2,b,fs,v,c3,c4,l1,k v H (Ex.refl H) (Rep.free (g:=g.fr) (g':=g) rfl hl l2)⟩
  ·cases e
 ·cases e
theorem adz{i:Option Nat}:PA (X.suite a ((a,oe)::pn)) [] (tUA X.K aj a cls d i λ_=>some []):=PA.weak pa_nil λσ H Q ⟨g,Z,M,x,z,I,e,k⟩=>by
 cases e;exact k [] H (Ex.refl H) .nil
theorem ahX{e:Expr}{es:List Expr}{i:Option Nat}{f:dG->Option Dat}{fr:dG->Option (List Dat)}(h:PE (X.suite a ((a,oe)::pn)) e (tU X.K aj a cls d i f))(hr:PA (X.suite a ((a,oe)::pn)) es (tUA X.K aj a cls d i fr))(hs:nst e=true) :
  PA (X.suite a ((a,oe)::pn)) (e::es) (tUA X.K aj a cls d i λx=>(f x).bind λz=>(fr x).bind λzs=>some (z::zs)):=by
 refine PA.weak (pa_cons h hr (cJ hs es)) λσ H Q ⟨g,Z,M,x,z,I,e,k⟩=>?_;obtain⟨z1,e1,e⟩:=arN.mp e;obtain⟨z2,e2,e⟩:=arN.mp e;cases e;exact⟨g,Z,M,x,z1,I,e1,λv H1 x1 r1=>⟨g,Z,M,x,z2,I.ex x1,e2,λvs H2 x2 r2=>k (v::vs) H2 (x1.trans x2) (.cons (r1.ex x2 (I.ex x1).inv.kd) r2)⟩⟩
theorem adC{es:List Expr}{kk:Nat}{i:Option Nat}{fr:dG->Option (List Dat)}(hr:PA (X.suite a ((a,oe)::pn)) es (tUA X.K aj a cls d i fr))(hn:∀x zs,fr x=some zs->zs.length<=100000):PE (X.suite a ((a,oe)::pn)) (.Tuple es kk pos) (tU X.K aj a cls d i λx=>(fr x).bind λzs=>some (.tuple zs)):=by refine PE.weak (pe_tup hr) λσ H Q ⟨g,Z,M,x,z,I,e,k⟩=>?_;obtain⟨zs,e1,e⟩:=arN.mp e;cases e;refine⟨g,Z,M,x,zs,I,e1,λvs H1 x1 r1=>⟨sz_of (by rw[r1.length];exact hn x zs e1),λp np=>?_⟩⟩;exact k (.ref p) _ (x1.trans (Ex.new np)) (.tup (st_of upd_same) (r1.ex (Ex.new np) (I.ex x1).inv.kd))
theorem WY{x:dG}:∀{fs:List Str} {zs:List Dat},RW y x fs=some zs->zs.length=fs.length
 |[],zs,h=>by cases h;rfl
 |f::fs,zs,h=>by
  rw[RW]at h;obtain⟨z1,e1,h⟩:=arN.mp h;obtain⟨z2,e2,h⟩:=arN.mp h;cases h;simp[WY e2]
theorem ala{i:Option Nat}{se:Eb}{st:List (Nat×Eb)}{D D':Ends}{σ:L2.St}{H:Hp}(h:tSu X.K aj a cls d i y ((j,se)::st) D σ H)(nx:∀σ' H',tSu X.K aj a cls d i y st D σ' H'->D'.nx σ' H') :
  tAsg (tU X.K aj a cls d i λx=>YB y x se) (gName j) D' σ H:=by
 obtain⟨g,Z,M,x,Z2,I,e,nj,k⟩:=h;rw[Fg]at e;obtain⟨z,e1,e⟩:=arN.mp e;refine⟨g,Z,M,x,z,I,e1,λv H' x1 r1=>nx _ _ ⟨g,Z.set j (some (.dat z)),M,x,Z2,⟨(I.ex x1).inv.set r1,(I.ex x1).xr,λjj hj=>?_⟩,e,λp hp=>nj p (arS _ hp),λσ' H2 x2 I2=>k σ' H2 (x1.trans x2) I2⟩⟩;have ne:j≠jj:=λz=>nj (j,se) arU (by rw[hj,z]);rw[arX ne];exact I.sl jj hj
theorem aj2{i:Option Nat}{D:Ends}{σ:L2.St}{H:Hp}(h:tSu X.K aj a cls d i y [] D σ H):D.nx σ H:=by obtain⟨g,Z,M,x,Z2,I,e,nj,k⟩:=h;cases e;exact k σ H (Ex.refl H) I.inv
end
def anp(K:arO)(aj:aR)(h:Hd)(l:Cl):Prop:=(∃D,aj h.y=some D/\l.c=.ref D)/\acD K aj h.y h.tk/\l.nm=h.nm/\(l.ts=λa cls d=>tSu K aj a cls d h.nm h.y h.st)/\∀p∈h.st,h.nm≠some p.1
inductive HY(K:arO)(aj:aR):List Hd->List Cl->Prop
 |nil:HY K aj [] []
 |cons {h:Hd} {l:Cl} {hs:List Hd} {ls:List Cl} (o:anp K aj h l) (r:HY K aj hs ls):HY K aj (h::hs) (l::ls)
theorem SInv.off{K:arO}{aj:aR}{σ:L2.St}{H:Hp}{g:Gh}{Z:Env}{M:Mo}(I:SInv K aj σ H g Z M)(i:Nat)(v:Option V):SInv K aj (σ.set i v) H g (Z.set i none) M:=by
 have I2:=I.forget (j:=i);refine⟨I2.kd,I2.wok,by rw[aso,aso];exact I.len,λj d h=>?_,λj xs h=>?_,λj k xs ys l ne h1 h2 h3=>?_⟩
 ·by_cases e:j=i
  ·subst e;rw[asZ]at h;split at h<;>first | (split at h<;>cases h) | (exact absurd rfl ‹¬_›)
  ·obtain⟨v',a1,a2⟩:=I2.dat j d h;rw[arX (Ne.symm e)]at a1;exact⟨v',by rw[arX (Ne.symm e)];exact a1,a2⟩
 ·by_cases e:j=i
  ·subst e;rw[asZ]at h;split at h<;>first | (split at h<;>cases h) | (exact absurd rfl ‹¬_›)
  ·obtain⟨l,us,a1,a2⟩:=I2.own j xs h;rw[arX (Ne.symm e)]at a1;exact⟨l,us,by rw[arX (Ne.symm e)];exact a1,a2⟩
 ·have n1:j≠i:=λz=>by
   subst z;rw[asZ]at h1;split at h1<;>first | (split at h1<;>cases h1) | (exact absurd rfl ‹¬_›)
  have n2:k≠i:=λz=>by
   subst z;rw[asZ]at h2;split at h2<;>first | (split at h2<;>cases h2) | (exact absurd rfl ‹¬_›)
  rw[arX (Ne.symm n1)]at h1 h3;rw[arX (Ne.symm n2)]at h2 ⊢;exact I.sep j k xs ys l ne h1 h2 h3
section
variable{X:Cx}{aj:aR}{W:WX}{q:Bool}{body:List Stmt}{h0:ExceptHandler}{hds:List ExceptHandler}{hs:List Hd}{ls:List Cl}{pos:Pos}{f:SF}
theorem alw{D:Ends}{g g':Gh}{H H':Hp}{σ':L2.St}{Z':Env}{M':Mo}{x:dG}{c:Value}{dd:Option Addr}(ha:HY X.K aj hs ls)(r:Gr q g g' H H')(I:SInv X.K aj σ' H' g' Z' M')(xr:qH X.K aj g'.fr H' x c dd)
  (z:(hdl hs x Z' M').sat (sN X.K aj q D.nx g H) (sR X.K aj q D.rt g H) (sN X.K aj q D.bk g H) (sN X.K aj q D.ct g H) (sX X.K aj W q g H)):Zm X.K W D ls c dd σ' H':=by
 induction ha with
 |nil=>exact z σ' H' g' c dd r I xr
 | @cons h l hs ls o _ ih=>
  obtain⟨⟨D0,o1,o2⟩,o3,o4,o5,o6⟩:=o;rw[hdl]at z;obtain⟨C,c1,c2,c3⟩:=id xr;split at z
  ·next ht=>
   refine⟨true,by rw[c2,o2];exact o3 _ _ _ ht c1 _ o1,λ_ a na=>?_,λy=>nomatch y⟩;rw[o4,o5];split at z
   ·next hm=>
    split at z
    ·next Z2 hr=>
     cases hnm:h.nm with
     |none=>
      rw[hnm]at hr z o6;exact⟨g',Z',M',x,Z2,⟨I,xr,λj hj=>nomatch hj⟩,hr,o6,λσ2 H2 e2 I2=>z σ2 H2 g' (r.trans (Gr.ex e2)) I2⟩
     |some i=>
      rw[hnm]at hr z o6 hm;refine⟨g',Z'.set i none,M',x,Z2,⟨I.off i _,xr,λj hj=>?_⟩,hr,o6,λσ2 H2 e2 I2=>z _ H2 g' (r.trans (Gr.ex e2)) (I2.off i none)⟩;cases hj;have hl:i < Z'.length:=atp hm;rw[ar8 (by rw[I.len];exact hl)]
    ·exact atn z
   ·exact atn z
  ·next ht=>exact⟨false,by rw[c2,o2];exact o3 _ _ _ ht c1 _ o1,(λy=>nomatch y),λ_=>ih z⟩
  ·exact atn z
theorem aj7(st:X.stack=X.env::X.outer)(hf:X.env.frame=some X.env.locals)(hN:X.N.Nodup)(tk:Takes X W)
  (hb:∀(W':WX) (pn:List (Addr×Obj)) (xe:Value->Shared->Prop),Takes (X.tr pn xe) W'->PassesOwn (model X.prog X.w) X.A X.env xe->JN aj (X.tr pn xe) W' q body f)
  (hh:BP X (h0::hds) ls) (ha:HY X.K aj hs ls):SE aj X W q (.Try body (h0::hds) [] [] pos) (U4 f hs):=by
 refine PS.weak (aiL (tb:=λW'=>tS X.K aj W' q f) st hf hN tk (λW' pn xe t p=>hb W' pn xe t p) hh) λD σ H ⟨g,Z,M,I,z⟩=>?_;refine⟨g,Z,M,I,?_⟩;unfold U4 at z;cases hfm:f M Z with
 |next Z' M'=>rw[hfm]at z;exact z
 |ret d M'=>rw[hfm]at z;exact z
 |brk Z' M'=>rw[hfm]at z;exact z
 |cont Z' M'=>rw[hfm]at z;exact z
 |bad=>rw[hfm]at z;exact z
 |exc x Z' M'=>
  rw[hfm]at z;exact λσ' H' g' c dd r I' xr=>alw ha r I' xr z
end
section
variable{K:arO}{aj:aR}{W:WX}{g g':Gh}{H H':Hp}{σ:L2.St}{Z:Env}{M:Mo}
theorem jy.grow{l:Addr}(r:Gr false g g' H H')(e:Ex H H')(k:Kd g H):∀{n:Bool} {kvs:List (Dat×Dat)},jy K aj g H l n kvs->jy K aj g' H' l n kvs
 |false,_,⟨kv,h1,h2,h3⟩=>⟨kv,e _ _ h1,h2,h3.gr r k⟩
 |true,_,⟨o,xs,vs,h1,h2,h3,h4,h5,h6⟩=>⟨o,xs,vs,e _ _ h1,h2,h3,h4.gr r k,h5,h6.gr r k⟩
theorem dU.grow{h:Nat}{f:Str}{v:V}(r:Gr false g g' H H')(e:Ex H H')(o:g'.ow=g.ow)(k:Kd g H):∀{fl:jc},dU K aj g H h f v fl->dU K aj g' H' h f v fl
 |.dat _,z=>Rep.gr r k z
 |.lst _ _,⟨l,us,h1,h2,h3,h4,h5⟩=>⟨l,us,h1,e _ _ h2,by rw[o];exact h3,h4.gr r k,r.tb h5⟩
 |.dic _ _,⟨l,h1,h2,h3⟩=>⟨l,h1,by rw[o];exact h2,h3.grow r e k⟩
theorem cM.grow{h:Nat}(r:Gr false g g' H H')(e:Ex H H')(o:g'.ow=g.ow)(k:Kd g H){fs:List (Str×V)}{gs:List (Str×jc)}(t:cM K aj g H h fs gs):cM K aj g' H' h fs gs:=by
 induction t with
 |nil=>exact .nil
 |cons z _ ih=>exact .cons (z.grow r e o k) ih
def Gh.push(g:Gh)(x:Addr):Gh:={ g with tbl:=g.tbl++[x] }
theorem Yo{x a:Addr}(z:(g.push x).A a):g.A a∨a=x:=by
 rcases z with(z|z)|z|z
 ·rcases ar0.mp z with z|z
  ·exact .inl (.inl (.inl z))
  ·exact .inr (arV.mp z)
 ·exact .inl (.inl (.inr z))
 ·exact .inl (.inr (.inl z))
 ·exact .inl (.inr (.inr z))
theorem Ye{x a:Addr}(z:(g.push x).W a):g.W a∨a=x:=by
 rcases z with z|z
 ·rcases ar0.mp z with z|z
  ·exact .inl (.inl z)
  ·exact .inr (arV.mp z)
 ·exact .inl (.inr z)
theorem U0{x:Addr}(e:Ex H H')(nx:H x=none):Gr false g (g.push x) H H' where
 keep:=λa o h _ _=>e a o h
 keepW:=λz=>nomatch z
 dom:=Ds e
 tbl:=⟨[x],rfl⟩
 W:=λa z=>z.elim (λz=>.inl (asy _ z)) .inr
 nW:=λa z=>(Ye z).imp id λz=>by rw[z];exact nx
 qg:=λz=>nomatch z
 Lc:=rfl
 Lo:=λ_ z=>z
 nLo:=λ_ z=>.inl z
theorem abq{x:Addr}{o:HO}(k:Kd g H)(e:Ex H H')(nx:H x=none)(hx:H' x=some o)(m:Ir o):Kd (g.push x) H' where
 ob:=λa z=>by
  rcases Yo z with z|rfl
  ·obtain⟨u,h1,h2⟩:=k.ob a z;exact⟨u,e _ _ h1,h2⟩
  ·exact⟨o,hx,m⟩
 lo:=λa z y=>by
  rcases Ye y with y|rfl
  ·exact k.lo a z y
  ·obtain⟨u,h1,_⟩:=k.ob a (.inr (.inr z));rw[nx]at h1;cases h1
 lc:=λa z=>by
  refine⟨λy=>?_,(k.lc a z).2⟩;rcases Ye y with y|rfl
  ·exact(k.lc a z).1 y
  ·obtain⟨u,h1,_⟩:=k.ob a (.inr (.inl z));rw[nx]at h1;cases h1
theorem YW{x:Addr}{c:Str}(k:Kd g H)(w:fZ K aj g H M)(e:Ex H H')(nx:H x=none)(hx:c=""∨∃C dx,aj c=some C/\H' x=some (.ins C dx [])):fZ K aj (g.push x) H' (M++[⟨c,[]⟩]):=by
 have gt:∀{h:Nat} {a:Addr},(g.push x).tbl[h]?=some a->(g.tbl[h]?=some a)∨(h=M.length/\a=x):=λ{h a} z=>by
  have z:(g.tbl++[x])[h]?=some a:=z;by_cases hl:h < g.tbl.length
  ·rw[ar3 hl]at z;exact .inl z
  ·rw[asf (by omega)]at z;have:=(arQ.mp z).1;simp at this;have e0:h - g.tbl.length=0:=by omega
   rw[e0]at z;cases z;exact .inr ⟨by rw[←w.len];omega,rfl⟩
 have nin:∀{h:Nat},¬g.tbl[h]?=some x:=λ{h} z=>by
  obtain⟨u,h1,_⟩:=k.ob x (.inl (.inl (arW z)));rw[nx]at h1;cases h1
 have ex:∀{h:Nat} {i:Inst},(M++[(⟨c,[]⟩:Inst)])[h]?=some i->M[h]?=some i∨i=⟨c,[]⟩:=λ{h i} h1=>by
  by_cases hl:h < M.length
  ·rw[ar3 hl]at h1;exact .inl h1
  ·rw[asf (by omega)]at h1;exact .inr (arV.mp (arW h1))
 refine⟨by show(g.tbl++[x]).length=_;simp[w.len],λh j a h1 h2=>?_,λh a i h1 h2 hcn=>?_,λh i h1=>?_,λh i h1=>?_,λh a i h1 h2 hcn=>?_,λh i h1 hcn=>?_,w.nc⟩
 ·rcases gt h1 with z1|⟨z1,rfl⟩
  ·rcases gt h2 with z2|⟨z2,rfl⟩
   ·exact w.inj h j a z1 z2
   ·exact absurd z1 nin
  ·rcases gt h2 with z2|⟨z2,_⟩
   ·exact absurd z2 nin
   ·omega
 ·rcases gt h1 with z1|⟨rfl,rfl⟩
  ·have hl:h < M.length:=by rw[←w.len];exact(arQ.mp z1).1
   rw[ar3 hl]at h2;obtain⟨C',dx',fs,c1,c2,c3⟩:=w.ins h a i z1 h2 hcn;exact⟨C',dx',fs,c1,e _ _ c2,c3.grow (U0 e nx) e rfl k⟩
  ·rw[asf (asn _),Nat.sub_self]at h2;cases h2;rcases hx with rfl|⟨C,dx,hc,hx⟩
   ·exact absurd rfl hcn
   ·exact⟨C,dx,[],hc,hx,.nil⟩
 ·rcases ex h1 with h1|rfl
  ·exact w.nd h i h1
  ·exact atg
 ·rcases ex h1 with h1|rfl
  ·exact w.fd h i h1
  ·exact λf hf=>absurd hf asz
 ·rcases gt h1 with z1|⟨_,rfl⟩
  ·have hl:h < M.length:=by rw[←w.len];exact(arQ.mp z1).1
   rw[ar3 hl]at h2;exact w.tw h a i z1 h2 hcn
  ·cases hz:g.ow a with
   |none=>exact hz
   |some p=>
    obtain⟨u,h2,_⟩:=k.ob a (.inl (.inr (by rw[hz];exact λy=>nomatch y)));rw[nx]at h2;cases h2
 ·rcases ex h1 with h1|rfl
  ·exact w.dm h i h1 hcn
  ·rfl
theorem SInv.grow{M':Mo}(r:Gr false g g' H H')(e:Ex H H')(lo:g'.Lo=g.Lo)(k':Kd g' H')(w':fZ K aj g' H' M')(I:SInv K aj σ H g Z M):SInv K aj σ H' g' Z M' where
 kd:=k'
 wok:=w'
 len:=I.len
 dat:=λi d h=>by
  obtain⟨v,h1,h2⟩:=I.dat i d h;exact⟨v,h1,h2.gr r I.kd⟩
 own:=λi xs h=>by
  obtain⟨l,us,h1,h2,h3,h4⟩:=I.own i xs h;exact⟨l,us,h1,e _ _ h2,by rw[lo];exact h3,h4.gr r I.kd⟩
 sep:=I.sep
end
theorem ach{P:Program}{w:World}{K:arO}{mg:Str->Option Value}{base:Heap}{k:Nat}{f:Addr}{fd:FuncData}{ps:List Str}{sp:Sp}(F:FnOk P w K mg base (L2.CX P w) k f fd ps sp):FnOk P w K mg base L2.CX0 k f fd ps λvs H Q _=>sp vs H Q λ_ _ _=>False:=
 ⟨λvs H Q E h=>F.len vs H Q _ h,λA outer s H args us vs Q E hr he hb hv h=>codeAny_mono (F.run A outer s H args us vs Q _ hr he hb hv h) λr s' z=>by
  unfold CR at z ⊢;split at z
  ·exact z
  ·exact z
  ·obtain⟨a,B,H',cls,d,_,_,_,_,_,_,_,y⟩:=z;exact atn y⟩
def Bh(x:Str)(m:Mo->List Dat->bx Dat)(as:QA):GF:=λM Z=>((as M Z).at M).bind λds _=>match m (M++[⟨x,[]⟩]) (obj M.length::ds) with
 |.ok .none M'=>.ok (obj M.length) M'
 |_=>.bad
section
variable{X:Cx}{aj:aR}{W:WX}{x:Str}{pos p:Pos}{k n:Nat}{m:Mo->List Dat->bx Dat}{as:QA}{t:TA}{e:Expr}{es:List Expr}
theorem aeO{C f:Addr}{fd:FuncData}{ps:List Str}(hc:aj x=some C)(hp:ps.length=n+1)(hn:∀M Z ds,as M Z=.ok ds->ds.length=n)(ht:∀σ H Q,Ov X.K aj W as σ H Q->t σ H Q)(σ:L2.St)(H:Hp)(Q:VK)(h:tE X.K aj W false (Bh x m as) σ H Q) :
  tMake C (λvs H Q _=>J9 X.K aj ps.length m vs H Q λ_ _ _=>False) [] (λ_ _ _=>False) t σ H Q:=by
 obtain⟨g,Z,M,I,h⟩:=h;unfold Bh at h;have h:=h.bnd;refine ht σ H _ ⟨g,Z,M,I,?_⟩;cases has:as M Z with
 |exc x=>rw[has]at h;exact λH' c dd e r=>h H' g c dd (Gr.ex e) (I.ex e) r
 |bad=>rw[has]at h;exact atn h
 |ok ds=>
  rw[has]at h;intro vs H1 e1 r1 y dx ny ndx ne;have I1:=I.ex e1;have e2:Ex H1 (upd (upd H1 dx (.own y)) y (.ins C dx [])):=by refine(Ex.new ndx).trans (Ex.new ?_);rw[upd_ne ne.symm];exact ny
  have hy:upd (upd H1 dx (.own y)) y (.ins C dx []) y=some (.ins C dx []):=upd_same;have gr:=U0 (g:=g) e2 ny;have kd:=abq I1.kd e2 ny hy trivial;have wk:=YW (c:=x) I1.kd I1.wok e2 ny (.inr ⟨C,dx,hc,hy⟩);have I2:=I1.grow gr e2 rfl kd wk;have hb:(g.push y).tbl[M.length]?=some y:=by
   show(g.tbl++[y])[M.length]?=_
   rw[←I1.wok.len,asf (asn _),Nat.sub_self];rfl
  refine⟨by rw[asR,ar6,r1.length,hn M Z ds has,hp],g.push y,M++[⟨x,[]⟩],obj M.length::ds,kd,wk,.cons (.obj hb) (by rw[asR];exact r1.gr gr I1.kd),?_⟩;have h:bx.sat (match m (M++[(⟨x,[]⟩:Inst)]) (obj M.length::ds) with
   |.ok .none M'=>bx.ok (obj M.length) M'
   |_=>.bad) (λd M'=>∀v H' g',Gr false g g' H H'->SInv X.K aj σ H' g' Z M'->Rep X.K g' H' v d->Q v H') (gE X.K aj W false g H σ Z):=h
  cases hm:m (M++[⟨x,[]⟩]) (obj M.length::ds) with
  |bad=>rw[hm]at h;exact atn h
  |exc z M'=>rw[hm]at h;exact atn h
  |ok d M'=>
   rw[hm]at h;cases d with
   |none=>exact λv H' g' c k' w' r'=>⟨by cases r';rfl,h (.ref y) H' g' (((Gr.ex e1).trans gr).trans c.gr) (I2.call c k' w') (.obj (c.gr.tb hb))⟩
   |_=>exact atn h
theorem ald(hr:Room k X.A)(g:bf X.prog X.w X.K X.mg X.base aj k x (.cls n m))(hg:Gl X x)(hd:(x==("__debug__" : Str))=false)(ha:DQ aj X W (e::es) as)(hs:(e::es).all nst=true)(hn:∀M Z ds,as M Z=.ok ds->ds.length=n) :
  GE aj X W false (.Call (.Name x p) (e::es) [] pos) (Bh x m as):=by
 obtain⟨C,f,fd,ps,j,g1,g2,_,g3,hj,hp,hB,F⟩:=g;have hs':=hs;rw[asC,arP]at hs';exact PE.weak (pe_make (E:=λ_ _ _=>False) g3 (ach F) (hr.mono hj) hg g1 hB .nil pass0 ha hd (cJ hs'.1 es) (star_any es hs'.2)) λσ H Q h=>aeO (f:=f) (fd:=fd) g2 hp hn (λ_ _ _ z=>z) σ H Q h
theorem aha(hr:Room k X.A)(g:bf X.prog X.w X.K X.mg X.base aj k x (.cls 0 m))(hg:Gl X x)(hd:(x==("__debug__" : Str))=false):GE aj X W false (.Call (.Name x p) [] [] pos) (Bh x m au):=by obtain⟨C,f,fd,ps,j,g1,g2,_,g3,hj,hp,hB,F⟩:=g;exact PE.weak (pe_make0 (E:=λ_ _ _=>False) g3 (ach F) (hr.mono hj) hg g1 hB .nil pass0 hd) λσ H Q h=>aeO (f:=f) (fd:=fd) (as:=au) g2 hp (λM Z ds z=>by cases z;rfl) (λσ H Q ⟨g,Z,M,I,z⟩=>z [] H (Ex.refl H) .nil) σ H Q h
end
def Ec(m:Mo->List Dat->bx Dat)(as:QA):GF:=λM Z=>((as M Z).at M).bind λds _=>m M ds
section
variable{X:Cx}{aj:aR}{W:WX}{e:Expr}{es:List Expr}{pos p:Pos}{x:Str}{k:Nat}{f:Addr}{fd:FuncData}{ps:List Str}
theorem aiJ{m:Mo->List Dat->bx Dat}{as:QA}(tk:Takes X W)(F:FnOk X.prog X.w X.K X.mg X.base (L2.CX X.prog X.w) k f fd ps (J9 X.K aj ps.length m))(hr:Room k X.A)(hg:Gl X x)(hm:X.mg x=some (.ref f))(hk:PySem.W.keepIn X.K (.ref f)=true)(hb:Binds X.K fd ps [])
  (ha:DQ aj X W (e::es) as) (hl:(e::es).length=ps.length) (hd:(x==("__debug__" : Str))=false) (hs:(e::es).all nst=true) (hn:∀M Z ds,as M Z=.ok ds->ds.length=(e::es).length):GE aj X W false (.Call (.Name x p) (e::es) [] pos) (Ec m as):=by
 have hs':=hs;rw[asC,arP]at hs';refine PE.weak (pe_callS (E:=λσ=>WE W σ) F hr hg hm hk hb (λσ=>passAt tk σ) ha hd (cJ hs'.1 es) (star_any es hs'.2)) λσ H Q ⟨g,Z,M,I,h⟩=>?_;refine⟨g,Z,M,I,?_⟩;have h:=h.bnd;cases has:as M Z with
 |exc x=>rw[has]at h;exact λH' c dd e r=>h H' g c dd (Gr.ex e) (I.ex e) r
 |bad=>rw[has]at h;exact atn h
 |ok ds=>
  rw[has]at h;have h:(m M ds).sat (λd M'=>∀v H' g',Gr false g g' H H'->SInv X.K aj σ H' g' Z M'->Rep X.K g' H' v d->Q v H') (gE X.K aj W false g H σ Z):=h;intro vs H1 e1 r1;exact⟨by rw[r1.length,hn M Z ds has];exact hl,g,M,ds,I.kd.ex e1,I.wok.ex e1 I.kd,r1,h.mono (λd M' kk v H' g' c k' w' r'=>kk v H' g' ((Gr.ex e1).trans c.gr) ((I.ex e1).call c k' w') r') λx M' kk H' g' cc dd c k' w' r'=>kk H' g' cc dd ((Gr.ex e1).trans c.gr) ((I.ex e1).call c k' w') r'⟩
end
def Ft.has(ft:Ft)(c f:Str):Bool:=match ft.lookup c with
 |some fs=>fs.contains f
 |none=>false
def Ly(ft:Ft)(aj:aR):Prop:=∀c f,ft.has c f=true->f∈aj.fl c
def unH:Dat->Option Nat
 |.dict [(.none,.int (.ofNat h))]=>some h
 |_=>none
theorem agv{d:Dat}{h:Nat}(e:unH d=some h):d=obj h:=by
 unfold unH at e;split at e
 ·cases e;rfl
 ·cases e
def j6(M:Mo)(d:Dat):Option (Nat×Inst):=(unH d).bind λh=>(M[h]?).bind λi=>match i.cls=="" with
 |true=>none
 |false=>some (h,i)
theorem Ie{M:Mo}{d:Dat}{h:Nat}{i:Inst}(e:j6 M d=some (h,i)):d=obj h/\M[h]?=some i/\i.cls≠"":=by
 unfold j6 at e;obtain⟨h',e1,e⟩:=arN.mp e;obtain⟨i',e2,e⟩:=arN.mp e;split at e
 ·cases e
 ·next hc=>
  cases e;exact⟨agv e1,e2,λz=>by rw[z]at hc;cases hc⟩
def uQ(ft:Ft)(o:QF)(f:Str)(e:GF):SF:=λM Z=>(e M Z).then Z λd M1=>((o M1 Z).at M1).then Z λod M2=>match j6 M2 od with
 |some (h,i)=>match ft.has i.cls f&&decide (i.fs.length < 100) with
  |true=>.next Z (M2.set h (i.put f (.dat d)))
  |false=>.bad
 |none=>.bad
theorem SInv.chg{K:arO}{aj:aR}{σ:L2.St}{H H':Hp}{g g':Gh}{Z:Env}{M M':Mo}{h:Nat}{f:Str}(I:SInv K aj σ H g Z M)(c:Chg M g g' H H' h f)(w:fZ K aj g' H' M'):SInv K aj σ H' g' Z M':=I.call c.gc c.kd w
section
variable{X:Cx}{aj:aR}{W:WX}{o e:Expr}{f:Str}{pos pos':Pos}{ft:Ft}{fo:QF}
theorem Gx{K:arO}{g:Gh}{H:Hp}{M:Mo}{d:Dat}{v:V}{h:Nat}{i:Inst}(co:jm K aj)(fk:Ly ft aj)(w:fZ K aj g H M)(r:dX K g H v d)(hi:j6 M d=some (h,i))(hf:ft.has i.cls f=true):∃a C dx fs,d=obj h/\M[h]?=some i/\i.cls≠""/\g.tbl[h]?=some a/\v=.ref a/\aj i.cls=some C/\H a=some (.ins C dx fs)/\cM K aj g H h fs i.fs/\Cls K C/\NoAttr K C f/\f∈aj.fl i.cls:=by obtain⟨rfl,h1,h2⟩:=Ie hi;obtain⟨a,rfl,ha⟩:=Ls r;obtain⟨C,dx,fs,c1,c2,c3⟩:=w.ins h a i ha h1 h2;have hfl:=fk _ _ hf;obtain⟨k1,k2⟩:=co i.cls C f c1 hfl;exact⟨a,C,dx,fs,rfl,h1,h2,ha,rfl,c1,c2,c3,k1,k2,hfl⟩
theorem ahH{fe:GF}(co:jm X.K aj)(fk:Ly ft aj)(ho:QW aj X W o fo)(he:GE aj X W false e fe)(hs:swapsWith e (some (.Attribute o f pos')) pos.line X.env=pure false):SE aj X W false (.Assign [.Attribute o f pos'] e pos) (uQ ft fo f fe):=by
 refine PS.weak (ps_fld ho he hs) λD σ H ⟨g,Z,M,I,z⟩=>?_;refine tE.go I (dw (σ:=σ) z) λd M1 v H1 g1 k1 r1 I1 rv=>?_;refine tW.go I1 (k:=λod=>((match j6 M1 od with
  |some (h,i)=>match ft.has i.cls f&&decide (i.fs.length < 100) with
   |true=>tK.next Z (M1.set h (i.put f (.dat d)))
   |false=>.bad
  |none=>.bad).sat (sN X.K aj false D.nx g H) (sR X.K aj false D.rt g H) (sN X.K aj false D.bk g H) (sN X.K aj false D.ct g H) (sX X.K aj W false g H))) ?_ λod u H2 k2 e2 ru=>?_
 ·have k1:=Out.iV (dw (σ:=σ) k1);exact k1.mono (λ_ y=>y) λx y H' c dd ex rx=>y H' g1 c dd (r1.trans (Gr.ex ex)) (I1.ex ex) rx
 ·have I2:=I1.ex e2;split at k2
  ·next h i hi=>
   split at k2
   ·next hb=>
    rw[arP]at hb;obtain⟨a,C,dx,fs,_,m1,m2,ha,rfl,c1,c2,c3,c4,c5,c6⟩:=Gx co fk I2.wok ru hi hb.1;refine⟨a,C,dx,fs,rfl,c2,c4,c5,?_,?_⟩
    ·have:=atp hb.2;rw[c3.len];omega
    ·have ch:=U5 (f:=f) (C:=C) (dx:=dx) (fs':=putF f v fs) I2.kd I2.wok ha m1 m2;have w':=I2.wok.chg I2.kd ch ha m1 m2 c6 c1 c3 upd_same (fl:=.dat d) (show Rep X.K g1 _ v d from(rv.ex e2 I1.kd).gr ch.gc.gr I2.kd);exact k2 σ _ g1 ((r1.trans (Gr.ex e2)).trans ch.gc.gr) (I2.chg ch w')
   ·exact atn k2
  ·exact atn k2
end
mutual
theorem Rep.mv{K:arO}{g g':Gh}{H:Hp}(tb:∀(h:Nat) (a:Addr),g.tbl[h]?=some a->g'.tbl[h]?=some a)(n:∀a,g'.A a->g.A a):∀{v:V} {d:Dat},Rep K g H v d->Rep K g' H v d
 |_,_,.non=>.non
 |_,_,.bl b=>.bl b
 |_,_,.int i=>.int i
 |_,_,.str x=>.str x
 |_,_,.tup h t=>.tup h (aM.mv tb n t)
 |_,_,.lst h t=>.lst (h.elim (λz=>.inl ⟨z.1,λy=>z.2 (n _ y)⟩) .inr) (aM.mv tb n t)
 |_,_,.obj h=>.obj (tb _ _ h)
theorem aM.mv{K:arO}{g g':Gh}{H:Hp}(tb:∀(h:Nat) (a:Addr),g.tbl[h]?=some a->g'.tbl[h]?=some a)(n:∀a,g'.A a->g.A a):∀{vs:List V} {ds:List Dat},aM K g H vs ds->aM K g' H vs ds
 |_,_,.nil=>.nil
 |_,_,.cons h t=>.cons (Rep.mv tb n h) (aM.mv tb n t)
end
def DG(ft:Ft)(o:QF)(f:Str)(e:IF):SF:=λM Z=>((e M Z).at M).then Z λxs M0=>((o (M0++[⟨"",[]⟩]) Z).at (M0++[⟨"",[]⟩])).then Z λod M2=>match j6 M2 od with
 |some (h,i)=>match ft.has i.cls f&&decide (i.fs.length < 100) with
  |true=>.next Z (M2.set h (i.put f (.lst M0.length xs)))
  |false=>.bad
 |none=>.bad
theorem Mv{K:arO}{aj:aR}{σ:L2.St}{H H':Hp}{g:Gh}{Z:Env}{M:Mo}{l:Addr}{o:HO}(I:SInv K aj σ H g Z M)(nl:H l=none)(e:Ex H H')(hl:H' l=some o)(m:Ir o):Gr false g (g.push l) H H'/\SInv K aj σ H' (g.push l) Z (M++[⟨"",[]⟩])/\(g.push l).tbl[M.length]?=some l/\(g.push l).ow l=none/\(M++[(⟨"",[]⟩:Inst)])[M.length]?=some ⟨"",[]⟩:=by
 have gr:=U0 (g:=g) e nl;have kd:=abq I.kd e nl hl m;have wk:=YW (c:="") I.kd I.wok e nl (.inl rfl)
 refine⟨gr,I.grow gr e rfl kd wk,?_,?_,?_⟩
 ·show(g.tbl++[l])[M.length]?=_
  rw[←I.wok.len,asf (asn _),Nat.sub_self];rfl
 ·cases hz:g.ow l with
  |none=>exact hz
  |some p=>
   obtain⟨u,h1,_⟩:=I.kd.ob l (.inl (.inr (by rw[hz];exact λy=>nomatch y)));rw[nl]at h1;cases h1
 ·rw[asf (asn _),Nat.sub_self];rfl
section
variable{X:Cx}{aj:aR}{W:WX}{o e:Expr}{f:Str}{pos pos' p1 apos epos spos:Pos}{ft:Ft}{fo:QF}
theorem ahD{fe:IF}(co:jm X.K aj)(fk:Ly ft aj)(ho:QW aj X W o fo)(he:FE aj X W e fe)(hs:swapsWith e (some (.Attribute o f pos')) pos.line X.env=pure false):SE aj X W false (.Assign [.Attribute o f pos'] e pos) (DG ft fo f fe):=by
 refine PS.weak (ps_fld ho he hs) λD σ H ⟨g,Z,M,I,z⟩=>?_;refine⟨g,Z,M,I,?_⟩;unfold DG at z;cases hf:fe M Z with
 |exc x=>rw[hf]at z;exact λH' c dd e r=>z σ H' g c dd (Gr.ex e) (I.ex e) r.fr
 |bad=>rw[hf]at z;exact atn z
 |ok xs=>
  rw[hf]at z;intro l us H1 nl e1 hl rs;obtain⟨gr,I1,tb,ow,mm⟩:=Mv I nl e1 hl trivial;have rs1:aM X.K (g.push l) H1 us xs:=aM.mv (g:=g.add l) (g':=g.push l) (λh a z=>gr.tb (g:=g) z) (λa z=>by
   rcases Yo z with z|rfl
   ·rcases z with z|z|z
    ·exact .inl z
    ·exact .inr (.inl z)
    ·exact .inr (.inr (show g.Lo a∨a=l from Or.inl z))
   ·exact .inr (.inr (show g.Lo a∨a=a from Or.inr rfl))) rs
  have z:(((fo (M++[⟨"",[]⟩]) Z).at (M++[⟨"",[]⟩])).then Z λod M2=>match j6 M2 od with
   |some (h,i)=>match ft.has i.cls f&&decide (i.fs.length < 100) with
    |true=>.next Z (M2.set h (i.put f (.lst M.length xs)))
    |false=>.bad
   |none=>.bad).sat (sN X.K aj false D.nx g H) (sR X.K aj false D.rt g H) (sN X.K aj false D.bk g H) (sN X.K aj false D.ct g H) (sX X.K aj W false g H):=z
  have k1:=Out.iV (dw (σ:=σ) z);refine tW.go I1 (k1.mono (λ_ y=>y) λx y H' c dd ex rx=>y H' _ c dd (gr.trans (Gr.ex ex)) (I1.ex ex) rx) λod u H2 k2 e2 ru=>?_;have I2:=I1.ex e2;split at k2
  ·next h i hi=>
   split at k2
   ·next hb=>
    rw[arP]at hb;obtain⟨a,C,dx,fs,_,m1,m2,ha,rfl,c1,c2,c3,c4,c5,c6⟩:=Gx co fk I2.wok ru hi hb.1;have nla:l≠a:=λz=>by
     subst z;cases I2.wok.inj _ _ _ ha tb;rw[mm]at m1;cases m1;exact m2 rfl
    refine⟨a,C,dx,fs,rfl,c2,c4,c5,?_,?_⟩
    ·have:=atp hb.2;rw[c3.len];omega
    ·have ch:=Vu (f:=f) (C:=C) (dx:=dx) (fs':=putF f (.ref l) fs) I2.kd I2.wok ha m1 m2 tb mm ow;have w':=I2.wok.chg I2.kd ch ha m1 m2 c6 c1 c3 upd_same (v:=.ref l) (fl:=.lst M.length xs) ⟨l,us,rfl,by rw[upd_ne nla];exact e2 _ _ hl,if_pos rfl,(rs1.ex e2 I1.kd).gr ch.gc.gr I2.kd,ch.gc.gr.tb tb⟩;exact k2 σ _ _ ((gr.trans (Gr.ex e2)).trans ch.gc.gr) (I2.chg ch w')
   ·exact atn k2
  ·exact atn k2
def FJ(M:Mo)(f:Str)(d:Dat):Option (Nat×Inst×Nat×List Dat):=(j6 M d).bind λp=>match p.2.fs.lookup f with
 |some (.lst n xs)=>some (p.1,p.2,n,xs)
 |_=>none
theorem U3{K:arO}{g:Gh}{H:Hp}{M:Mo}{d:Dat}{v:V}{h n:Nat}{i:Inst}{xs:List Dat}(co:jm K aj)(w:fZ K aj g H M)(r:dX K g H v d)(hi:FJ M f d=some (h,i,n,xs)) :
  ∃a C dx fs l us,d=obj h/\M[h]?=some i/\i.cls≠""/\i.fs.lookup f=some (.lst n xs)/\g.tbl[h]?=some a/\v=.ref a/\aj i.cls=some C/\H a=some (.ins C dx fs)/\cM K aj g H h fs i.fs/\Cls K C/\NoAttr K C f/\f∈aj.fl i.cls/\fs.lookup f=some (.ref l)/\H l=some (.lst us)/\g.ow l=some (h,f)/\aM K g H us xs/\g.tbl[n]?=some l:=by
 unfold FJ at hi;obtain⟨⟨h',i'⟩,h1,hi⟩:=arN.mp hi;split at hi
 ·next n' xs' hl=>
  cases hi;obtain⟨rfl,m1,m2⟩:=Ie h1;obtain⟨a,rfl,ha⟩:=Ls r;obtain⟨C,dx,fs,c1,c2,c3⟩:=w.ins _ a _ ha m1 m2;have hfl:=w.fd _ _ m1 f (lookup_mem hl);obtain⟨k1,k2⟩:=co _ C f c1 hfl;obtain⟨u,l1,l,us,rfl,l3,l4,l5,l6⟩:=c3.get hl;exact⟨a,C,dx,fs,l,us,rfl,m1,m2,hl,ha,rfl,c1,c2,c3,k1,k2,hfl,l1,l3,l4,l5,l6⟩
 ·cases hi
theorem abK{K:arO}{σ:L2.St}{Z:Env}{g:Gh}{H:Hp}{M:Mo}{h n:Nat}{i:Inst}{ys:List Dat}{a C dx l:Addr}{fs:List (Str×V)}{us':List V}(I:SInv K aj σ H g Z M)(m1:M[h]?=some i)(m2:i.cls≠"")(ha:g.tbl[h]?=some a)(c1:aj i.cls=some C)(c2:H a=some (.ins C dx fs))(c3:cM K aj g H h fs i.fs)(hfl:f∈aj.fl i.cls)(l1:fs.lookup f=some (.ref l))(l4:g.ow l=some (h,f))(l6:g.tbl[n]?=some l)(rs:aM K g H us' ys) :
  Gr false g g H (upd H l (.lst us'))/\SInv K aj σ (upd H l (.lst us')) g Z (M.set h (i.put f (.lst n ys))):=by
 have ch:=aer (o':=.lst us') I.kd I.wok l4 trivial;have nla:a≠l:=λz=>by
  subst z;rw[I.wok.tw h a i ha m1 m2]at l4;cases l4
 have w':=I.wok.chg I.kd ch ha m1 m2 hfl c1 (dx:=dx) c3 (v:=.ref l) (fl:=.lst n ys) (by rw[upd_ne nla,KN l1];exact c2) ⟨l,us',rfl,upd_same,l4,rs.gr ch.gc.gr I.kd,l6⟩;exact⟨ch.gc.gr,I.chg ch w'⟩
def DR(f:Str)(o:QF)(e:GF):SF:=λM Z=>((o M Z).at M).then Z λod M0=>match FJ M0 f od with
 |some (_,_,n,_)=>(e M0 Z).then Z λd M1=>match FJ M1 f od with
  |some (h,i,n',xs)=>match n==n'&&decide (xs.length < 100000) with
   |true=>.next Z (M1.set h (i.put f (.lst n (xs++[d]))))
   |false=>.bad
  |none=>.bad
 |none=>.bad
theorem aiy{fe:GF}(co:jm X.K aj)(ho:QW aj X W o fo)(hb:baseOk o=true)(he:GE aj X W false e fe)(hs:nst e=true)(hl:(apos.endLine==pos.line)=true) :
  SE aj X W false (.Expr (.Call (.Attribute (.Attribute o f p1) "append" apos) [e] [] pos) epos) (DR f fo fe):=by
 have h0:=pe_fld (X:=X) (pos:=p1) (f:=f) ho (mW hb);have h1:=pa_cons he pa_nil (cJ hs []);have key:=pe_bm (X:=X) (cpos:=pos) (apos:=apos) PySem.F.plainAttrs_list PySem.F.slot_list_append PySem.F.type_list_append mt_append h0 h1 (mW rfl) (few (by simp[hs]) (by simp)) hl (cJ hs []) (by with_unfolding_all rfl);refine PS.weak (ps_expr key (by with_unfolding_all rfl)) λD σ H ⟨g,Z,M,I,z⟩=>?_;unfold DR at z;have k1:=Out.iV (dw (σ:=σ) z);refine tW.go I (k1.mono (λ_ y=>y) λx y H' c dd ex rx=>y H' _ c dd (Gr.ex ex) (I.ex ex) rx) λod u H1 k2 e1 ru=>?_;have I1:=I.ex e1;split at k2
 ·next h0' i0 n xs0 hi=>
  obtain⟨a,C,dx,fs,l,us,rfl,m1,m2,ml,ha,rfl,c1,c2,c3,c4,c5,c6,l1,l3,l4,l5,l6⟩:=U3 co I1.wok ru hi;refine⟨a,C,dx,fs,.ref l,rfl,c2,c4,c5,l1,.inl ⟨rfl,us,sq_of l3⟩,?_⟩;refine tE.go I1 ((dw (σ:=σ) k2).mono (λ_ _ y=>y) λx M' y=>y.gr (Gr.ex e1)) λd M1 v H2 g2 k3 r2 I2 rv=>?_;split at k3
  ·next h i n' xs hi2=>
   split at k3
   ·next hg=>
    rw[arP]at hg;cases eq_of_beq hg.1;have ru2:dX X.K g2 H2 (.ref a) (obj h0'):=Rep.weak (.obj (r2.tb ha));obtain⟨a',C',dx',fs',l',us',eh,n1,n2,nl,hb',ea,d1,d2,d3,d4,d5,d6,p1,p3,p4,p5,p6⟩:=U3 co I2.wok ru2 hi2;cases ea;have el:l'=l:=ase (p6.symm.trans (r2.tb l6));subst el;obtain⟨gr,I3⟩:=abK (us':=us'++[v]) (ys:=xs++[d]) I2 n1 n2 hb' d1 d2 d3 d6 p1 p4 p6 (p5.append (.cons rv .nil));refine⟨l',us',v,rfl,rfl,p3,sz_lt (by rw[p5.length];exact atp hg.2),?_⟩;exact k3 σ _ g2 (((Gr.ex e1).trans r2).trans gr) I3
   ·exact atn k3
  ·exact atn k3
 ·exact atn k2
def Tf(f:Str)(o fi e:QF):SF:=λM Z=>((e M Z).at M).then Z λd _=>((o M Z).at M).then Z λod _=>match FJ M f od with
 |some (h,i,n,xs)=>((fi M Z).at M).then Z λk _=>match k with
  |.int k=>match ixN xs.length k with
   |some j=>.next Z (M.set h (i.put f (.lst n (xs.set j d))))
   |none=>.bad
  |_=>.bad
 |none=>.bad
theorem ahs{i:Expr}{fi fe:QF}(co:jm X.K aj)(ho:QW aj X W o fo)(hb:baseOk o=true)(he:QE aj X W e fe)(hi:QE aj X W i fi)
  (ha:∀v,assign (.Subscript (.Attribute o f p1) i spos) X.env v=(do
   let ov ←holding [v] (eval (.Attribute o f p1) X.env)
   let iv ←holding [v,ov] (eval i X.env)
   standAt spos
   holding [v,ov,iv] (setItem ov iv v)
   release [v,ov,iv] []))
  (hs:swapsWithSole [.Subscript (.Attribute o f p1) i spos] e pos.line X.env=pure false) (h1:(assignEach [.Subscript (.Attribute o f p1) i spos] X.env).map (·.2)=[assign (.Subscript (.Attribute o f p1) i spos) X.env]):SE aj X W false (.Assign [.Subscript (.Attribute o f p1) i spos] e pos) (Tf f fo fi fe):=by
 have h0:=pe_fld (X:=X) (pos:=p1) (f:=f) ho (mW hb);refine PS.weak (ps_asg he (pg_sub h0 hi set_list ha) hs (by with_unfolding_all rfl) h1) λD σ H ⟨g,Z,M,I,z⟩=>?_;unfold Tf at z;have k1:=Out.iV (dw (σ:=σ) z);refine tQ.go I (k1.mono (λ_ y=>y) λx y H' c dd ex rx=>y H' _ c dd (Gr.ex ex) (I.ex ex) rx) λd v H1 k2 e1 rv=>?_;have I1:=I.ex e1;have k2:=Out.iV (dw (σ:=σ) k2);refine tW.go I1 (k2.mono (λ_ y=>y) λx y H' c dd ex rx=>y H' _ c dd ((Gr.ex e1).trans (Gr.ex ex)) (I1.ex ex) rx) λod u H2 k3 e2 ru=>?_;have I2:=I1.ex e2;have e12:=e1.trans e2;split at k3
 ·next h i' n xs hl=>
  obtain⟨a,C,dx,fs,l,us,rfl,m1,m2,ml,ha',rfl,c1,c2,c3,c4,c5,c6,l1,l3,l4,l5,l6⟩:=U3 co I2.wok ru hl;refine⟨a,C,dx,fs,.ref l,rfl,c2,c4,c5,l1,?_⟩;have k3:=Out.iV (dw (σ:=σ) k3);refine tQ.go I2 (k3.mono (λ_ y=>y) λx y H' c dd ex rx=>y H' _ c dd ((Gr.ex e12).trans (Gr.ex ex)) (I2.ex ex) rx) λk w H3 k4 e3 rw'=>?_;have I3:=I2.ex e3;cases k with
  |int k=>
   simp only at k4;split at k4
   ·next j hj=>
    cases rw';obtain⟨gr,I4⟩:=abK (us':=us.set j v) (ys:=xs.set j d) I3 m1 m2 ha' c1 (e3 _ _ c2) (c3.ex e3 I2.kd) c6 l1 l4 l6 (((l5.ex e3 I2.kd).set ((rv.ex e2 I1.kd).ex e3 I2.kd) j));refine⟨l,us,k,j,rfl,rfl,e3 _ _ l3,by rw[l5.length];exact hj,?_⟩;exact k4 σ _ g ((Gr.ex (e12.trans e3)).trans gr) I4
   ·exact atn k4
  |_=>exact atn k4
 ·exact atn k3
def SJ(ft:Ft)(f:Str)(o e:QF):SF:=λM Z=>((o M Z).at M).then Z λod _=>match j6 M od with
 |some (h,i)=>match i.fs.lookup f,ft.has i.cls f&&decide (i.fs.length < 100) with
  |some (.dat (.int a)),true=>((e M Z).at M).then Z λd _=>match d with
   |.int b=>.next Z (M.set h (i.put f (.dat (.int (a+b)))))
   |_=>.bad
  |_,_=>.bad
 |none=>.bad
theorem afi:InOp X .Add (λx y H Q=>∃i j,x=.int i/\y=.int j/\Q (.int (i+j)) H):=by intro pins s σ H x y u v Q I rx ry h;obtain⟨i,j,rfl,rfl,q⟩:=h;exact iop_add pins s σ H _ _ u v Q I rx ry ⟨i,j,rfl,rfl,q⟩
theorem ag9{fe:QF}{tpos:Pos}(co:jm X.K aj)(fk:Ly ft aj)(ho:QW aj X W o fo)(he:QE aj X W e fe):SE aj X W false (.AugAssign (.Attribute o f tpos) .Add e pos) (SJ ft f fo fe):=by
 refine PS.weak (ps_fldaug ho he afi) λD σ H ⟨g,Z,M,I,z⟩=>?_;unfold SJ at z;have k1:=Out.iV (dw (σ:=σ) z);refine tW.go I (k1.mono (λ_ y=>y) λx y H' c dd ex rx=>y H' _ c dd (Gr.ex ex) (I.ex ex) rx) λod u H1 k2 e1 ru=>?_;have I1:=I.ex e1;split at k2
 ·next h i hi=>
  split at k2
  ·next b hlk hb=>
   rw[arP]at hb;obtain⟨a,C,dx,fs,_,m1,m2,ha,rfl,c1,c2,c3,c4,c5,c6⟩:=Gx co fk I1.wok ru hi hb.1;obtain⟨v,l1,l2⟩:=c3.get hlk;refine⟨a,C,dx,fs,v,rfl,c2,c4,c5,l1,?_⟩;have k2:=Out.iV (dw (σ:=σ) k2);refine tQ.go I1 (k2.mono (λ_ y=>y) λx y H' c dd ex rx=>y H' _ c dd ((Gr.ex e1).trans (Gr.ex ex)) (I1.ex ex) rx) λd w H2 k3 e2 rd=>?_;have I2:=I1.ex e2;cases d with
   |int j=>
    cases rd;have l2:Rep X.K g H1 v (.int b):=l2;cases l2;refine⟨b,j,rfl,rfl,dx,fs,e2 _ _ c2,?_,?_⟩
    ·have:=atp hb.2;rw[c3.len];omega
    ·have ch:=U5 (f:=f) (C:=C) (dx:=dx) (fs':=putF f (.int (b+j)) fs) I2.kd I2.wok ha m1 m2;have w':=I2.wok.chg I2.kd ch ha m1 m2 c6 c1 (c3.ex e2 I1.kd) upd_same (v:=.int (b+j)) (fl:=.dat (.int (b+j))) (show Rep X.K g _ _ _ from .int _);exact k3 σ _ g ((Gr.ex (e1.trans e2)).trans ch.gc.gr) (I2.chg ch w')
   |_=>exact atn k3
  ·exact atn k2
 ·exact atn k2
end
mutual
def uh:Dat->Option NestedKey
 |.none=>some .none
 |.int i=>some (.num i)
 |.str x=>some (.text x)
 |.tuple ds=>(wO ds).map .tup
 |.bool _=>none
 |.list _=>none
 |.dict _=>none
def wO:List Dat->Option (List NestedKey)
 |[]=>some []
 |d::ds=>(uh d).bind λk=>(wO ds).bind λks=>some (k::ks)
end
mutual
theorem zX:∀{d:Dat} {k:NestedKey},uh d=some k->k.data=d
 |.none,_,h=>by cases h;rfl
 |.int i,_,h=>by cases h;rfl
 |.str x,_,h=>by cases h;rfl
 |.tuple ds,_,h=>by
  rw[uh,asx]at h;obtain⟨ks,h1,rfl⟩:=h;rw[NestedKey.data,QV h1]
theorem QV:∀{ds:List Dat} {ks:List NestedKey},wO ds=some ks->NestedKey.datas ks=ds
 |[],_,h=>by cases h;rfl
 |d::ds,_,h=>by
  rw[wO]at h;obtain⟨k,h1,h⟩:=arN.mp h;obtain⟨ks,h2,h⟩:=arN.mp h;cases h;rw[NestedKey.datas,zX h1,QV h2]
end
mutual
theorem abr:∀a b:NestedKey,PyData.eqv a.data b.data=NestedKey.beq a b
 |.none,.none=>by simp[NestedKey.data,PyData.eqv,NestedKey.beq]
 |.none,.num _=>by simp[NestedKey.data,PyData.eqv,NestedKey.beq]
 |.none,.text _=>by simp[NestedKey.data,PyData.eqv,NestedKey.beq]
 |.none,.tup _=>by simp[NestedKey.data,PyData.eqv,NestedKey.beq]
 |.num _,.none=>by simp[NestedKey.data,PyData.eqv,NestedKey.beq]
 |.num a,.num b=>by simp[NestedKey.data,PyData.eqv,NestedKey.beq];rfl
 |.num _,.text _=>by simp[NestedKey.data,PyData.eqv,NestedKey.beq]
 |.num _,.tup _=>by simp[NestedKey.data,PyData.eqv,NestedKey.beq]
 |.text _,.none=>by simp[NestedKey.data,PyData.eqv,NestedKey.beq]
 |.text _,.num _=>by simp[NestedKey.data,PyData.eqv,NestedKey.beq]
 |.text a,.text b=>by simp[NestedKey.data,PyData.eqv,NestedKey.beq];rfl
 |.text _,.tup _=>by simp[NestedKey.data,PyData.eqv,NestedKey.beq]
 |.tup _,.none=>by simp[NestedKey.data,PyData.eqv,NestedKey.beq]
 |.tup _,.num _=>by simp[NestedKey.data,PyData.eqv,NestedKey.beq]
 |.tup _,.text _=>by simp[NestedKey.data,PyData.eqv,NestedKey.beq]
 |.tup as,.tup bs=>by
  rw[NestedKey.data,NestedKey.data,PyData.eqv,NestedKey.beq];exact Y5 as bs
theorem Y5:∀as bs:List NestedKey,PyData.eqvAll (NestedKey.datas as) (NestedKey.datas bs)=NestedKey.beqAll as bs
 |[],[]=>by simp[NestedKey.datas,PyData.eqvAll,NestedKey.beqAll]
 |[],_::_=>by simp[NestedKey.datas,PyData.eqvAll,NestedKey.beqAll]
 |_::_,[]=>by simp[NestedKey.datas,PyData.eqvAll,NestedKey.beqAll]
 |a::as,b::bs=>by
  rw[NestedKey.datas,NestedKey.datas,PyData.eqvAll,NestedKey.beqAll,abr a b,Y5 as bs]
end
theorem aa0(a b:NestedKey):PyData.eqv a.data b.data=decide (a=b):=by rw[abr,NestedKey.decide_eq]
section
variable{X:Cx}{pins:List (Addr×Obj)}{σ:L2.St}{H:Hp}{s:Shared}{g:Gh}
mutual
theorem key_is(I:L2.Inv X pins σ H s):∀{v:V} {d:Dat} {k:NestedKey} {u:Value},Rep X.K g H v d->uh d=some k->RelV v u->NestedIs s.heap k u
 |_,_,_,u,.non,e,r=>by
  cases e
  obtain rfl:u=.none:=r
  exact .none
 |_,_,_,_,.int i,e,r=>by
  cases e;obtain⟨t,rfl⟩:=r;exact .int i t
 |_,_,_,_,.str x,e,r=>by
  cases e;obtain⟨t,rfl⟩:=r;exact .text x t
 |_,_,_,u,.tup (a:=a) h t,e,r=>by
  rw[uh,asx]at e;obtain⟨ks,h1,rfl⟩:=e
  obtain rfl:u=.ref a:=r
  obtain⟨its,r1,⟨o,e1,c1,n,d1⟩,_⟩:=I.tuple h;exact .tup e1 c1 d1 (by simpa using abx I t h1 r1)
 |_,_,_,_,.bl b,e,r=>by cases e
 |_,_,_,_,.lst _ _,e,r=>by cases e
 |_,_,_,_,.obj _,e,r=>by cases e
theorem abx(I:L2.Inv X pins σ H s):∀{vs:List V} {ds:List Dat} {ks:List NestedKey} {us:List Value},aM X.K g H vs ds->wO ds=some ks->Vals vs us->NestedAll s.heap ks us
 |_,_,_,_,.nil,e,r=>by
  cases e;cases r;exact .nil
 |_,_,_,_,.cons h t,e,r=>by
  rw[wO]at e;obtain⟨k,h1,e⟩:=arN.mp e;obtain⟨ks,h2,e⟩:=arN.mp e;cases e;cases r with
  |cons r1 r2=>exact .cons (key_is I h h1 r1) (abx I t h2 r2)
end
end
mutual
theorem abI:∀k:NestedKey,uh k.data=some k
 |.none=>rfl
 |.num _=>rfl
 |.text _=>rfl
 |.tup ks=>by rw[NestedKey.data,uh,Y0 ks];rfl
theorem Y0:∀ks:List NestedKey,wO (NestedKey.datas ks)=some ks
 |[]=>rfl
 |k::ks=>by rw[NestedKey.datas,wO,abI k,Y0 ks];rfl
end
def dhas:Bool->List (Dat×Dat)->Dat->Out Bool
 |false,kvs,.int i=>.ok (kvs.any λp=>PyData.eqv p.1 (.int i))
 |true,kvs,.tuple ds=>match uh (.tuple ds) with
  |some k=>match decide (k.depth<=8) with
   |true=>.ok (kvs.any λp=>PyData.eqv p.1 (.tuple ds))
   |false=>.bad
  |none=>.bad
 |_,_,_=>.bad
def zp(M:Mo)(f:Str)(d:Dat):Option (Nat×Inst×Bool×List (Dat×Dat)):=(j6 M d).bind λp=>match p.2.fs.lookup f with
 |some (.dic b kvs)=>some (p.1,p.2,b,kvs)
 |_=>none
section
variable{aj:aR}{f:Str}
theorem GZ{K:arO}{g:Gh}{H:Hp}{M:Mo}{d:Dat}{v:V}{h:Nat}{i:Inst}{b:Bool}{kvs:List (Dat×Dat)}(co:jm K aj)(w:fZ K aj g H M)(r:dX K g H v d)(hi:zp M f d=some (h,i,b,kvs)) :
  ∃a C dx fs l,d=obj h/\M[h]?=some i/\i.cls≠""/\i.fs.lookup f=some (.dic b kvs)/\g.tbl[h]?=some a/\v=.ref a/\aj i.cls=some C/\H a=some (.ins C dx fs)/\cM K aj g H h fs i.fs/\Cls K C/\NoAttr K C f/\f∈aj.fl i.cls/\fs.lookup f=some (.ref l)/\g.ow l=some (h,f)/\jy K aj g H l b kvs:=by
 unfold zp at hi;obtain⟨⟨h',i'⟩,h1,hi⟩:=arN.mp hi;split at hi
 ·next b' kvs' hl=>
  cases hi;obtain⟨rfl,m1,m2⟩:=Ie h1;obtain⟨a,rfl,ha⟩:=Ls r;obtain⟨C,dx,fs,c1,c2,c3⟩:=w.ins _ a _ ha m1 m2;have hfl:=w.fd _ _ m1 f (lookup_mem hl);obtain⟨k1,k2⟩:=co _ C f c1 hfl;obtain⟨u,l1,l,rfl,l3,l4⟩:=c3.get hl;exact⟨a,C,dx,fs,l,rfl,m1,m2,hl,ha,rfl,c1,c2,c3,k1,k2,hfl,l1,l3,l4⟩
 ·cases hi
end
theorem Vf{kv:List (Key×V)}{i:Int}:∀{kvs:List (Dat×Dat)},kvs.map (·.1)=kv.map (λp=>keyD p.1)->(kvs.any λp=>PyData.eqv p.1 (.int i))=(valV kv (Sum.inl i)).isSome:=by
 induction kv with
 |nil=>
  intro kvs e;cases kvs with
  |nil=>rfl
  |cons _ _=>cases e
 |cons p r ih=>
  intro kvs e;cases kvs with
  |nil=>cases e
  |cons q t=>
   simp only[arT,List.cons.injEq]at e;rw[as3,ih e.2,e.1];by_cases h:p.1=Sum.inl i
   ·rw[valV_pos h,h];simp[keyD,PyData.eqv]
   ·rw[valV_neg h];have:PyData.eqv (keyD p.1) (.int i)=false:=by
     cases hp:p.1 with
     |inl j=>
      have:j≠i:=λz=>h (by rw[hp,z]);simp[keyD,PyData.eqv,this]
     |inr x=>simp[keyD,PyData.eqv]
    rw[this,Bool.false_or]
theorem Jr{xs:List mY}{k:NestedKey}:∀{kvs:List (Dat×Dat)},kvs.map (·.1)=xs.map (λx=>x.1.data)->(kvs.any λp=>PyData.eqv p.1 k.data)=(atKey xs k).isSome:=by
 induction xs with
 |nil=>
  intro kvs e;cases kvs with
  |nil=>rfl
  |cons _ _=>cases e
 |cons p r ih=>
  intro kvs e;cases kvs with
  |nil=>cases e
  |cons q t=>
   simp only[arT,List.cons.injEq]at e;rw[as3,ih e.2,e.1,aa0];unfold atKey;rw[List.find?_cons];cases hd:decide (p.1=k) with
   |true=>rfl
   |false=>rfl
theorem HJ{X:Cx}{pins:List (Addr×Obj)}{σ:L2.St}{H:Hp}{s:Shared}{g:Gh}{l:Addr}{o:Obj}{xs:List mY}{ks:List Dat}(I:L2.Inv X pins σ H s)(h1:H l=some (iG l o))(h2:lF X.w l o xs)(h3:ks=xs.map λx=>x.1.data)(h4:aM X.K g H (xs.map λx=>V.ref x.2.1) ks) :
  s.heap.DictOfH (nestedKind X.prog X.w) l xs:=by
 obtain⟨z1,_,_⟩:=(show ObjOk X.prog X.w H s.heap l (iG l o) from I.hok l _ h1);obtain⟨es,ep,e1,e2⟩:=h2.ent;refine⟨o,es,ep,z1,h2.ex,e1,e2,λx hx=>?_,h2.nd⟩;refine⟨?_,h2.dep x hx⟩;obtain⟨n,hn⟩:=List.mem_iff_getElem?.mp hx;obtain⟨d,hd1,hd2⟩:=h4.get' (i:=n) (v:=V.ref x.2.1) (by rw[ar5,hn];rfl);rw[h3,ar5,hn]at hd1;cases hd1;exact key_is I hd2 (abI x.1) rfl
def rInD(X:Cx)(neg:Bool):R2:=λx y H Q=>(∃l kv i,y=.ref l/\H l=some (.dK kv)/\x=.int i/\Q (.bl (neg ^^ (valV kv (Sum.inl i)).isSome)) H)∨
 ∃(l:Addr) (o:Obj) (xs:List mY) (g:Gh) (d:Dat) (b:Addr) (k:NestedKey),y=.ref l/\H l=some (iG l o)/\lF X.w l o xs/\aM X.K g H (xs.map λx=>V.ref x.2.1) (xs.map λx=>x.1.data)/\x=.ref b/\Rep X.K g H x d/\uh d=some k/\k.depth<=8/\Q (.bl (neg ^^ (atKey xs k).isSome)) H
section
variable{X:Cx}
theorem op_inD(hu:X.A.units+64 < cLine):OpR X (compareOp .In) (rInD X false):=by
 intro pins s σ H x y v u Q I rx ry h;rcases h with⟨l,kv,i,rfl,hl,rfl,q⟩|⟨l,o,xs,g,d,b,k,rfl,h1,h2,h3,rfl,h4,h5,h6,q⟩
 ·obtain rfl:u=Value.ref l:=ry
  exact d_in (by omega) I (DGet.k (k:=Sum.inl i) hl) rx λs' I'=>⟨.bl _,H,I',rfl,by simpa using q⟩
 ·obtain rfl:u=Value.ref l:=ry
  obtain rfl:v=Value.ref b:=rx
  refine wpAny_in_heap (knd:=nestedKind X.prog X.w) (k:=k) (show X.A.in1.units+8 < cLine by show X.A.units+1+8 < cLine;omega) ⟨key_is I h4 h5 rfl,h6⟩ h2.sys (HJ I h1 h2 rfl h3) ?_;exact⟨.bl _,H,I.tok _,rfl,by simpa using q⟩
theorem op_notInD(hu:X.A.units+64 < cLine):OpR X (compareOp .NotIn) (rInD X true):=by
 intro pins s σ H x y v u Q I rx ry h;rcases h with⟨l,kv,i,rfl,hl,rfl,q⟩|⟨l,o,xs,g,d,b,k,rfl,h1,h2,h3,rfl,h4,h5,h6,q⟩
 ·obtain rfl:u=Value.ref l:=ry
  exact d_notIn (by omega) I (DGet.k (k:=Sum.inl i) hl) rx λs' I'=>⟨.bl _,H,I',rfl,by simpa using q⟩
 ·obtain rfl:u=Value.ref l:=ry
  obtain rfl:v=Value.ref b:=rx
  refine notIn_keyed (knd:=nestedKind X.prog X.w) (k:=k) (show X.A.in1.units+8 < cLine by show X.A.units+1+8 < cLine;omega) ⟨key_is I h4 h5 rfl,h6⟩ h2.sys ⟨xs,HJ I h1 h2 rfl h3,rfl⟩ ?_;rw[valueAt_pairsH,Option.isSome_map];exact⟨.bl _,H,I.tok _,rfl,by simpa using q⟩
end
def Qc(neg:Bool)(f:Str)(k o:QF):QF:=λM Z=>(k M Z).bind λd=>(o M Z).bind λod=>match zp M f od with
 |some (_,_,b,kvs)=>(dhas b kvs d).bind λr=>.ok (.bool (neg ^^ r))
 |none=>.bad
section
variable{X:Cx}{aj:aR}{W:WX}{o k:Expr}{f:Str}{pos p1:Pos}{fo fk:QF}{neg:Bool}{op:CmpOp}
theorem agN(co:jm X.K aj)(hw:aj.w=X.w)(σ:L2.St)(H:Hp)(Q:VK)(h:tQ X.K aj W (Qc neg f fk fo) σ H Q):tOp (rInD X neg) (tQ X.K aj W fk) (tFld X.K (tW X.K aj W fo) f) σ H Q:=by
 obtain⟨g,Z,M,I,h⟩:=h;refine tQ.go I h.bnd λd v H1 h1 e1 r1=>?_;have I1:=I.ex e1;refine tW.go I1 (h1.bnd.mono (λ_ z=>z) λ_ z=>z.ex e1) λod u H2 h2 e2 r2=>?_;have I2:=I1.ex e2;split at h2
 ·next hh i b kvs hd=>
  obtain⟨a,C,dx,fs,l,rfl,m1,m2,ml,ha,rfl,c1,c2,c3,c4,c5,c6,l1,l2,l3⟩:=GZ co I2.wok r2 hd;refine⟨a,C,dx,fs,.ref l,rfl,c2,c4,c5,l1,?_⟩;have r1':=r1.ex e2 I1.kd;unfold dhas at h2;split at h2
  ·next i'=>
   obtain⟨kv,k1,k2,k3⟩:=l3;cases r1';refine .inl ⟨l,kv,i',rfl,k1,rfl,?_⟩;rw[Vf k2]at h2;exact h2 _ H2 (e1.trans e2) (.bl _)
  ·next ds=>
   split at h2
   ·next kk hk=>
    split at h2
    ·next hdep=>
     obtain⟨o',xs,vs,k1,k2,k3,k4,k5,k6⟩:=l3;have ek:=zX hk;rw[←ek,Jr k3]at h2;rw[k3]at k4;rw[hw]at k2;cases r1' with
     | @tup b us _ hs ht=>exact .inr ⟨l,o',xs,g,_,b,kk,rfl,k1,k2,k4,rfl,.tup hs ht,hk,atp hdep,h2 _ H2 (e1.trans e2) (.bl _)⟩
    ·exact atn h2
   ·exact atn h2
  ·exact atn h2
 ·exact atn h2
theorem alI(co:jm X.K aj)(hw:aj.w=X.w)(hr:OpR X (compareOp op) (rInD X neg))(hk:QE aj X W k fk)(ho:QW aj X W o fo)(hb:baseOk o=true):QE aj X W (.Compare k [op] [.Attribute o f p1] pos) (Qc neg f fk fo):=
 PE.weak (pe_cmpR hr hk (pe_fld ho (mW hb)) (by cases op<;>rfl)) λσ H Q h=>agN co hw σ H Q h
end
def DPx(X:Cx)(H:Hp)(a:Addr)(y v:V)(R:Hp->Prop):Prop:=(∃kvs i,H a=some (.dK kvs)/\y=.int i/\kvs.length < sizeLine/\R (upd H a (.dK (putK kvs (Sum.inl i) v))))∨
 ∃(o:Obj) (xs:List mY) (g:Gh) (d:Dat) (b:Addr) (k:NestedKey),H a=some (iG a o)/\lF X.w a o xs/\aM X.K g H (xs.map λx=>V.ref x.2.1) (xs.map λx=>x.1.data)/\y=.ref b/\Rep X.K g H y d/\uh d=some k/\k.depth<=8/\xs.length < sizeLine/\∀(o':Obj) (u:Value),RelV v u->lF X.w a o' (storedH xs k b u)->R (upd H a (iG a o'))
theorem Mg{P:Program}{w:World}{H:Hp}{h:Heap}{l:Addr}{o:Obj}(e:h.get? l=some o):ObjOk P w H h l (iG l o):=⟨e,⟨o,e⟩,λ_ _ e1 k=>k _ e1⟩
theorem aaI{xs:List mY}{k:NestedKey}{b:Addr}{u:Value}:(storedH xs k b u).map (·.1)=if (atKey xs k).isSome then xs.map (·.1) else xs.map (·.1)++[k]:=by
 unfold storedH;split
 ·rw[asr];refine List.map_congr_left λx _=>?_
  show(putAt k u x).1=x.1
  unfold putAt
  split<;>rfl
 ·simp
theorem Ry{xs:List mY}{k:NestedKey}{b:Addr}{u:Value}:(storedH xs k b u).length<=xs.length+1:=by
 unfold storedH
 split<;>simp
theorem R9{xs:List mY}{k:NestedKey}{b:Addr}{u:Value}(h:∀x∈xs,x.1.depth<=8)(hk:k.depth<=8):∀x∈storedH xs k b u,x.1.depth<=8:=λx hx=>by
 have:x.1∈(storedH xs k b u).map (·.1):=arY.mpr ⟨x,hx,rfl⟩;rw[aaI]at this;have old:∀{z:NestedKey},z∈xs.map (·.1)->z.depth<=8:=λ{z} m=>by
  obtain⟨y,hy,rfl⟩:=arY.mp m;exact h y hy
 split at this
 ·exact old this
 ·rcases ar0.mp this with z|z
  ·exact old z
  ·rw[arV.mp z];exact hk
section
variable{X:Cx}{o i value:Expr}{td ty tv:TE}{pos pos':Pos}
def anC(X:Cx)(td ty tv:TE):TS:=λD σ H=>tv σ H λv H1=>td σ H1 λx H2=>ty σ H2 λy H3=>∃a,x=.ref a/\DPx X H3 a y v λH4=>D.nx σ H4
theorem afh(hu:X.A.units+64 < cLine)(ho:PE X o td)(hi:PE X i ty)(hv:PE X value tv)(hs:swapsWith value (some (.Subscript o i pos')) pos.line X.env=pure false):PS X (.Assign [.Subscript o i pos'] value pos) (anC X td ty tv):=by
 refine⟨λpins s σ H D I h=>?_⟩;refine wpAny_Assign_Subscript (thn (hv.run pins s σ H _ I h) λr s1 ⟨v,H1,I1,rv,q1⟩=>thn (ho.run pins s1 σ H1 _ I1 q1) λu s2 ⟨x,H2,I2,rx,q2⟩=>thn (hi.run pins s2 σ H2 _ I2 q2) λiv s3 ⟨y,H3,I3,ry,a,ex,q3⟩=>?_) hs;subst ex
 obtain rfl:u=Value.ref a:=rx
 rcases q3 with⟨kvs,j,h1,rfl,hl,q⟩|⟨ob,xs,g,d,b,k,h1,h2,h3,rfl,h4,h5,h6,hl,q⟩
 ·exact d_setItem (by omega) I3 (DPut.k (k:=Sum.inl j) h1 hl) ry rv λs4 I4=>⟨σ,_,I4,q⟩
 ·obtain rfl:iv=Value.ref b:=ry
  refine wpAny_setItem_heap (knd:=nestedKind X.prog X.w) (k:=k) (hsz:=Nat.le_of_lt hl) (show X.A.in1.units+8 < cLine by show X.A.units+1+8 < cLine;omega) ⟨key_is I3 h4 h5 rfl,h6⟩ (HJ I3 h1 h2 rfl h3) λh' dd hs'=>?_;obtain⟨o',es,ep,g1,g2,g3,g4,g5,g6⟩:=dd;have nd:lF X.w a o' (storedH xs k b r):=⟨h2.sys,g2,⟨es,ep,g3,g4⟩,g6,by have:=Ry (xs:=xs) (k:=k) (b:=b) (u:=r);omega,R9 h2.dep h6⟩;exact⟨σ,_,d_write I3 (by rw[h1];exact True.intro) hs' ⟨o',g1⟩ (Mg g1),q o' r rv nd⟩
end
theorem aM.back{K:arO}{g:Gh}{H:Hp}{vs:List V}{ds:List Dat}{v:V}{d:Dat}(h:aM K g H vs ds)(r:Rep K g H v d):aM K g H (vs++[v]) (ds++[d]):=h.append (.cons r .nil)
theorem NZ{K:arO}{aj:aR}{f:Str}{σ:L2.St}{Z:Env}{g:Gh}{H:Hp}{M:Mo}{h:Nat}{i:Inst}{b:Bool}{kvs':List (Dat×Dat)}{a C dx l:Addr}{fs:List (Str×V)}{o':HO}(I:SInv K aj σ H g Z M)(m1:M[h]?=some i)(m2:i.cls≠"")(ha:g.tbl[h]?=some a)(c1:aj i.cls=some C)(c2:H a=some (.ins C dx fs))(c3:cM K aj g H h fs i.fs)(hfl:f∈aj.fl i.cls)(l1:fs.lookup f=some (.ref l))(l4:g.ow l=some (h,f))(mu:Ir o')
  (new:Gr false g g H (upd H l o')->jy K aj g (upd H l o') l b kvs'):Gr false g g H (upd H l o')/\SInv K aj σ (upd H l o') g Z (M.set h (i.put f (.dic b kvs'))):=by
 have ch:=aer (o':=o') I.kd I.wok l4 mu;have nla:a≠l:=λz=>by
  subst z;rw[I.wok.tw h a i ha m1 m2]at l4;cases l4
 have w':=I.wok.chg I.kd ch ha m1 m2 hfl c1 (dx:=dx) c3 (v:=.ref l) (fl:=.dic b kvs') (by rw[upd_ne nla,KN l1];exact c2) ⟨l,rfl,l4,new ch.gc.gr⟩;exact⟨ch.gc.gr,I.chg ch w'⟩
def Nb(f:Str)(o k e:QF):SF:=λM Z=>((e M Z).at M).then Z λv _=>((o M Z).at M).then Z λod _=>match zp M f od with
 |some (h,i,b,kvs)=>((k M Z).at M).then Z λd _=>match dhas b kvs d,decide (kvs.length < 100000) with
  |.ok false,true=>.next Z (M.set h (i.put f (.dic b (kvs++[(d,v)]))))
  |_,_=>.bad
 |none=>.bad
def Nu(f:Str)(o k:QF):SF:=λM Z=>((o M Z).at M).then Z λod _=>match zp M f od with
 |some (h,i,b,kvs)=>((k M Z).at M).then Z λd _=>match dhas b kvs d,decide (kvs.length<=100000) with
  |.ok true,true=>.next Z (M.set h (i.put f (.dic b (kvs.filter λp=>!PyData.eqv p.1 d))))
  |_,_=>.bad
 |none=>.bad
theorem Uz{kvs:List (Dat×Dat)}{b r:Bool}{d:Dat}(h:dhas b kvs d=.ok r):(kvs.any λp=>PyData.eqv p.1 d)=r/\((b=false/\∃i,d=.int i)∨(b=true/\∃ds k,d=.tuple ds/\uh d=some k/\k.depth<=8)):=by
 unfold dhas at h;split at h
 ·next i=>
  cases h;exact⟨rfl,.inl ⟨rfl,i,rfl⟩⟩
 ·next ds=>
  split at h
  ·next k hk=>
   split at h
   ·next hd=>
    cases h;exact⟨rfl,.inr ⟨rfl,ds,k,rfl,hk,atp hd⟩⟩
   ·cases h
  ·cases h
 ·cases h
section
variable{X:Cx}{aj:aR}{W:WX}{o e i:Expr}{f:Str}{pos pos' p1:Pos}{fo fe fk:QF}
theorem aiH(co:jm X.K aj)(hw:aj.w=X.w)(hu:X.A.units+64 < cLine)(ho:QW aj X W o fo)(hb:baseOk o=true)(hk:QE aj X W i fk)(he:QE aj X W e fe)(hs:swapsWith e (some (.Subscript (.Attribute o f p1) i pos')) pos.line X.env=pure false) :
  SE aj X W false (.Assign [.Subscript (.Attribute o f p1) i pos'] e pos) (Nb f fo fk fe):=by
 refine PS.weak (afh hu (pe_fld ho (mW hb)) hk he hs) λD σ H ⟨g,Z,M,I,z⟩=>?_;unfold Nb at z;have k1:=Out.iV (dw (σ:=σ) z);refine tQ.go I (k1.mono (λ_ y=>y) λx y H' c dd ex rx=>y H' _ c dd (Gr.ex ex) (I.ex ex) rx) λd v H1 k2 e1 rv=>?_;have I1:=I.ex e1;have k2:=Out.iV (dw (σ:=σ) k2);refine tW.go I1 (k2.mono (λ_ y=>y) λx y H' c dd ex rx=>y H' _ c dd ((Gr.ex e1).trans (Gr.ex ex)) (I1.ex ex) rx) λod u H2 k3 e2 ru=>?_;have I2:=I1.ex e2;have e12:=e1.trans e2;split at k3
 ·next h i' b kvs hl=>
  obtain⟨a,C,dx,fs,l,rfl,m1,m2,ml,ha,rfl,c1,c2,c3,c4,c5,c6,l1,l2,l3⟩:=GZ co I2.wok ru hl;refine⟨a,C,dx,fs,.ref l,rfl,c2,c4,c5,l1,?_⟩;have k3:=Out.iV (dw (σ:=σ) k3);refine tQ.go I2 (k3.mono (λ_ y=>y) λx y H' c dd ex rx=>y H' _ c dd ((Gr.ex e12).trans (Gr.ex ex)) (I2.ex ex) rx) λkd w H3 k4 e3 rk=>?_;have I3:=I2.ex e3;have l3':=l3.ex e3 I2.kd;have rv3:=(rv.ex e2 I1.kd).ex e3 I2.kd;refine⟨l,rfl,?_⟩;split at k4
  ·next hh hz=>
   obtain⟨ha2,hcase⟩:=Uz hh;have hz:=atp hz;rcases hcase with⟨rfl,j,rfl⟩|⟨rfl,ds,kk,rfl,hkk,hdep⟩
   ·obtain⟨kv,q1,q2,q3⟩:=l3';cases rk;have hlen:kv.length=kvs.length:=by
     have:=congrArg List.length q2;simpa using this.symm
    rw[Vf q2]at ha2;have hn:valV kv (Sum.inl j)=none:=by
     cases hv:valV kv (Sum.inl j) with
     |none=>rfl
     |some _=>rw[hv]at ha2;cases ha2
    refine .inl ⟨kv,j,q1,rfl,sz_lt (by rw[hlen];exact hz),?_⟩;rw[putK_new v hn];obtain⟨gr,I4⟩:=NZ (b:=false) (kvs':=kvs++[(.int j,d)]) (o':=.dK (kv++[(Sum.inl j,v)])) I3 m1 m2 ha c1 (e3 _ _ c2) (c3.ex e3 I2.kd) c6 l1 l2 trivial λgr=>⟨_,upd_same,by simp[q2,keyD],by
     rw[List.map_append,List.map_append];exact(q3.gr gr I3.kd).back (rv3.gr gr I3.kd)⟩
    exact k4 σ _ g ((Gr.ex (e12.trans e3)).trans gr) I4
   ·obtain⟨o',xs,vs,q1,q2,q3,q4,q5,q6⟩:=l3';have hlen:xs.length=kvs.length:=by
     have:=congrArg List.length q3;simpa using this.symm
    have ek:=zX hkk;rw[←ek,Jr q3]at ha2;have hn:atKey xs kk=none:=by
     cases hv:atKey xs kk with
     |none=>rfl
     |some _=>rw[hv]at ha2;cases ha2
    have q4':=q4;rw[q3]at q4';rw[hw]at q2;cases rk with
    | @tup bb us _ hs' ht=>
     refine .inr ⟨o',xs,g,_,bb,kk,q1,q2,q4',rfl,.tup hs' ht,hkk,hdep,sz_lt (by rw[hlen];exact hz),λo2 u2 ru2 nd=>?_⟩;rw[storedH_new hn]at nd;obtain⟨gr,I4⟩:=NZ (b:=true) (kvs':=kvs++[(.tuple ds,d)]) (o':=iG l o2) I3 m1 m2 ha c1 (e3 _ _ c2) (c3.ex e3 I2.kd) c6 l1 l2 trivial λgr=>⟨o2,xs++[(kk,bb,u2)],vs++[v],upd_same,by rw[hw];exact nd,by simp[q3,ek],by
      rw[List.map_append,List.map_append];exact(q4.gr gr I3.kd).back ((Rep.tup hs' ht).gr gr I3.kd),by
      rw[List.map_append];exact q5.append (.cons ru2 .nil),by
      rw[List.map_append];exact(q6.gr gr I3.kd).back (rv3.gr gr I3.kd)⟩
     exact k4 σ _ g ((Gr.ex (e12.trans e3)).trans gr) I4
  ·exact atn k4
 ·exact atn k3
end
section
variable{X:Cx}{o i:Expr}{td ty:TE}{pos tpos:Pos}
def ant(X:Cx)(td ty:TE):TS:=λD σ H=>td σ H λx H2=>ty σ H2 λy H3=>∃a,x=.ref a/\((∃kvs i,H3 a=some (.dK kvs)/\y=.int i/\(valV kvs (Sum.inl i)).isSome=true/\D.nx σ (upd H3 a (.dK (dropK kvs (Sum.inl i)))))∨
 ∃(o:Obj) (xs:List mY) (g:Gh) (d:Dat) (b:Addr) (k:NestedKey),H3 a=some (iG a o)/\lF X.w a o xs/\aM X.K g H3 (xs.map λx=>V.ref x.2.1) (xs.map λx=>x.1.data)/\y=.ref b/\Rep X.K g H3 y d/\uh d=some k/\k.depth<=8/\(atKey xs k).isSome=true/\∀(o':Obj),lF X.w a o' (withoutH xs k)->D.nx σ (upd H3 a (iG a o')))
theorem agj(hu:X.A.units+64 < cLine)(ho:PE X o td)(hi:PE X i ty):PS X (.Delete [.Subscript o i tpos] pos) (ant X td ty):=by
 refine⟨λpins s σ H D I h=>?_⟩;refine wpAny_Delete (wpAny_deleteEach_cons (wpAny_delete_Subscript (thn (ho.run pins s σ H _ I h) λu s1 ⟨x,H1,I1,rx,q1⟩=>thn (hi.run pins s1 σ H1 _ I1 q1) λiv s2 ⟨y,H2,I2,ry,a,ex,q2⟩=>?_)));subst ex
 obtain rfl:u=Value.ref a:=rx
 rcases q2 with⟨kvs,j,h1,rfl,hl,q⟩|⟨ob,xs,g,d,b,k,h1,h2,h3,rfl,h4,h5,h6,hl,q⟩
 ·exact d_delItem (k:=Sum.inl j) I2 h1 ry hl λs3 I3=>wpAny_deleteEach_nil ⟨σ,_,I3,q⟩
 ·obtain rfl:iv=Value.ref b:=ry
  obtain⟨p,hp⟩:=Option.isSome_iff_exists.mp hl;refine wpAny_delItem_heap (knd:=nestedKind X.prog X.w) (k:=k) (hsz:=h2.len) (show X.A.in1.units+8 < cLine by show X.A.units+1+8 < cLine;omega) ⟨key_is I2 h4 h5 rfl,h6⟩ h2.sys (HJ I2 h1 h2 rfl h3) hp λh' dd hs'=>?_;obtain⟨o',es,ep,g1,g2,g3,g4,g5,g6⟩:=dd;have nd:lF X.w a o' (withoutH xs k):=⟨h2.sys,g2,⟨es,ep,g3,g4⟩,g6,asl (ar7 _ _) h2.len,λx hx=>h2.dep x (ash.mp hx).1⟩;exact wpAny_deleteEach_nil ⟨σ,_,d_write I2 (by rw[h1];exact True.intro) hs' ⟨o',g1⟩ (Mg g1),q o' nd⟩
end
theorem Qe{α β:Type}(f:α->β)(c:α->Bool):∀l:List α,(((l.map f).zip l).filter λp=>c p.2).map (·.1)=(l.filter c).map f
 |[]=>rfl
 |a::l=>by
  rw[arT,as6,asI,asI];cases c a
  ·exact Qe f c l
  ·simp only[if_true,arT,Qe f c l]
theorem agQ{K:arO}{g:Gh}{H:Hp}(kk:NestedKey):∀{xs:List mY} {vs:List V} {kvs:List (Dat×Dat)},kvs.map (·.1)=xs.map (λx=>x.1.data)->aM K g H (xs.map λx=>V.ref x.2.1) (kvs.map (·.1))->Vals vs (xs.map (·.2.2))->aM K g H vs (kvs.map (·.2))->
  ∃vs',(kvs.filter λp=>!PyData.eqv p.1 kk.data).map (·.1)=(withoutH xs kk).map (λx=>x.1.data)/\aM K g H ((withoutH xs kk).map λx=>V.ref x.2.1) ((kvs.filter λp=>!PyData.eqv p.1 kk.data).map (·.1))/\Vals vs' ((withoutH xs kk).map (·.2.2))/\aM K g H vs' ((kvs.filter λp=>!PyData.eqv p.1 kk.data).map (·.2))
 |[],_,[],_,_,.nil,_=>⟨[],rfl,.nil,.nil,.nil⟩
 |[],_,_::_,h,_,_,_=>by cases h
 |_::_,_,[],h,_,_,_=>by cases h
 |x::xs,_,q::qs,h1,.cons r1 t1,.cons w1 w2,.cons r2 t2=>by
  simp only[arT,List.cons.injEq]at h1;obtain⟨vs',i1,i2,i3,i4⟩:=agQ kk h1.2 t1 w2 t2;have hq:(!PyData.eqv q.1 kk.data)=decide (x.1≠kk):=by rw[h1.1,aa0];by_cases hz:x.1=kk<;>simp[hz]
  unfold withoutH;rw[asI,asI,hq];cases hb:decide (x.1≠kk) with
  |true=>exact⟨_::vs',by simp only[if_true,arT,h1.1];exact congrArg _ i1,by simp only[if_true,arT];exact .cons r1 i2,by simp only[if_true,arT];exact .cons w1 i3,by simp only[if_true,arT];exact .cons r2 i4⟩
  |false=>
   simp only[asv,if_false];exact⟨vs',i1,i2,i3,i4⟩
theorem alo{K:arO}{g:Gh}{H:Hp}{α:Type}(c:α->Bool)(key:α->Dat)(dd:Dat->Bool):∀{vs:List V} {kvs:List (Dat×Dat)} {xs:List α},(∀x∈xs,c x=dd (key x))->kvs.map (·.1)=xs.map key->vs.length=xs.length->aM K g H vs (kvs.map (·.2))->
  (kvs.filter λp=>dd p.1).map (·.1)=(xs.filter c).map key/\aM K g H (((vs.zip xs).filter λp=>c p.2).map (·.1)) ((kvs.filter λp=>dd p.1).map (·.2))
 |[],[],[],_,_,_,_=>⟨rfl,.nil⟩
 |[],[],_::_,_,h,_,_=>by cases h
 |[],_::_,_,_,_,_,h=>by cases h
 |_::_,[],_,_,_,_,h=>by cases h
 |_::_,_::_,[],_,h,_,_=>by cases h
 |u::us,q::qs,x::xs,hc,hk,hl,.cons h t=>by
  simp only[arT,List.cons.injEq]at hk;have hq:=hc x arU;rw[←hk.1]at hq;obtain⟨i1,i2⟩:=alo c key dd (λy hy=>hc y (arS _ hy)) hk.2 (asT hl) t;rw[as6,asI,asI,asI,hq];cases hb:dd q.1 with
  |true=>exact⟨by simp only[if_true,arT,i1,hk.1],by simp only[if_true,arT];exact .cons h i2⟩
  |false=>exact⟨by simpa using i1,by simpa using i2⟩
section
variable{X:Cx}{aj:aR}{W:WX}{o i:Expr}{f:Str}{pos tpos p1:Pos}{fo fk:QF}
theorem aiS(co:jm X.K aj)(hw:aj.w=X.w)(hu:X.A.units+64 < cLine)(ho:QW aj X W o fo)(hb:baseOk o=true)(hk:QE aj X W i fk):SE aj X W false (.Delete [.Subscript (.Attribute o f p1) i tpos] pos) (Nu f fo fk):=by
 refine PS.weak (agj hu (pe_fld ho (mW hb)) hk) λD σ H ⟨g,Z,M,I,z⟩=>?_;unfold Nu at z;have k2:=Out.iV (dw (σ:=σ) z);refine tW.go I (k2.mono (λ_ y=>y) λx y H' c dd ex rx=>y H' _ c dd (Gr.ex ex) (I.ex ex) rx) λod u H2 k3 e2 ru=>?_;have I2:=I.ex e2;split at k3
 ·next h i' b kvs hl=>
  obtain⟨a,C,dx,fs,l,rfl,m1,m2,ml,ha,rfl,c1,c2,c3,c4,c5,c6,l1,l2,l3⟩:=GZ co I2.wok ru hl;refine⟨a,C,dx,fs,.ref l,rfl,c2,c4,c5,l1,?_⟩;have k3:=Out.iV (dw (σ:=σ) k3);refine tQ.go I2 (k3.mono (λ_ y=>y) λx y H' c dd ex rx=>y H' _ c dd ((Gr.ex e2).trans (Gr.ex ex)) (I2.ex ex) rx) λkd w H3 k4 e3 rk=>?_;have I3:=I2.ex e3;have l3':=l3.ex e3 I2.kd;refine⟨l,rfl,?_⟩;split at k4
  ·next hh hz=>
   obtain⟨ha2,hcase⟩:=Uz hh;rcases hcase with⟨rfl,j,rfl⟩|⟨rfl,ds,kk,rfl,hkk,hdep⟩
   ·obtain⟨kv,q1,q2,q3⟩:=l3';cases rk;rw[Vf q2]at ha2;refine .inl ⟨kv,j,q1,rfl,ha2,?_⟩;have hf:=λ(H':Hp)(r:aM X.K g H' (kv.map (·.2)) (kvs.map (·.2)))=>alo (K:=X.K) (g:=g) (H:=H') (λp:Key×V=>decide (p.1≠Sum.inl j)) (λp=>keyD p.1) (λz=>!PyData.eqv z (.int j)) (vs:=kv.map (·.2)) (kvs:=kvs) (xs:=kv) (λx _=>by
     cases hx:x.1 with
     |inl z=>by_cases hz:z=j<;>simp[keyD,PyData.eqv,hz]
     |inr z=>simp[keyD,PyData.eqv]) q2 (by simp) r
    have ez:(((kv.map (·.2)).zip kv).filter λp=>decide (p.2.1≠Sum.inl j)).map (·.1)=(dropK kv (Sum.inl j)).map (·.2):=Qe (·.2) (λp:Key×V=>decide (p.1≠Sum.inl j)) kv;obtain⟨gr,I4⟩:=NZ (b:=false) (kvs':=kvs.filter λp=>!PyData.eqv p.1 (.int j)) (o':=.dK (dropK kv (Sum.inl j))) I3 m1 m2 ha c1 (e3 _ _ c2) (c3.ex e3 I2.kd) c6 l1 l2 trivial λgr=>⟨_,upd_same,(hf _ (q3.gr gr I3.kd)).1,by
     rw[←ez];exact(hf _ (q3.gr gr I3.kd)).2⟩
    exact k4 σ _ g ((Gr.ex (e2.trans e3)).trans gr) I4
   ·obtain⟨o',xs,vs,q1,q2,q3,q4,q5,q6⟩:=l3';have ek:=zX hkk;rw[←ek,Jr q3]at ha2;rw[hw]at q2;have q4':=q4;rw[q3]at q4';cases rk with
    | @tup bb us _ hs' ht=>
     refine .inr ⟨o',xs,g,_,bb,kk,q1,q2,q4',rfl,.tup hs' ht,hkk,hdep,ha2,λo2 nd=>?_⟩;obtain⟨gr,I4⟩:=NZ (b:=true) (kvs':=kvs.filter λp=>!PyData.eqv p.1 (.tuple ds)) (o':=iG l o2) I3 m1 m2 ha c1 (e3 _ _ c2) (c3.ex e3 I2.kd) c6 l1 l2 trivial λgr=>by
      obtain⟨vs',i1,i2,i3,i4⟩:=agQ kk q3 (q4.gr gr I3.kd) q5 (q6.gr gr I3.kd);rw[ek]at i1 i2 i4;exact⟨o2,withoutH xs kk,vs',upd_same,by rw[hw];exact nd,i1,i2,i3,i4⟩
     exact k4 σ _ g ((Gr.ex (e2.trans e3)).trans gr) I4
  ·exact atn k4
 ·exact atn k3
end
def ItD(l:Addr)(o:Obj)(xs:List mY):It:=
 ⟨λi H=>H l=some (iG l o)/\i < xs.length,λi H x H'=>H'=H/\∃e,xs[i]?=some e/\x=.ref e.2.1,λi H=>H l=some (iG l o)/\xs.length<=i⟩
theorem pin_at{X:Cx}{pins:List (Addr×Obj)}{σ:L2.St}{H:Hp}{s:Shared}{l:Addr}{o:Obj}(I:L2.Inv X pins σ H s)(h:H l=some (iG l o)):s.heap.get? l=some o:=(show ObjOk X.prog X.w H s.heap l (iG l o) from I.hok l _ h).1
theorem lF.at{w:World}{l:Addr}{o:Obj}{xs:List mY}{es:Array DictEntry}{ep:Nat}(n:lF w l o xs)(h:o.data=.dict es ep):es.size=xs.length/\∀(i:Nat) (e:mY),xs[i]?=some e->∃en,es[i]?=some en/\en.key=.ref e.2.1:=by
 obtain⟨es',ep',h1,h2⟩:=n.ent;rw[h]at h1;cases h1;refine⟨?_,λi e hi=>⟨aep w e,?_,rfl⟩⟩
 ·have:=congrArg List.length h2;simpa using this
 ·rw[←asK,h2,ar5,hi];rfl
theorem amx{P:Program}{w:World}{K:arO}{tg:Expr}{l:Addr}{o:Obj}{xs:List mY}{es:Array DictEntry}{ep:Nat}(it:Addr)(n:lF w l o xs)(hod:o.data=.dict es ep):Turn P w K tg (ItD l o xs) [it] it (λi h=>h.IsKeyIter it l i xs.length ep) where
 mem:=arV.mpr rfl
 obj:=λi h st b hb=>by
  cases arV.mp hb;obtain⟨oi,e,c,dd⟩:=st;refine⟨oi,e,λv z=>?_⟩;rw[dd]at z;cases z
 keep:=λi h h' st k=>st.at (k it (arV.mpr rfl))
 item:=by intro X hP hw hK hc i pins s σ H E I hf st hg;subst hP hw hK;obtain⟨g0,g1,g2,g3,g4,g5⟩:=hf it (arV.mpr rfl);obtain⟨sz,ent⟩:=n.at hod;have hlt:i < xs.length:=hg.2;have hx:xs[i]?=some xs[i]:=arR hlt;obtain⟨en,e1,e2⟩:=ent i _ hx;refine next_key_item st (pin_at I hg.1) hod sz e1 ?_;intro h' st' sb;have J:L2.Inv X pins σ H { s with heap:=h' }:=I.turned (t':=s.toks) (λb ob hb e=>(sb.2 b hb).trans e) g0 g1 g3 g4 g5;obtain⟨oi,a1,a2,a3⟩:=id st';exact⟨en.key,rfl,go_of (s:={ s with heap:=h' }) a1 a2 a3 (by decide) ⟨.ref xs[i].2.1,H,J,e2,⟨rfl,_,hx,rfl⟩,st',λb hb=>(hf b hb).1⟩⟩
 done:=by intro X hP hw hK hc i pins s σ H E I hf st hg;subst hP hw hK;obtain⟨g0,g1,g2,g3,g4,g5⟩:=hf it (arV.mpr rfl);exact next_key_end (I.ok.hd hc) st (pin_at I hg.1) hod (n.at hod).1 hg.2 λh' eb=>⟨rfl,I.turned (t':=s.toks) (λb ob hb e=>eb b ob hb e) g0 g1 g3 g4 g5⟩
 self:=λA i s Q E st h=>by
  refine wpAny_pyIter_slot st.typeIs PySem.F.slot_dict_keyiterator_iter (wpAny_call_entry PySem.F.slot_dict_keyiterator_iter st.typeIs PySem.F.entry_dict_keyiterator_iter ?_ (PySem.F.args_dict_keyiterator_iter_1 _));exact wpAny_pure ⟨_,rfl,"dict_keyiterator",_,st.typeIs,PySem.F.slot_dict_keyiterator_next.lookup,h⟩
def aob(X:Cx)(td:TE):TI:=λσ H R=>td σ H λx H1=>∃l o xs,x=.ref l/\H1 l=some (iG l o)/\lF X.w l o xs/\R (ItD l o xs) H1
theorem aky{X:Cx}{tg e:Expr}{td:TE}(he:PE X e td):PI X tg e (aob X td):=by
 constructor;intro pins s σ H R I h;refine thn (he.run pins s σ H _ I h) ?_;rintro u s1 ⟨x,H1,I1,rx,l,o,xs,rfl,hl,n,q⟩
 obtain rfl:u=Value.ref l:=rx
 obtain⟨es,ep,hd,_⟩:=n.ent;refine iter_keys n.sys (pin_at I1 hl) n.ex hd (pi_one (tk:=s1.toks) I1 _ (amx _ n hd) ⟨_,Heap.get?_push_size _ rfl,rfl,?_⟩ q);rw[(n.at hd).1]<;>rfl
theorem ahQ{K:arO}{aj:aR}{l:Addr}{o:Obj}{xs:List mY}{ks:List Dat}:J8 K (ItD l o xs) (λg H=>H l=some (iG l o)/\aM K g H (xs.map λx=>V.ref x.2.1) ks) ks where
 go:=λg i H c hi=>⟨c.1,by have:=c.2.length;simp at this;omega⟩
 yld:=λg i H x H' d k c e y=>by
  obtain⟨rfl,en,h1,rfl⟩:=y;obtain⟨v,h2,h3⟩:=c.2.get e;rw[ar5,h1]at h2;cases h2;exact⟨Ex.refl _,h3⟩
 stop:=λg i H c e=>⟨c.1,by have:=c.2.length;simp at this;omega⟩
 ex:=λg H H' k c e=>⟨e _ _ c.1,c.2.ex e k⟩
 add:=λg g' H H' k c r e=>⟨e _ _ c.1,c.2.gr r k⟩
def Dg(f:Str)(o:QF):IF:=λM Z=>(o M Z).bind λod=>match zp M f od with
 |some (_,_,true,kvs)=>.ok (kvs.map (·.1))
 |_=>.bad
def Du(f:Str)(o:QF):QF:=λM Z=>(o M Z).bind λod=>match zp M f od with
 |some (_,_,_,kvs)=>.ok (.list (kvs.map (·.1)))
 |none=>.bad
section
variable{X:Cx}{aj:aR}{W:WX}{o tg:Expr}{f:Str}{pos p p1:Pos}{fo:QF}
theorem afl(co:jm X.K aj)(hw:aj.w=X.w)(ho:QW aj X W o fo)(hb:baseOk o=true):QI aj X W false tg (.Attribute o f p1) (Dg f fo):=by
 have h0:=aky (tg:=tg) (pe_fld (X:=X) (pos:=p1) (f:=f) ho (mW hb));refine⟨λpins s σ H R I h=>h0.run pins s σ H R I ?_⟩;obtain⟨g,Z,M,J,h⟩:=h;unfold Dg at h;refine tW.go J h.bnd λod u H1 k2 e1 ru=>?_;have J1:=J.ex e1;split at k2
 ·next h i kvs hl=>
  obtain⟨a,C,dx,fs,l,rfl,m1,m2,ml,ha,rfl,c1,c2,c3,c4,c5,c6,l1,l2,o',xs,vs,q1,q2,q3,q4,q5,q6⟩:=GZ co J1.wok ru hl;rw[hw]at q2;exact⟨a,C,dx,fs,.ref l,rfl,c2,c4,c5,l1,l,o',xs,rfl,q1,q2,k2 _ _ H1 e1 (ahQ (aj:=aj)) ⟨q1,q4⟩ λz=>nomatch z⟩
 ·exact atn k2
end
theorem agn{P:Program}{w:World}{A:Around}{l I:Addr}{o:Obj}{xs:List mY}{es:Array DictEntry}{ep:Nat}(hh:A.handled=none)(hne:l≠I)(n:lF w l o xs)(hd:o.data=.dict es ep):Walks P w A I [I,l] [I] xs.length (λi v=>∃e,xs[i]?=some e/\v=Value.ref e.2.1) (λi h=>h.IsKeyIter I l i xs.length ep/\h.get? l=some o) where
 sub:=λb hb=>by simp at hb;simp[hb]
 frame:=λi h h' st k=>⟨st.1.at (k I (by simp)),k l (by simp) o st.2⟩
 item:=λi s Q E hi st hQ=>by
  obtain⟨sz,ent⟩:=n.at hd;have hx:xs[i]?=some xs[i]:=arR hi;obtain⟨en,e1,e2⟩:=ent i _ hx;refine next_key_item st.1 st.2 hd sz e1 ?_;intro h' st' sb;exact hQ en.key h' s.toks ⟨_,hx,e2⟩ ⟨st',(sb.2 l hne).trans st.2⟩ λb ob hb e=>(sb.2 b λz=>hb (by simp[z])).trans e
 done:=λs Q E st hQ=>next_key_end hh st.1 st.2 hd (n.at hd).1 (asn _) λh' eb=>hQ h' s.toks λb ob hb e=>eb b ob (λz=>hb (by simp[z])) e
 self:=λi s Q E st hQ=>wpAny_pyIter_keyiter st.1 hQ
theorem ag4{P:Program}{w:World}{l:Addr}{o:Obj}{xs:List mY}(n:lF w l o xs):PySem.W.KdlSrc P w "dict" l l xs.length (λi v=>∃e,xs[i]?=some e/\v=Value.ref e.2.1) (λh=>h.get? l=some o) where
 type:=λs e=>⟨o,e,n.ex.1⟩
 there:=λh e=>⟨Heap.lt_size e,Heap.lt_size e⟩
 keep:=λh h' e k=>k l (.inl rfl) o e
 notList:=by decide
 notTuple:=by decide
 hint:=λA E s Q e hq=>PySem.W.kdl_hint_dict ⟨o,e,n.ex.1⟩ hq
 iter:=λA s hh e=>by
  obtain⟨es,ep,hd,_⟩:=n.ent;refine⟨_,_,λE Q hq=>iter_keys n.sys e n.ex hd hq,agn hh (asw (Heap.lt_size e)) n hd,⟨_,Heap.get?_push_size _ rfl,rfl,?_⟩,Heap.get?_push_of_some _ e⟩;rw[(n.at hd).1]<;>rfl
def adV(X:Cx):List V->Hp->VK->Prop:=λxs H Q=>(∃p kvs,xs=[.ref p]/\H p=some (.dK kvs)/\∀q,H q=none->Q (.ref q) (upd H q (.lst (kvs.map λkv=>kV kv.1))))∨∃p o es,xs=[.ref p]/\H p=some (iG p o)/\lF X.w p o es/\∀q,H q=none->Q (.ref q) (upd H q (.lst (es.map λe=>V.ref e.2.1)))
theorem acj{X:Cx}(hc:X.calm=true):CallR X (.type "list") (adV X):=by
 intro pins s σ H xs us Q I r h;rcases h with h|⟨p,o,es,rfl,hp,n,q⟩
 ·exact call_list_dK hc pins s σ H xs us Q I r h
 ·obtain⟨u,rfl,rx⟩:=vals1 r
  obtain rfl:u=Value.ref p:=rx
  refine PySem.W.kdl_call (ag4 n) (I.ok.hd hc) (pin_at I hp) n.len ?_;intro h' tk acc c' keep hS hacc;have el:acc.toList.length=es.length:=by rw[asB];exact hacc.1
  refine⟨.ref s.heap.objs.size,upd H s.heap.objs.size (.lst (es.map λe=>V.ref e.2.1)),I.laid keep (asn _) (show ObjOk X.prog X.w _ _ _ (.lst (es.map λe=>V.ref e.2.1)) from⟨by rw[arZ];exact n.len,acc.toList,c',?_,?_⟩),rfl,q _ (I.hok.fresh (asn _))⟩
  ·refine vals_of_at (by rw[arZ,el]) λj x w h1 h2=>?_;obtain⟨e,he,rfl⟩:=hacc.2 j w (by rw[←asK];exact h2);rw[ar5,he]at h1;cases h1;rfl
  ·rw[Array.toArray_toList];exact hS
section
variable{X:Cx}{aj:aR}{W:WX}{o e:Expr}{f:Str}{pos p p1 pos':Pos}{fo:QF}
theorem aap{K:arO}{g:Gh}{H:Hp}:∀{kv:List (Key×V)} {kvs:List (Dat×Dat)},kvs.map (·.1)=kv.map (λp=>keyD p.1)->aM K g H (kv.map λp=>kV p.1) (kvs.map (·.1))
 |[],[],_=>.nil
 |[],_::_,h=>by cases h
 |_::_,[],h=>by cases h
 |a::kv,b::kvs,h=>by
  simp only[arT,List.cons.injEq]at h;rw[arT,arT,h.1];refine .cons ?_ (aap h.2);cases a.1 with
  |inl i=>exact .int i
  |inr x=>exact .str x
theorem afo(co:jm X.K aj)(hw:aj.w=X.w)(σ:L2.St)(H:Hp)(Q:VK)(h:tQ X.K aj W (Du f fo) σ H Q):tFld X.K (tW X.K aj W fo) f σ H λx H1=>adV X [x] H1 Q:=by
 obtain⟨g,Z,M,J,h⟩:=h;unfold Du at h;refine tW.go J h.bnd λod u H1 k2 e1 ru=>?_;have J1:=J.ex e1;split at k2
 ·next h i b kvs hl=>
  obtain⟨a,C,dx,fs,l,rfl,m1,m2,ml,ha,rfl,c1,c2,c3,c4,c5,c6,l1,l2,l3⟩:=GZ co J1.wok ru hl;refine⟨a,C,dx,fs,.ref l,rfl,c2,c4,c5,l1,?_⟩;cases b with
  |false=>
   obtain⟨kv,q1,q2,q3⟩:=l3;exact .inl ⟨l,kv,rfl,q1,λq nq=>k2 (.ref q) _ (e1.trans (Ex.new nq)) (.lst (.inl ⟨.inl upd_same,J1.kd.fresh nq⟩) (aap q2))⟩
  |true=>
   obtain⟨o',xs,vs,q1,q2,q3,q4,q5,q6⟩:=l3;rw[hw]at q2;exact .inr ⟨l,o',xs,rfl,q1,q2,λq nq=>k2 (.ref q) _ (e1.trans (Ex.new nq)) (.lst (.inl ⟨.inl upd_same,J1.kd.fresh nq⟩) (q4.ex (Ex.new nq) J1.kd))⟩
 ·exact atn k2
theorem afd(co:jm X.K aj)(hw:aj.w=X.w)(hc:X.calm=true)(hg:Gl X "list")(hm:X.mg "list"=none)(ho:QW aj X W o fo)(hb:baseOk o=true):QE aj X W (.Call (.Name "list" p) [.Attribute o f p1] [] pos) (Du f fo):=by
 have h1:=pa_cons (pe_fld (X:=X) (pos:=p1) (f:=f) ho (mW hb)) pa_nil (cJ rfl []);have hv:BV (.type "list") "list":=⟨by decide +kernel,by decide,by decide⟩
 refine PE.weak (pe_callTy (pos:=pos) (p:=p) (acj hc) hg hm hv.1 h1 hv.2.1 hv.2.2 (cJ rfl []) (by with_unfolding_all rfl)) λσ H Q h=>?_;exact afo co hw σ H Q h
def NT(ft:Ft)(o:QF)(f:Str)(b:Bool):SF:=λM Z=>((o (M++[⟨"",[]⟩]) Z).at (M++[⟨"",[]⟩])).then Z λod M2=>match j6 M2 od with
 |some (h,i)=>match ft.has i.cls f&&decide (i.fs.length < 100) with
  |true=>.next Z (M2.set h (i.put f (.dic b [])))
  |false=>.bad
 |none=>.bad
def al7(X:Cx)(b:Bool):TE:=λ_ H Q=>∀p,H p=none->match b with
 |false=>Q (.ref p) (upd H p (.dK []))
 |true=>∀o,lF X.w p o []->Q (.ref p) (upd H p (iG p o))
theorem ahr{b:Bool}:PE X (.Dict [] [] pos) (al7 X b):=by
 cases b with
 |false=>exact PE.weak pe_dnewK λσ H Q h p np=>h p np
 |true=>
  refine⟨λpins s σ H Q I h=>wpAny_Dict_empty ?_⟩;have hz:(s.heap.push { cls:=.type "dict",data:=.dict #[] }).get? s.heap.objs.size=some { cls:=.type "dict",data:=.dict #[] }:=Heap.get?_push_size _ rfl
  have hs:(s.heap.objs.size==sysModules)=false:=beq_eq_false_iff_ne.mpr (Ne.symm (asw I.big));exact⟨.ref s.heap.objs.size,_,I.laid (a:=s.heap.objs.size) (o:=iG s.heap.objs.size _) (t':=s.toks) (λ_ _ q=>Heap.get?_push_of_some _ q) (asn _) (Mg hz),rfl,h _ (I.hok.fresh (asn _)) _ ⟨hs,⟨rfl,rfl,rfl⟩,⟨#[],0,rfl,rfl⟩,atg,asJ _,λx hx=>absurd hx asz⟩⟩
theorem aix{ft:Ft}{b:Bool}(co:jm X.K aj)(fk:Ly ft aj)(hw:aj.w=X.w)(ho:QW aj X W o fo)(hs:swapsWith (.Dict [] [] p) (some (.Attribute o f pos')) pos.line X.env=pure false):SE aj X W false (.Assign [.Attribute o f pos'] (.Dict [] [] p) pos) (NT ft fo f b):=by
 refine PS.weak (ps_fld ho (ahr (b:=b)) hs) λD σ H ⟨g,Z,M,I,z⟩=>?_;have core:∀(l:Addr) (ob:HO),H l=none->Ir ob->(∀(g':Gh) (H':Hp),H' l=some ob->jy X.K aj g' H' l b [])->tW X.K aj W fo σ (upd H l ob) (λx H2=>∃a C dx fs,x=.ref a/\H2 a=some (.ins C dx fs)/\Cls X.K C/\NoAttr X.K C f/\fs.length < 1000/\D.nx σ (upd H2 a (.ins C dx (putF f (.ref l) fs)))):=by
  intro l ob nl mu at';obtain⟨gr,I1,tb,ow,mm⟩:=Mv I nl (Ex.new nl) upd_same mu;unfold NT at z;have k1:=Out.iV (dw (σ:=σ) z);refine tW.go I1 (k1.mono (λ_ y=>y) λx y H' c dd ex rx=>y H' _ c dd (gr.trans (Gr.ex ex)) (I1.ex ex) rx) λod u H2 k2 e2 ru=>?_;have I2:=I1.ex e2;split at k2
  ·next h i hi=>
   split at k2
   ·next hb=>
    rw[arP]at hb;obtain⟨a,C,dx,fs,_,m1,m2,ha,rfl,c1,c2,c3,c4,c5,c6⟩:=Gx co fk I2.wok ru hi hb.1;have nla:l≠a:=λz=>by
     subst z;cases I2.wok.inj _ _ _ ha tb;rw[mm]at m1;cases m1;exact m2 rfl
    refine⟨a,C,dx,fs,rfl,c2,c4,c5,?_,?_⟩
    ·have:=atp hb.2;rw[c3.len];omega
    ·have ch:=Vu (f:=f) (C:=C) (dx:=dx) (fs':=putF f (.ref l) fs) I2.kd I2.wok ha m1 m2 tb mm ow;have w':=I2.wok.chg I2.kd ch ha m1 m2 c6 c1 c3 upd_same (v:=.ref l) (fl:=.dic b []) ⟨l,rfl,if_pos rfl,at' _ _ (by rw[upd_ne nla];exact e2 _ _ upd_same)⟩;exact k2 σ _ _ ((gr.trans (Gr.ex e2)).trans ch.gc.gr) (I2.chg ch w')
   ·exact atn k2
  ·exact atn k2
 intro l nl;cases b with
 |false=>exact core l _ nl trivial λg' H' h=>⟨[],h,rfl,.nil⟩
 |true=>exact λob nd=>core l _ nl trivial λg' H' h=>⟨ob,[],[],h,by rw[hw];exact nd,rfl,.nil,.nil,.nil⟩
end
def ajb(X:Cx)(D:Addr)(vs:List Nat)(g:TG)(tk:TE)(σ:L2.St)(Nx:Hp->Prop)(x:V)(H:Hp):Prop:=
 g x (L2.wipe σ vs) H λσ2 H2=>L2.wipe σ2 vs=L2.wipe σ vs/\tk σ2 H2 λy H4=>∃(o:Obj) (xs:List mY) (gg:Gh) (d:Dat) (b:Addr) (k:NestedKey),y=.ref b/\H4 D=some (iG D o)/\lF X.w D o xs/\aM X.K gg H4 (xs.map λx=>V.ref x.2.1) (xs.map λx=>x.1.data)/\Rep X.K gg H4 y d/\uh d=some k/\k.depth<=8/\xs.length < sizeLine/\
  ∀o',lF X.w D o' (storedH xs k b (.bool true))->Nx (upd H4 D (iG D o'))
def alk(X:Cx)(wi:TI)(g:TG)(tk:TE)(vs:List Nat):TE:=λσ H Q=>wi σ H λJ H1=>∀D,H1 D=none->∃W:Nat->Nat->Hp->Prop,(∃m,∀o,lF X.w D o []->W 0 m (upd H1 D (iG D o)))/\
 ∀i m H,W i m H->(J.stop i H/\Q (.ref D) H)∨(J.go i H/\∃Nx:Hp->Prop,(∀H',Nx H'->∃m',m' < m/\W (i+1) m' H')/\∀x H',J.yld i H x H'->ajb X D vs g tk σ Nx x H')
section
variable{X:Cx}
theorem af5{pins:List (Addr×Obj)}{σ:L2.St}{H:Hp}{s:Shared}{E:Value->Shared->Prop}{D b:Addr}{o:Obj}{xs:List mY}{gg:Gh}{d:Dat}{k:NestedKey}{u:Value}{Q:Unit->Shared->Prop}(hu:X.A.units+64 < cLine)(I:L2.Inv X pins σ H s)(hD:H D=some (iG D o))(n:lF X.w D o xs)(hr:aM X.K gg H (xs.map λx=>V.ref x.2.1) (xs.map λx=>x.1.data))(hk:Rep X.K gg H (.ref b) d)(hd:uh d=some k)(h8:k.depth<=8)(hz:xs.length < sizeLine)(ru:RelV (.bl true) u)
  (q:∀s' o',lF X.w D o' (storedH xs k b (.bool true))->L2.Inv X pins σ (upd H D (iG D o')) s'->Q () s'):wpAny (model X.prog X.w) X.A (dictSet D (.ref b) u) Q E s:=by
 obtain rfl:u=.bool true:=ru
 refine wpAny_dictSet_heap (knd:=nestedKind X.prog X.w) (k:=k) (hsz:=Nat.le_of_lt hz) (show X.A.units+8 < cLine by omega) ⟨key_is I hk hd rfl,h8⟩ (HJ I hD n rfl hr) ?_;intro h' dd hs';obtain⟨o',es,ep,g1,g2,g3,g4,g5,g6⟩:=dd;have nd:lF X.w D o' (storedH xs k b (.bool true)):=⟨n.sys,g2,⟨es,ep,g3,g4⟩,g6,by have:=Ry (xs:=xs) (k:=k) (b:=b) (u:=.bool true);omega,R9 n.dep h8⟩;exact q _ o' nd (d_write I (by rw[hD];exact True.intro) hs' ⟨o',g1⟩ (Mg g1))
theorem ajn{kx tg iter:Expr}{scope:Scope}{own:List (PySem.Str×Nat)}{pos vp:Pos}{vj:Nat}{wi:TI}{g:TG}{tk:TE}(hc:X.calm=true)(hN:X.N.Nodup)(hu:X.A.units+64 < cLine)(hi:PI X tg iter wi)(ok:BlkOk X.N X.env.scope scope own)
  (hg:∀(t:Shared) (G:Hp) (C:Addr) (cl:List (PySem.Str×Addr)) (fp:List Addr),PG (X.blk t G scope (compEnvC scope cl C X.env) fp) tg g)
  (hk:∀(t:Shared) (G:Hp) (C:Addr) (cl:List (PySem.Str×Addr)) (fp:List Addr),PE (X.blk t G scope (compEnvC scope cl C X.env) fp) kx tk) (hs:∀x,foldedSetIterable iter X.env x=pure x) :
  PE X (.DictComp kx (.Constant (.bool true) vj vp) [⟨tg,iter,[],0⟩] scope pos) (alk X wi g tk (own.map (·.2))):=by
 refine⟨λpins s σ H Q I h=>?_⟩;rw[arm_eval_DictComp];have cells:∀y∈scope.names,y.2=.free->∃c,X.env.cells.lookup y.1=some c:=λy hy e=>(ok.free y hy e).elim (λk=>I.ok.has _ (.inl k)) (λk=>I.ok.has _ (.inr k));refine wpAny_comprehension_free rfl hs (closure_ok cells) ok.kind (λy hy e=>by rw[ok.uniq y hy,e]) (thn (hi.run pins s σ H _ I h) λ_ _ hx=>thn hx λitv t0 h0=>?_);obtain⟨it,fp,tn,J,G0,rfl,I0,T,st0,f0,q⟩:=h0;refine wpAny_newObj_type (newEnv_comp ?_)
 -- the new dict,at D
 obtain⟨D,hD⟩:∃D,D=t0.heap.objs.size:=⟨_,rfl⟩;rw[←hD];obtain⟨W,⟨m0,w00⟩,turn⟩:=q D (I0.hok.fresh (Nat.le_of_eq hD.symm));obtain⟨ob,hob⟩:∃ob:Obj,ob={ cls:=.type "dict",data:=.dict #[] }:=⟨_,rfl⟩
 have nd0:lF X.w D ob []:=by rw[hob];exact⟨by rw[hD];exact beq_eq_false_iff_ne.mpr (Ne.symm (asw I0.big)),⟨rfl,rfl,rfl⟩,⟨#[],0,rfl,rfl⟩,atg,asJ _,λx hx=>absurd hx asz⟩
 have w0:=w00 ob nd0;rw[←hob];obtain⟨t1,ht1⟩:∃t1:Shared,t1={ t0 with heap:=t0.heap.push ob }:=⟨_,rfl⟩;obtain⟨G1,hG1⟩:∃G1,G1=upd G0 D (iG D ob):=⟨_,rfl⟩;rw[←hG1]at w0;have grow:∀b o,t0.heap.get? b=some o->t1.heap.get? b=some o:=λb o e=>by rw[ht1];exact Heap.get?_push_of_some _ e
 have I1:L2.Inv X pins σ G1 t1:=by rw[ht1,hG1];refine I0.laid (t':=t0.toks) (λb o e=>Heap.get?_push_of_some _ e) (Nat.le_of_eq hD.symm) (Mg ?_);rw[hD];exact Heap.get?_push_size _ (by rw[hob];rfl)
 have small:∀b∈fp,b < t0.heap.objs.size:=λb hb=>by
  obtain⟨o,e,_⟩:=T.obj _ _ st0 b hb;exact Heap.lt_size e
 have f1:∀b∈fp,FpOk X pins G1 b/\b < t1.heap.objs.size:=λb hb=>by
  have hlt:=small b hb;refine⟨⟨?_,(f0 b hb).2⟩,by rw[ht1];show b < (t0.heap.push ob).objs.size;rw[Heap.size_push];exact as7 hlt⟩;rw[hG1,upd_ne (by rw[hD];exact asw hlt)];exact(f0 b hb).1
 have st1:tn 0 t1.heap:=T.keep _ _ _ st0 λb _ o e=>grow b o e;have I2:=block_start I1 ok hN f1;have pg:=hg t1 G1 t1.heap.objs.size (cellsFrom (t1.heap.objs.size+1) scope.names (cloFrom X.env.cells scope.names [])) fp;have pk:=hk t1 G1 t1.heap.objs.size (cellsFrom (t1.heap.objs.size+1) scope.names (cloFrom X.env.cells scope.names [])) fp;have none1:∀b∈fp,G1 b=none:=λb hb=>(f1 b hb).1.1;rw[show({ t0 with heap:=t0.heap.push ob }:Shared)=t1 from ht1.symm];obtain⟨ce,hce⟩:∃ce,ce=compEnvC scope (cellsFrom (t1.heap.objs.size+1) scope.names (cloFrom X.env.cells scope.names [])) t1.heap.objs.size X.env:=⟨_,rfl⟩;rw[←hce]at I2 pg pk;have cL:ce.locals=t1.heap.objs.size:=by rw[hce];rfl
 obtain⟨t2,ht2⟩:∃t2:Shared,t2={ t1 with heap:=pushCells (t1.heap.push { cls:=.type "dict",data:=.dict #[] }) scope.names }:=⟨_,rfl⟩
 rw[←ht2]at I2;have st2:tn 0 t2.heap:=T.keep _ _ _ st1 λb _ o e=>by rw[ht2];exact pushCells_keeps _ _ _ _ (Heap.get?_push_of_some _ e)
 have still:∀{σ':L2.St} {G':Hp} {t':Shared},L2.Inv (X.blk t1 G1 scope ce fp) [] σ' G' t'->(∀b∈fp,G' b=none)->∀b∈fp,FpOk (X.blk t1 G1 scope ce fp) [] G' b:=λI' hn b hb=>
  ⟨hn b hb,(I'.ok.exf b hb).1,I'.ok.exfs b hb,.inl hb,λx c e=>(I'.ok.exf b hb).2 x c e,λp hp=>absurd (show p∈([]:List (Addr×Obj))++[] from hp) (by simp)⟩
 have pt:PTs (X.blk t1 G1 scope ce fp) [] tYes:=pts_nil;have pv:PE (X.blk t1 G1 scope ce fp) (.Constant (.bool true) vj vp) (tC (.bl true)):=pe_bl;have loop:codeAny (model X.prog X.w) X.A (.compLoop (.DictComp kx (.Constant (.bool true) vj vp) [⟨tg,iter,[],0⟩] scope pos) 0 (.ref it) (.ref D) ce) (compPost (model X.prog X.w) X.A X.xe none (EP X pins σ Q) (.ref D) t1.heap.objs.size) t2:=by
  refine compLoop_anyD (λn t'=>∃i G',L2.Inv (X.blk t1 G1 scope ce fp) [] (L2.wipe σ (own.map (·.2))) G' t'/\tn i t'.heap/\(∀b∈fp,G' b=none)/\W i n G') ?_ m0 ⟨0,G1,I2,st2,none1,w0⟩;rintro n t3 ⟨i,G3,I3,st3,n3,w3⟩;rcases turn i n G3 w3 with⟨stop,fin⟩|⟨go,Nx,hNx,step⟩
  ·refine thnF (T.done (X.blk t1 G1 scope ce fp) rfl rfl rfl hc i [] t3 _ G3 (λ_ _=>False) I3 (still I3 n3) st3 stop) λr t4 ⟨hr,I4⟩=>?_;subst hr;have I5:L2.Inv X pins σ G3 t4:=I1.call' (ch:=fp) I4.os I4.base I4.hok I4.bare λb hb=>⟨(f1 b hb).1.2.2.2.1,(f1 b hb).1.2.1,(f1 b hb).1.2.2.2.2.1,(f1 b hb).1.2.2.2.2.2⟩;have nC:G3 t1.heap.objs.size=none:=by rw[←cL];exact I4.free
   obtain⟨m,hn,_⟩:=I4.loc;have hn':t4.heap.Ns t1.heap.objs.size m:=by rw[←cL];exact hn
   obtain⟨a0,a1,_,a3,a4,a5⟩:=I1.fpOk (asn _) nC;exact⟨m,hn',λh'' sb=>⟨.ref D,G3,I5.turned (t':=t4.toks) (λb o hb e=>(sb.2 b hb).trans e) a0 a1 a3 a4 a5,rfl,fin⟩⟩
  ·refine thnF (T.item (X.blk t1 G1 scope ce fp) rfl rfl rfl hc i [] t3 _ G3 (λ_ _=>False) I3 (still I3 n3) st3 go) λr t4 ⟨u,hr,h4⟩=>?_;subst hr;refine thnF h4 λ_ t5 ⟨x,G5,I5,r5,y5,st5,n5⟩=>?_;refine thnF (pg.run _ t5 _ G5 x u _ (I5.pinned (still I5 n5) (T.obj _ _ st5)) r5 (step x G5 y5)) λ_ t6 ⟨σ6,G6,I6,hw6,q6⟩=>?_;refine thnF (pt.run _ t6 σ6 G6 (λb G=>b=true/\G=G6) I6 ⟨rfl,rfl⟩) λb t7 ⟨G7,I7,hb7,hG7⟩=>?_;subst hb7 hG7;have over:∀{t':Shared} {G':Hp},L2.Inv (X.blk t1 G1 scope ce fp) ([]++pinsAt fp t5.heap) σ6 G' t'->Nx G'->∃m,m < n/\∃i G',L2.Inv (X.blk t1 G1 scope ce fp) [] (L2.wipe σ (own.map (·.2))) G' t'/\tn i t'.heap/\(∀b∈fp,G' b=none)/\W i m G':=λ{t' G'} I' nx=>by
    obtain⟨m',hm,w'⟩:=hNx G' nx;have pin:∀b∈fp,∀o,t5.heap.get? b=some o->t'.heap.get? b=some o/\G' b=none:=λb hb o e=>
     let z:=I'.pin (b,o) (asM _ (asM _ (mem_pinsAt hb e)))
     ⟨z.1,z.2.1⟩
    refine⟨m',hm,i+1,G',(I'.unpinned (pins:=[])).weak (by rw[←hw6,wipe_length]) (λj v e=>?_),T.keep _ _ _ st5 λb hb o e=>(pin b hb o e).1,λb hb=>?_,w'⟩
    ·rw[←hw6]at e;exact(wipe_some e).1
    ·obtain⟨o,e,_⟩:=T.obj _ _ st5 b hb;exact(pin b hb o e).2
   simp only[if_true];refine thnF (pk.run _ t7 σ6 _ _ I7 q6) λz t8 ⟨yv,G8,I8,r8,o8,xs8,g8,d8,b8,k8,ey,hD8,n8,hr8,hk8,hd8,h88,hz8,nx⟩=>?_;subst ey
   obtain rfl:z=Value.ref b8:=r8
   refine thnF (pv.run _ t8 σ6 G8 (λv G=>v=.bl true/\G=G8) I8 ⟨rfl,rfl⟩) λz2 t9 ⟨y9,G9,I9,r9,hv9,hG9⟩=>?_;subst hv9 hG9;exact af5 (X:=X.blk t1 G1 scope ce fp) hu I9 hD8 n8 hr8 hk8 hd8 h88 hz8 r9 λs' o' nd I10=>over I10 (nx o' nd)
 have done:=codeAny_compStart_dict loop (T.self X.A 0 _ _ _ st2 loop);rw[hce,ht2]at done;subst hob;exact done
end
def Fd(tg:fO)(tk:QF)(M:Mo)(Z:Env):List Dat->List (Dat×Dat)->Out (List (Dat×Dat))
 |[],acc=>.ok acc
 |d::ds,acc=>match tg d Z with
  |none=>.bad
  |some Z1=>(yD (tk M Z1)).bind λkd=>(dhas true acc kd).bind λr=>Fd tg tk M Z ds (match r with
   |true=>acc
   |false=>acc++[(kd,.bool true)])
def qDc(it:IF)(tg:fO)(vs:List Nat)(tk:QF):Mo->Env->Out (List (Dat×Dat)):=λM Z=>(it M Z).bind λds=>Out.when (decide (ds.length<=50000)) (Fd tg tk M (cC Z vs) ds [])
def ajy(K:arO)(aj:aR)(W:WX)(f:Mo->Env->Out (List (Dat×Dat))):TE:=λσ H Q=>∃g Z M,SInv K aj σ H g Z M/\(f M Z).sat (λkvs=>∀l o H',H l=none->Ex H H'->H' l=some (iG l o)->jy K aj (g.add l) H' l true kvs->Q (.ref l) H') (rG K aj W g H σ)
section
variable{X:Cx}{aj:aR}{W:WX}
theorem Wb{tg:fO}{tk:QF}{M:Mo}{Z:Env}:∀{ds:List Dat} {acc:List (Dat×Dat)} {x:dG},Fd tg tk M Z ds acc≠.exc x
 |[],_,_,h=>nomatch h
 |d::ds,acc,x,h=>by
  rw[Fd]at h;split at h
  ·cases h
  ·next Z1 e=>
   cases h1:tk M Z1 with
   |bad=>rw[h1]at h;cases h
   |exc y=>rw[h1]at h;cases h
   |ok kd=>
    rw[h1]at h;have h:((dhas true acc kd).bind λr=>Fd tg tk M Z ds (match r with
     |true=>acc
     |false=>acc++[(kd,.bool true)]))=.exc x:=h
    cases h2:dhas true acc kd with
    |bad=>rw[h2]at h;cases h
    |exc y=>
     unfold dhas at h2;split at h2
     ·cases h2
     ·split at h2
      ·split at h2<;>cases h2
      ·cases h2
     ·cases h2
    |ok r=>
     rw[h2]at h;exact Wb h
theorem agm{xs:List mY}{k:NestedKey}(h:∀x∈xs,x.2.2=.bool true):xs.map (putAt k (.bool true))=xs:=by
 have:∀x∈xs,putAt k (.bool true) x=x:=λx hx=>by
  unfold putAt;split
  ·obtain⟨a,b,c⟩:=x;have:c=.bool true:=h _ hx;rw[this]
  ·rfl
 calc xs.map (putAt k (.bool true))=xs.map id:=List.map_congr_left this
  _=xs:=List.map_id xs
theorem aby:∀{xs:List mY},(∀x∈xs,x.2.2=.bool true)->Vals (List.replicate xs.length (.bl true)) (xs.map (·.2.2))
 |[],_=>.nil
 |x::xs,h=>by
  rw[ar6,List.replicate_succ,arT,h x arU];exact .cons rfl (aby λy hy=>h y (arS _ hy))
theorem abQ{K:arO}{g:Gh}{H:Hp}:∀{kvs:List (Dat×Dat)} {n:Nat},n=kvs.length->(∀p∈kvs,p.2=.bool true)->aM K g H (List.replicate n (.bl true)) (kvs.map (·.2))
 |[],_,h,_=>by subst h;exact .nil
 |p::kvs,_,e,h=>by
  subst e;rw[ar6,List.replicate_succ,arT,h p arU];exact .cons (.bl true) (abQ rfl λy hy=>h y (arS _ hy))
theorem al4{it:IF}{tg:fO}{js vs:List Nat}{tk:QF}(hw:aj.w=X.w)(hj:∀j∈js,j∈vs)(σ:L2.St)(H:Hp)(Q:VK)(h:ajy X.K aj W (qDc it tg vs tk) σ H Q) :
  alk X (tI X.K aj W false it) (Av X.K aj js tg) (tQ X.K aj WF tk) vs σ H Q:=by
 obtain⟨g,Z,M,I,h⟩:=h;refine⟨g,Z,M,I,h.bnd.mono (λds hk J C H1 e1 w c _ D nD=>?_) λ_ z=>z⟩;obtain⟨hz,hk⟩:=hk.pJ;have hlen:=atp hz;obtain⟨total,htot,hQ⟩:∃total,Fd tg tk M (cC Z vs) ds []=.ok total/\∀l o H',H l=none->Ex H H'->H' l=some (iG l o)->jy X.K aj (g.add l) H' l true total->Q (.ref l) H':=by
  cases hc:Fd tg tk M (cC Z vs) ds [] with
  |bad=>rw[hc]at hk;exact atn hk
  |exc x=>exact absurd hc Wb
  |ok total=>
   rw[hc]at hk;exact⟨total,rfl,hk⟩
 have I1:=(I.ex e1).wipe vs;have kD:∀{Ha:Hp} {o:Obj},Ex H1 Ha->Ha D=some (iG D o)->SInv X.K aj (L2.wipe σ vs) Ha (g.add D) (cC Z vs) M:=λea hu=>I1.add nD ea hu trivial
 let Pv:Nat->Hp->Prop:=λi Ha=>Ex H1 Ha/\i<=ds.length/\∃o xs acc,Ha D=some (iG D o)/\lF X.w D o xs/\acc.map (·.1)=xs.map (λx=>x.1.data)/\aM X.K (g.add D) Ha (xs.map λx=>V.ref x.2.1) (acc.map (·.1))/\(∀x∈xs,x.2.2=.bool true)/\(∀p∈acc,p.2=.bool true)/\acc.length<=i/\Fd tg tk M (cC Z vs) (ds.drop i) acc=.ok total
 refine⟨λi m Ha=>m=ds.length - i/\Pv i Ha,⟨ds.length,λo n0=>⟨rfl,Ex.new nD,asJ _,o,[],[],upd_same,n0,rfl,.nil,λx hx=>absurd hx asz,λx hx=>absurd hx asz,asn _,by rw[atl];exact htot⟩⟩,?_⟩;rintro i m Ha ⟨rfl,ea,hi,o,xs,acc,hu,nd,hK,hR,hT,hA,hy,hs⟩;have Ia:=kD ea hu;have Ca:=w.add g (g.add D) H1 Ha (I.kd.ex e1) c (Gh.FZ nD ea) ea;have lxs:xs.length=acc.length:=by have:=congrArg List.length hK;simpa using this.symm
 by_cases hlt:i < ds.length
 ·refine .inr ⟨w.go _ i Ha Ca hlt,Pv (i+1),λH' p=>⟨ds.length - (i+1),by omega,rfl,p⟩,λx H' y=>?_⟩;have hd:ds[i]?=some ds[i]:=arR hlt;obtain⟨e2,rx⟩:=w.yld _ i Ha x H' _ Ia.kd Ca hd y;have I2:=Ia.ex e2;rw[asU hlt,Fd]at hs;split at hs
  ·cases hs
  ·next Z1 he=>
   refine⟨g.add D,_,M,_,Z1,I2,rx,he,λws I3=>⟨Ak js ws _ vs hj |>.trans (Ei σ vs),?_⟩⟩;cases htk:tk M Z1 with
   |bad=>rw[htk]at hs;cases hs
   |exc z=>rw[htk]at hs;cases hs
   |ok kd=>
    rw[htk]at hs;have hs:((dhas true acc kd).bind λr=>Fd tg tk M (cC Z vs) (ds.drop (i+1)) (match r with
     |true=>acc
     |false=>acc++[(kd,.bool true)]))=.ok total:=hs
    refine⟨g.add D,Z1,M,I3,?_⟩;rw[htk];intro v H4 e4 ry;have I4:=I3.ex e4;have hu4:=e4 _ _ (e2 _ _ hu);have hR4:=(hR.ex e2 Ia.kd).ex e4 I2.kd;cases hh:dhas true acc kd with
    |bad=>rw[hh]at hs;cases hs
    |exc z=>rw[hh]at hs;cases hs
    |ok r=>
     rw[hh]at hs;obtain⟨ha2,hcase⟩:=Uz hh;rcases hcase with⟨z,_⟩|⟨_,dd,kk,rfl,hkk,hdep⟩
     ·cases z
     ·have ek:=zX hkk;rw[←ek,Jr hK]at ha2;have hRx:=hR4;rw[hK]at hRx;cases ry with
      | @tup bb us _ hs' ht=>
       refine⟨o,xs,g.add D,_,bb,kk,rfl,hu4,nd,hRx,.tup hs' ht,hkk,hdep,sz_lt (by omega),λo' nd'=>?_⟩;have eD:Ex H1 (upd H4 D (iG D o')):=Ex.mut ((ea.trans e2).trans e4) nD;have lD:(g.add D).Lo D:=.inr rfl;have up:Gr true (g.add D) (g.add D) H4 (upd H4 D (iG D o')):=Gr.upd I4.kd hu4 (.inr lD);cases r with
       |true=>
        obtain⟨q,hq⟩:=Option.isSome_iff_exists.mp ha2;rw[storedH_old hq,agm hT]at nd';exact⟨eD,hlt,o',xs,acc,upd_same,nd',hK,hR4.gr up I4.kd,hT,hA,by omega,hs⟩
       |false=>
        have hn:atKey xs kk=none:=by
         cases hv:atKey xs kk with
         |none=>rfl
         |some _=>rw[hv]at ha2;cases ha2
        rw[storedH_new hn]at nd';have hs:Fd tg tk M (cC Z vs) (ds.drop (i+1)) (acc++[(.tuple dd,.bool true)])=.ok total:=hs;refine⟨eD,hlt,o',xs++[(kk,bb,.bool true)],acc++[(.tuple dd,.bool true)],upd_same,nd',by simp[hK,ek],?_,?_,?_,by simp;omega,hs⟩
        ·rw[List.map_append,List.map_append];exact(hR4.gr up I4.kd).back ((Rep.tup hs' ht).gr up I4.kd)
        ·intro x hx;rcases ar0.mp hx with z|z
         ·exact hT x z
         ·rw[arV.mp z]
        ·intro x hx;rcases ar0.mp hx with z|z
         ·exact hA x z
         ·rw[arV.mp z]
 ·have e:i=ds.length:=by omega
  refine .inl ⟨w.stop _ i Ha Ca e,?_⟩;rw[e,as4]at hs;cases hs;exact hQ D o Ha (Ds e1 D nD) (e1.trans ea) hu ⟨o,xs,List.replicate xs.length (.bl true),hu,by rw[hw];exact nd,hK,hR,aby hT,abQ lxs hA⟩
def SM(ft:Ft)(o:QF)(f:Str)(e:Mo->Env->Out (List (Dat×Dat))):SF:=λM Z=>((e M Z).at M).then Z λkvs _=>((o (M++[⟨"",[]⟩]) Z).at (M++[⟨"",[]⟩])).then Z λod M2=>match j6 M2 od with
 |some (h,i)=>match ft.has i.cls f&&decide (i.fs.length < 100) with
  |true=>.next Z (M2.set h (i.put f (.dic true kvs)))
  |false=>.bad
 |none=>.bad
end
theorem aas{K:arO}{g:Gh}{H:Hp}{l:Addr}{vs:List V}{ds:List Dat}(h:aM K (g.add l) H vs ds):aM K (g.push l) H vs ds:=aM.mv (g:=g.add l) (g':=g.push l) (λh a z=>by
  have z:g.tbl[h]?=some a:=z
  show(g.tbl++[l])[h]?=some a
  rw[ar3 (arQ.mp z).1];exact z) (λa z=>by
  rcases Yo z with z|rfl
  ·rcases z with z|z|z
   ·exact .inl z
   ·exact .inr (.inl z)
   ·exact .inr (.inr (show g.Lo a∨a=l from Or.inl z))
  ·exact .inr (.inr (show g.Lo a∨a=a from Or.inr rfl))) h
section
variable{X:Cx}{aj:aR}{W:WX}{o e:Expr}{f:Str}{pos pos':Pos}{ft:Ft}{fo:QF}
theorem ahy{fe:Mo->Env->Out (List (Dat×Dat))}{te:TE}(co:jm X.K aj)(fk:Ly ft aj)(ho:QW aj X W o fo)(he:PE X e te)(hte:∀σ H Q,ajy X.K aj W fe σ H Q->te σ H Q)(hs:swapsWith e (some (.Attribute o f pos')) pos.line X.env=pure false):SE aj X W false (.Assign [.Attribute o f pos'] e pos) (SM ft fo f fe):=by
 refine PS.weak (ps_fld ho he hs) λD σ H ⟨g,Z,M,I,z⟩=>hte σ H _ ⟨g,Z,M,I,?_⟩;unfold SM at z;cases hf:fe M Z with
 |exc x=>rw[hf]at z;exact λH' c dd e r=>z σ H' g c dd (Gr.ex e) (I.ex e) r.fr
 |bad=>rw[hf]at z;exact atn z
 |ok kvs=>
  rw[hf]at z;intro l ob H1 nl e1 hl dic;obtain⟨gr,I1,tb,ow,mm⟩:=Mv I nl e1 hl trivial;have dic1:jy X.K aj (g.push l) H1 l true kvs:=by obtain⟨o',xs,vs,q1,q2,q3,q4,q5,q6⟩:=dic;exact⟨o',xs,vs,q1,q2,q3,aas q4,q5,aas q6⟩
  have z:(((fo (M++[⟨"",[]⟩]) Z).at (M++[⟨"",[]⟩])).then Z λod M2=>match j6 M2 od with
   |some (h,i)=>match ft.has i.cls f&&decide (i.fs.length < 100) with
    |true=>.next Z (M2.set h (i.put f (.dic true kvs)))
    |false=>.bad
   |none=>.bad).sat (sN X.K aj false D.nx g H) (sR X.K aj false D.rt g H) (sN X.K aj false D.bk g H) (sN X.K aj false D.ct g H) (sX X.K aj W false g H):=z
  have k1:=Out.iV (dw (σ:=σ) z);refine tW.go I1 (k1.mono (λ_ y=>y) λx y H' c dd ex rx=>y H' _ c dd (gr.trans (Gr.ex ex)) (I1.ex ex) rx) λod u H2 k2 e2 ru=>?_;have I2:=I1.ex e2;split at k2
  ·next h i hi=>
   split at k2
   ·next hb=>
    rw[arP]at hb;obtain⟨a,C,dx,fs,_,m1,m2,ha,rfl,c1,c2,c3,c4,c5,c6⟩:=Gx co fk I2.wok ru hi hb.1;have nla:l≠a:=λz=>by
     subst z;cases I2.wok.inj _ _ _ ha tb;rw[mm]at m1;cases m1;exact m2 rfl
    refine⟨a,C,dx,fs,rfl,c2,c4,c5,?_,?_⟩
    ·have:=atp hb.2;rw[c3.len];omega
    ·have ch:=Vu (f:=f) (C:=C) (dx:=dx) (fs':=putF f (.ref l) fs) I2.kd I2.wok ha m1 m2 tb mm ow;have w':=I2.wok.chg I2.kd ch ha m1 m2 c6 c1 c3 upd_same (v:=.ref l) (fl:=.dic true kvs) ⟨l,rfl,if_pos rfl,jy.chg ch.gc.gr I2.kd (upd_ne nla) (dic1.ex e2 I1.kd)⟩;exact k2 σ _ _ ((gr.trans (Gr.ex e2)).trans ch.gc.gr) (I2.chg ch w')
   ·exact atn k2
  ·exact atn k2
end
end Rf
namespace Ear
open PySem PySem.Spec PyProof.Rows L2 Evl RZ
abbrev xX(K:arO)(H:Hp)(v:V)(r:Rw):Prop:=Dp K H v (rD r)
@[irreducible]def Lq (K:arO) (w:World):List V->Hp->VK->Prop:=λvs H Q=>∃(l:Addr) (ws:List V) (R D:List Rw),vs=[V.ref l]/\SqL K H l ws/\fB (xX K H) ws R/\D.length<=76/\(∀r∈R,r∈D)/\
 ∀(p:Addr) (L:List Ent),H p=none->(∀e∈L,xX K H (.ref e.1) e.2)->(L.map Prod.snd).Nodup->(∀r,r∈L.map Prod.snd↔r∈R)->L.length<=76->Q (.ref p) (upd H p (Nz w p L))
@[irreducible]def PL (K:arO) (w:World):List V->Hp->VK->Prop:=λvs H Q=>∃(a:Addr) (L:List Ent),vs=[V.ref a]/\H a=some (Nz w a L)/\(∀e∈L,xX K H (.ref e.1) e.2)/\(L.map Prod.snd).Nodup/\L.length<=76/\
 ∀(ys:List V) (M:List Rw) (p:Addr),fB (xX K H) ys M->Hl M->(∀r,r∈M↔r∈L.map Prod.snd)->H p=none->Q (.ref p) (upd H p (.lst ys))
section
variable{X:Cx}
theorem afj{pins:List (Addr×Obj)}{σ:L2.St}{H:Hp}{s:Shared}(I:Inv X pins σ H s){t:Addr}{r:Rw}(h:xX X.K H (.ref t) r):RI s.heap r t:=by
 refine⟨?_,by rw[agu];decide⟩;unfold xX rD dT at h;cases h with
 |tup h1 t1=>
  cases t1 with
  |cons a1 t1=>
   cases t1 with
   |cons a2 t1=>
    cases t1;cases a1;cases a2 with
    |tup h2 t2=>
     obtain⟨us,rv,⟨o,ho,hc,n,hd⟩,_⟩:=I.tuple h1;obtain⟨us2,rv2,⟨o2,ho2,hc2,n2,hd2⟩,_⟩:=I.tuple h2;refine .tup ho hc hd ?_;cases rv with
     |cons r1 rv=>
      cases rv with
      |cons r2 rv=>
       cases rv;obtain⟨tk,rfl⟩:=r1;cases r2;have e:∀{vs:List V} {l:List Int},DpAll X.K H vs (l.map PyData.int)->vs=l.map V.int:=by
        intro vs l
        induction l generalizing vs with
        |nil=>intro z;cases z;rfl
        |cons i l ih=>
         intro z;cases z with
         |cons b1 b2=>
          cases b1;rw[ih b2];rfl
       rw[e t2]at rv2;exact .cons (.int r.1 tk) (.cons (.tup ho2 hc2 hd2 (by simpa using Wr (P:=X.prog) (w:=X.w) r.2 us2 rv2)) .nil)
theorem Tj{K:arO}{H:Hp}:∀(ws:List V) (R:List Rw),fB (xX K H) ws R->∃ks:List Ent,ws=(ks.map λp=>V.ref p.1)/\ks.map Prod.snd=R/\∀p∈ks,xX K H (.ref p.1) p.2
 |[],[],_=>⟨[],rfl,rfl,by simp⟩
 |[],_::_,h=>nomatch h.1
 |_::_,[],h=>nomatch h.1
 |v::ws,r::R,h=>by
  obtain⟨ks,e1,e2,e3⟩:=Tj ws R ⟨asT h.1,λi v x a b=>h.2 (i+1) v x a b⟩;have hr:xX K H v r:=h.2 0 v r rfl rfl;have ev:∃t,v=.ref t:=by
   have z:=hr;unfold xX rD at z;cases z with
   |tup _ _=>exact⟨_,rfl⟩
  obtain⟨t,rfl⟩:=ev;refine⟨(t,r)::ks,by rw[arT,←e1],by rw[arT,e2],λp hp=>?_⟩;rcases ar4.mp hp with e|hp
  ·rw[e];exact hr
  ·exact e3 p hp
theorem aaL(hu:X.A.units+65 < cLine)(hc:X.calm=true):CallR X (.type "set") (Lq X.K X.w):=by
 intro pins s σ H vs us Q I r h;unfold Lq at h;obtain⟨l,ws,R,D,rfl,hl,hA,hD,hRD,q⟩:=h;rw[Vals.ref1 r];obtain⟨ks,e1,e2,e3⟩:=Tj ws R hA;obtain⟨its,rv,pl,hz⟩:=I.list hl;rw[e1]at rv;have mem:∀p∈ks,p.2∈R:=λp hp=>by
  rw[←e2];exact arY.mpr ⟨p,hp,rfl⟩
 have hn:H s.heap.objs.size=none:=I.hok.fresh (asn _);refine aaV (P:=X.prog) (w:=X.w) (hf:=λr=>(nZ X.prog X.w).hash r) (λ_=>rfl) ks D hD (λp hp=>hRD _ (mem p hp)) (I.ok.hd hc) pl.isList (by simpa using VL rv) (λp hp=>afj I (e3 p hp)) (by omega) λh' tk L es ep t S g k=>?_;have fitL:t.fits es.size=true:=qD.fits (s:={ s with heap:=h',toks:=tk }) S;have new:ObjOk X.prog X.w (upd H s.heap.objs.size (Nz X.w s.heap.objs.size L)) h' s.heap.objs.size (Nz X.w s.heap.objs.size L):=by obtain⟨o,ho,hr⟩:=S.ob;refine⟨⟨_,es,ep,t,S.ob,S.en,fitL,S.tab.ris,S.ld⟩,⟨o,ho⟩,λh1 h2 z k2=>?_⟩;obtain⟨hf2,es2,ep2,t2,⟨o2,ho2,hr2⟩,rest⟩:=(show ab2 X.w h1 s.heap.objs.size L from z);exact⟨hf2,es2,ep2,t2,⟨o2,k2 o2 ho2,hr2⟩,rest⟩
 refine⟨.ref s.heap.objs.size,upd H s.heap.objs.size (Nz X.w s.heap.objs.size L),I.laid (t':=tk) k (asn _) new,rfl,q _ L hn (λe he=>e3 e (as9 (g.sub e he))) S.nd (λr=>⟨λm=>?_,λm=>?_⟩) S.few⟩
 ·obtain⟨e,he,e5⟩:=arY.mp m;rw[←e5];exact mem e (as9 (g.sub e he))
 ·rw[←e2]at m;obtain⟨p,hp,e5⟩:=arY.mp m;rw[←e5];exact g.all p (by rw[List.take_length];exact hp)
theorem acZ(hu:X.A.units+65 < cLine)(hc:X.calm=true):CallR X (.builtin "sorted") (PL X.K X.w):=by
 intro pins s σ H vs us Q I r h;unfold PL at h;obtain⟨a,L,rfl,ha,hL,nd,few,q⟩:=h;rw[Vals.ref1 r];obtain⟨hf,es,ep,t,⟨o,ho,hex,hd⟩,en,fit,ris,led⟩:ab2 X.w s.heap a L:=(I.hok a _ ha).1;have len:=yW en;have ev:∀K:List Ent,(∀p∈K,p∈L)->PySem.W.EachIs (λv (r:Rw)=>(∃p∈L,v=Value.ref p.1/\r=p.2)/\∃as,Reads s.heap v (rD r) as) ((ents hf K).map (·.2)) (K.map Prod.snd):=by
  intro K
  induction K with
  |nil=>exact λ_=>.nil
  |cons p K ih=>
   intro hK;have hp:=hK p arU;exact .cons ⟨⟨p,hp,rfl,rfl⟩,Dp.reads I (rD p.2) (.ref p.1) (.ref p.1) (hL p hp) rfl⟩ (ih λx hx=>hK x (arS _ hx))
 refine aaX (enc:=rD) (bs:=L.map Prod.snd) (I.ok.hd hc) ⟨o,ho,hex.1,hd⟩ fit (by unfold scanBound;omega) ris led (by rw[en];exact ev L λp hp=>hp) (PySem.W.AllAlike.of VF) (PySem.W.Sortable.tuples λb=>⟨_,_,rfl⟩) (λb _=>by rw[(ac7 b).2];omega) λs' p out c cs k g' o' hp hg pc eo=>?_;have mp:=List.mergeSort_perm cs (PySem.W.dataLe false rD);have ndm:(cs.mergeSort (PySem.W.dataLe false rD)).Nodup:=(mp.trans pc).nodup_iff.mpr nd;have srt:=atb (le:=PySem.W.dataLe false rD) (λa b c k1 k2=>by rw[K7,ato]at *;exact List.le_trans k1 k2) (λa b=>by rw[K7,K7,atd,ato,ato];exact List.le_total _ _) cs;generalize cs.mergeSort (PySem.W.dataLe false rD)=M at mp ndm srt eo;obtain⟨ys,v1,v2⟩:=W7 out M eo;have up:Hl M:=by
  refine List.Pairwise.imp₂ (λa b h1 h2=>?_) srt ndm;rw[K7,ato]at h1;by_cases c:rk a < rk b
  ·exact c
  ·exact absurd (Zk (List.le_antisymm h1 (List.not_lt.mp c))) h2
 have hfr:H p=none:=I.hok.fresh hp;have hlen:ys.length<=sizeLine:=by rw[v2.1,mp.length_eq,pc.length_eq,arZ,sizeLine_eq];omega
 have J:Inv X pins σ (upd H p (.lst ys)) { s with heap:=s'.heap,gens:=s'.gens,drawn:=s'.drawn,toks:=s'.toks }:=
  I.call (ch:=[]) (Un.laid k hp hfr) (I.hok.laid k hp ⟨hlen,out,c,v1,hg⟩) (by rw[g'];exact I.bare) (λ_ z=>nomatch z)
 have es':s'={ s with heap:=s'.heap,gens:=s'.gens,drawn:=s'.drawn,toks:=s'.toks }:=by cases s';cases s;cases o';rfl
 rw[es'];refine⟨.ref p,_,J,rfl,q ys M p (v2.imp λv r ⟨e,he,h1,h2⟩=>?_) up (λr=>(mp.trans pc).mem_iff) hfr⟩;subst h1 h2;exact hL e he
end
end Ear
namespace Rf
open PySem PySem.Spec PyProof.Rows L2 Evl
def aco:Dat->Option Ear.Rw
 |.tuple [.int o,.tuple ds]=>(intsOf ds).map λl=>(o,l)
 |_=>none
def BK:List Dat->Option (List Ear.Rw)
 |[]=>some []
 |d::ds=>(aco d).bind λr=>(BK ds).bind λrs=>some (r::rs)
theorem Kz:∀{ds:List Dat} {l:List Int},intsOf ds=some l->ds=l.map PyData.int
 |[],l,h=>by cases h;rfl
 |.int i::ds,l,h=>by
  rw[intsOf,asx]at h;obtain⟨r,h1,rfl⟩:=h;rw[Kz h1];rfl
 |.none::_,_,h=>by cases h
 |.bool _::_,_,h=>by cases h
 |.str _::_,_,h=>by cases h
 |.list _::_,_,h=>by cases h
 |.tuple _::_,_,h=>by cases h
 |.dict _::_,_,h=>by cases h
theorem ahN{d:Dat}{r:Ear.Rw}(h:aco d=some r):d=Ear.rD r:=by
 unfold aco at h;split at h
 ·next o ds=>
  rw[asx]at h;obtain⟨l,h1,rfl⟩:=h;rw[Kz h1];rfl
 ·cases h
theorem PN:∀{ds:List Dat} {rs:List Ear.Rw},BK ds=some rs->ds=rs.map Ear.rD
 |[],_,h=>by cases h;rfl
 |d::ds,_,h=>by
  rw[BK]at h;obtain⟨r,h1,h⟩:=arN.mp h;obtain⟨rs,h2,h⟩:=arN.mp h;cases h;rw[ahN h1,PN h2];rfl
def pA(R:List Ear.Rw):List Ear.Rw:=R.mergeSort λa b=>decide (Ear.rk a<=Ear.rk b)
def sortI(l:List Int):List Int:=l.mergeSort λa b=>decide (a<=b)
def bM(R:List Ear.Rw):List Ear.Rw:=pA R.eraseDups
def agM(l:List Int):List Int:=sortI l.eraseDups
theorem Zx:∀(n:Nat) (l:List Int),lZ n (l.map PyData.int)=true:=λn l=>by
 induction l with
 |nil=>rfl
 |cons i l ih=>simp[lZ,okd,ih]
theorem Lz(n:Nat)(r:Ear.Rw):okd (n+2) (Ear.rD r)=true:=by unfold Ear.rD Ear.dT;simp[okd,lZ,Zx]
theorem abJ(n:Nat)(R:List Ear.Rw):lZ (n+2) (R.map Ear.rD)=true:=by
 induction R with
 |nil=>rfl
 |cons r R ih=>simp[lZ,Lz,ih]
def zQ:Dat->Out Dat
 |.list ds=>match intsOf ds with
  |some l=>.ok (.list ((sortI l).map PyData.int))
  |none=>match BK ds with
   |some R=>.ok (.list ((pA R).map Ear.rD))
   |none=>.bad
 |_=>.bad
def RB:Dat->Out Dat
 |.list ds=>match BK ds with
  |some R=>match decide (R.eraseDups.length<=76) with
   |true=>.ok (.list ((bM R).map Ear.rD))
   |false=>.bad
  |none=>.bad
 |_=>.bad
theorem Wy{β:Type}{enc:β->Dat}{le:β->β->Bool}(h:∀a b,PySem.W.dataLe false id (enc a) (enc b)=le a b)(l:List β):(l.map enc).mergeSort (PySem.W.dataLe false id)=(l.mergeSort le).map enc:=by rw[List.map_mergeSort (r:=le) (s:=PySem.W.dataLe false id) (λa _ b _=>(h a b).symm)]
theorem Bo{α:Type}[BEq α][LawfulBEq α]{l:List α}{x:α}:x∈l.eraseDups↔x∈l:=by
 induction hn:l.length using Nat.strongRecOn generalizing l with
 |_ n ih=>
  cases l with
  |nil=>simp
  |cons a r=>
   rw[ata];simp only[ar6]at hn;have hl:(r.filter λb=>!b==a).length<=r.length:=ar7 _ _;rw[ar4,ih _ (by omega) rfl,ash,ar4];constructor
   ·rintro(h|h)
    ·exact .inl h
    ·exact .inr h.1
   ·rintro(h|h)
    ·exact .inl h
    ·by_cases e:x=a
     ·exact .inl e
     ·exact .inr ⟨h,by simpa using e⟩
theorem Rj{α:Type}[BEq α][LawfulBEq α]{l:List α}:l.eraseDups.Nodup:=by
 induction hn:l.length using Nat.strongRecOn generalizing l with
 |_ n ih=>
  cases l with
  |nil=>simp
  |cons a r=>
   rw[ata];simp only[ar6]at hn;have hl:(r.filter λb=>!b==a).length<=r.length:=ar7 _ _;refine asW.mpr ⟨λh=>?_,ih _ (by omega) rfl⟩;rw[Bo,ash]at h;simpa using h.2
theorem eY{R:List Ear.Rw}{r:Ear.Rw}:r∈bM R↔r∈R:=by unfold bM pA;rw[List.mem_mergeSort,Bo]
theorem QC(R:List Ear.Rw):Ear.Hl (bM R):=by
 unfold Ear.Hl bM pA;have srt:=atb (le:=λa b:Ear.Rw=>decide (Ear.rk a<=Ear.rk b)) (λa b c k1 k2=>by rw[ato]at *;exact List.le_trans k1 k2) (λa b=>by rw[atd,ato,ato];exact List.le_total _ _) R.eraseDups;have nd:(R.eraseDups.mergeSort λa b=>decide (Ear.rk a<=Ear.rk b)).Nodup:=(List.mergeSort_perm _ _).nodup_iff.mpr Rj;refine List.Pairwise.imp₂ (λa b h1 h2=>?_) srt nd;rw[ato]at h1;by_cases c:Ear.rk a < Ear.rk b
 ·exact c
 ·exact absurd (Ear.Zk (List.le_antisymm h1 (List.not_lt.mp c))) h2
section
variable{K:arO}{g:Gh}{H:Hp}
theorem Pq{xs:List V}{ds:List Dat}(h:aM K g H xs ds):∀{ys:List V} {es:List Dat},Ear.fB (Ear.af8 xs ds) ys es->aM K g H ys es
 |[],[],_=>.nil
 |[],_::_,z=>nomatch z.1
 |_::_,[],z=>nomatch z.1
 |y::ys,e::es,z=>by
  obtain⟨i,h1,h2⟩:=z.2 0 y e rfl rfl;obtain⟨d,h3,h4⟩:=h.get' h1;rw[h2]at h3;cases h3;exact .cons h4 (Pq h ⟨asT z.1,λi v x a b=>z.2 (i+1) v x a b⟩)
end
section
variable{X:Cx}{aj:aR}{W:WX}{a:Expr}{fa:QF}{p p2 pos pos2:Pos}
theorem ah1:JM aj X.K W zQ (Ear.Ij X.K):=λσ g H x d Q k rx h=>by
 unfold zQ at h;split at h
 ·next ds=>
  obtain⟨l,us,rfl,h1,h2⟩:=gH rx;unfold Ear.Ij;split at h
  ·next ns hn=>
   have e:=Kz hn;subst e;refine⟨l,us,ns.map PyData.int,rfl,h1,h2.dp (n:=12) (Zx 12 ns),PySem.W.AllAlike.of (λa b=>by simp[PySem.W.alike]),PySem.W.Sortable.others (λb=>⟨(λz=>nomatch z),λxs z=>nomatch z⟩),λd hd=>by
    obtain⟨i,_,rfl⟩:=arY.mp hd;simp[PyData.depth],λys q hy nq=>?_⟩
   have hs:=Wy (enc:=PyData.int) (le:=λa b:Int=>decide (a<=b)) (λa b=>congrFun (congrFun (PySem.W.dataLe_int (λk:Int=>k)) a) b) ns;rw[hs]at hy;exact h (.ref q) _ (Ex.new nq) (.lst (.inl ⟨.inl upd_same,k.fresh nq⟩) ((Pq h2 hy).ex (Ex.new nq) k))
  ·split at h
   ·next R hR=>
    have e:=PN hR;subst e;refine⟨l,us,R.map Ear.rD,rfl,h1,h2.dp (n:=12) (abJ 10 R),PySem.W.AllAlike.of Ear.VF,PySem.W.Sortable.tuples (λb=>⟨_,_,rfl⟩),λd hd=>by
     obtain⟨i,_,rfl⟩:=arY.mp hd;rw[(Ear.ac7 i).2]
     decide,λys q hy nq=>?_⟩
    ·have hs:=Wy (enc:=Ear.rD) (le:=λa b:Ear.Rw=>decide (Ear.rk a<=Ear.rk b)) (λa b=>by rw[←Ear.K7];rfl) R;rw[hs]at hy;exact h (.ref q) _ (Ex.new nq) (.lst (.inl ⟨.inl upd_same,k.fresh nq⟩) ((Pq h2 hy).ex (Ex.new nq) k))
   ·exact atn h
 ·exact atn h
theorem ahf(hu:X.A.units+65 < cLine)(hg:Gl X "sorted")(hm:X.mg "sorted"=none)(ha:QW aj X W a fa)(hs:nst a=true):QE aj X W (.Call (.Name "sorted" p) [a] [] pos) (eV zQ fa):=
 ag3 (.inl rfl) (Ear.acn hu) ah1 hg hm ⟨by decide +kernel,by decide,by decide⟩ ha hs
theorem HF{K:arO}{g:Gh}{H:Hp}:∀{vs:List V} {l:List Int},DpAll K H vs (l.map PyData.int)->aM K g H vs (l.map PyData.int)
 |_,[],.nil=>.nil
 |_,_::_,.cons (.int i) t=>.cons (.int i) (HF t)
theorem ade{K:arO}{g:Gh}{H:Hp}{v:V}{r:Ear.Rw}(h:Ear.xX K H v r):Rep K g H v (Ear.rD r):=by
 unfold Ear.xX Ear.rD at h;cases h with
 |tup h1 t1=>
  cases t1 with
  |cons a1 t1=>
   cases a1;cases t1 with
   |cons a2 t2=>
    cases t2;cases a2 with
    |tup h2 t3=>exact .tup h1 (.cons (.int _) (.cons (.tup h2 (HF t3)) .nil))
theorem WT{K:arO}{g:Gh}{H:Hp}:∀{vs:List V} {R:List Ear.Rw},aM K g H vs (R.map Ear.rD)->Ear.fB (Ear.xX K H) vs R
 |_,[],.nil=>⟨rfl,λi v x a b=>by simp at a⟩
 |_,r::R,.cons h t=>by
  have ih:=WT t;refine⟨congrArg (· + 1) ih.1,λi v x a b=>?_⟩;cases i with
  |zero=>
   simp at a b;subst a b;exact h.dp (n:=12) (Lz 10 _)
  |succ i=>exact ih.2 i v x (by simpa using a) (by simpa using b)
theorem Xa{K:arO}{g:Gh}{H:Hp}:∀{vs:List V} {R:List Ear.Rw},Ear.fB (Ear.xX K H) vs R->aM K g H vs (R.map Ear.rD)
 |[],[],_=>.nil
 |[],_::_,h=>nomatch h.1
 |_::_,[],h=>nomatch h.1
 |v::vs,r::R,h=>.cons (ade (h.2 0 v r rfl rfl)) (Xa ⟨asT h.1,λi v x a b=>h.2 (i+1) v x a b⟩)
theorem ahp(hu:X.A.units+65 < cLine)(hc:X.calm=true)(hg:Gl X "sorted")(hm:X.mg "sorted"=none)(hg2:Gl X "set")(hm2:X.mg "set"=none)(ha:QW aj X W a fa)(hs:nst a=true):QE aj X W (.Call (.Name "sorted" p) [.Call (.Name "set" p2) [a] [] pos2] [] pos) (eV RB fa):=by
 have h0:=pa_cons ha pa_nil (cJ hs []);have h1:PE X (.Call (.Name "set" p2) [a] [] pos2) _:=pe_callTy (Ear.aaL hu hc) hg2 hm2 (by decide +kernel) h0 (by decide) (by decide) (cJ hs []) (by with_unfolding_all rfl)
 have h2:=pa_cons h1 pa_nil (cJ rfl []);refine PE.weak (pe_callB (p:=p) (pos:=pos) (Ear.acZ hu hc) hg hm (by decide +kernel) h2 (by decide) (by decide) (cJ rfl []) (by with_unfolding_all rfl)) λσ H Q ⟨g,Z,M,I,h⟩=>?_;refine tW.go I h.bnd λd v H1 h1 e1 r1=>?_;have I1:=I.ex e1;unfold RB at h1;split at h1
 ·next ds=>
  split at h1
  ·next R hR=>
   split at h1
   ·next hd=>
    have e:=PN hR;subst e;obtain⟨l,us,rfl,s1,s2⟩:=gH r1;unfold Ear.Lq;refine⟨l,us,R,R.eraseDups,rfl,s1,WT s2,atp hd,λr hr=>Bo.mpr hr,λq L nq hL nd mem few=>?_⟩;have eq:Ex H1 (upd H1 q (Ear.Nz X.w q L)):=Ex.new nq;unfold Ear.PL;refine⟨q,L,rfl,upd_same,λe he=>?_,nd,few,λys S z hy up ms nz=>?_⟩
    ·exact(Rep.ex eq I1.kd (ade (g:=g) (hL e he))).dp (n:=12) (Lz 10 _)
    ·have hS:S=bM R:=Ear.aeQ up (QC R) λr=>by rw[ms,mem,eY]
     subst hS;have I2:=I1.ex eq;exact h1 (.ref z) _ ((e1.trans eq).trans (Ex.new nz)) (.lst (.inl ⟨.inl upd_same,I2.kd.fresh nz⟩) ((Xa hy).ex (Ex.new nz) I2.kd))
   ·exact atn h1
  ·exact atn h1
 ·exact atn h1
def aiD(it:IF)(tg:fO)(vs:List Nat)(tt:QT)(te:QF):QF:=λM Z=>(zV it tg vs tt te M Z).bind λds=>match intsOf ds with
 |some l=>Out.when (decide (l.length<=4000)) (.ok (.list ((agM l).map PyData.int)))
 |none=>.bad
end
def zJ(Z:Env):Bool:=Z.all λo=>match o with
 |some (.mut _)=>false
 |_=>true
theorem YZ{Z:Env}(h:zJ Z=true){i:Nat}{xs:List Dat}:Z[i]?≠some (some (.mut xs)):=λz=>by
 have:=asj.mp h _ (arW z);cases this
theorem SInv.loc{K:arO}{aj:aR}{σ:L2.St}{H:Hp}{g:Gh}{Z:Env}{M:Mo}{D:Addr}{us us':List V}(I:SInv K aj σ H g Z M)(n:zJ Z=true)(hD:H D=some (.lst us))(lo:g.Lo D):SInv K aj σ (upd H D (.lst us')) g Z M where
 kd:=I.kd.upd trivial
 wok:=I.wok.loc I.kd hD lo
 len:=I.len
 dat:=λi d h=>by
  obtain⟨v,h1,h2⟩:=I.dat i d h;exact⟨v,h1,ah7 I.kd hD lo h2⟩
 own:=λi xs h=>absurd h (YZ n)
 sep:=λi j xs ys l ne h1=>absurd h1 (YZ n)
def gU(tg:fO)(tt:QT)(it1:IF)(tg1:fO)(vs1:List Nat)(tt1:QT)(te:QF)(M:Mo)(Z:Env):List Dat->Out (List Dat)
 |[]=>.ok []
 |d::ds=>match tg d Z with
  |none=>.bad
  |some Z1=>(yD (tt M Z1)).bind λb=>if b=true then Out.when (zJ Z1) ((yD (it1 M Z1)).bind λes=>(dB tg1 tt1 te M (cC Z1 vs1) es).bind λr1=>(gU tg tt it1 tg1 vs1 tt1 te M Z ds).bind λr=>.ok (r1++r)) else gU tg tt it1 tg1 vs1 tt1 te M Z ds
def aa2(it:IF)(tg:fO)(vs:List Nat)(tt:QT)(it1:IF)(tg1:fO)(vs1:List Nat)(tt1:QT)(te:QF):IF:=λM Z=>(it M Z).bind λds=>(gU tg tt it1 tg1 vs1 tt1 te M (cC Z vs) ds).bind λr=>Out.when (decide (r.length<=50000)) (.ok r)
def Dy(it:IF)(tg:fO)(vs:List Nat)(tt:QT)(it1:IF)(tg1:fO)(vs1:List Nat)(tt1:QT)(te:QF):QF:=λM Z=>(aa2 it tg vs tt it1 tg1 vs1 tt1 te M Z).bind λr=>.ok (.list r)
theorem wW{tg tg1:fO}{tt tt1:QT}{te:QF}{it1:IF}{vs1:List Nat}{M:Mo}{Z:Env}:∀{ds:List Dat} {x:dG},gU tg tt it1 tg1 vs1 tt1 te M Z ds≠.exc x
 |[],_,h=>nomatch h
 |d::ds,x,h=>by
  rw[gU]at h;split at h
  ·cases h
  ·next Z1 e=>
   cases h1:tt M Z1 with
   |bad=>rw[h1]at h;cases h
   |exc y=>rw[h1]at h;cases h
   |ok b=>
    rw[h1]at h;cases b with
    |false=>exact wW (ds:=ds) (x:=x) h
    |true=>
     cases hn:zJ Z1 with
     |false=>rw[hn]at h;cases h
     |true=>
      rw[hn]at h;cases h2:it1 M Z1 with
      |bad=>rw[h2]at h;cases h
      |exc y=>rw[h2]at h;cases h
      |ok es=>
       rw[h2]at h;have h:((dB tg1 tt1 te M (cC Z1 vs1) es).bind λr1=>(gU tg tt it1 tg1 vs1 tt1 te M Z ds).bind λr=>Out.ok (r1++r))=.exc x:=h;cases h3:dB tg1 tt1 te M (cC Z1 vs1) es with
       |bad=>rw[h3]at h;cases h
       |exc y=>exact absurd h3 rK
       |ok r1=>
        rw[h3]at h;have h:((gU tg tt it1 tg1 vs1 tt1 te M Z ds).bind λr=>Out.ok (r1++r))=.exc x:=h;cases h4:gU tg tt it1 tg1 vs1 tt1 te M Z ds with
        |bad=>rw[h4]at h;cases h
        |exc y=>exact absurd h4 wW
        |ok r=>rw[h4]at h;cases h
section
variable{K:arO}{aj:aR}{W:WX}
theorem aiB{it it1:IF}{tg tg1:fO}{js vs js1 vs1:List Nat}{tt tt1:QT}{te:QF}(hj:∀j∈js,j∈vs)(hj1:∀j∈js1,j∈vs1)(σ:L2.St)(H:Hp)(Q:VK)(h:tFr K aj W (aa2 it tg vs tt it1 tg1 vs1 tt1 te) σ H Q) :
  tLc2 (tI K aj W false it) (Av K aj js tg) (j7 K aj WF tt) (tI K aj WF true it1) (Av K aj js1 tg1) (j7 K aj WF tt1) (tQ K aj WF te) vs vs1 σ H Q:=by
 obtain⟨g,Z,M,I,h⟩:=h;refine⟨g,Z,M,I,h.bnd.mono (λds hk J C H1 e1 w c _ D nD=>?_) λ_ z=>z⟩;obtain⟨total,htot,hlen,hQ⟩:∃total,gU tg tt it1 tg1 vs1 tt1 te M (cC Z vs) ds=.ok total/\total.length<=50000/\∀l us H',H l=none->Ex H H'->H' l=some (.lst us)->aM K (g.add l) H' us total->Q (.ref l) H':=by
  cases hc:gU tg tt it1 tg1 vs1 tt1 te M (cC Z vs) ds with
  |bad=>rw[hc]at hk;exact atn hk
  |exc x=>exact absurd hc wW
  |ok total=>
   rw[hc]at hk;obtain⟨hz,hk⟩:=Out.sat.pJ hk;exact⟨total,rfl,atp hz,hk⟩
 have I1:=(I.ex e1).wipe vs;have kD:∀{Ha:Hp} {us:List V},Ex H1 Ha->Ha D=some (.lst us)->SInv K aj (L2.wipe σ vs) Ha (g.add D) (cC Z vs) M:=λea hu=>I1.add nD ea hu trivial;have lD:(g.add D).Lo D:=.inr rfl
 let Pv:Nat->Hp->Prop:=λi Ha=>Ex H1 Ha/\i<=ds.length/\∃us ys,Ha D=some (.lst us)/\aM K (g.add D) Ha us ys/\(gU tg tt it1 tg1 vs1 tt1 te M (cC Z vs) (ds.drop i)).sat (λr=>total=ys++r) λ_=>False
 refine⟨λi m Ha=>m=ds.length - i/\Pv i Ha,⟨ds.length,rfl,Ex.new nD,asJ _,[],[],upd_same,.nil,?_⟩,?_⟩
 ·rw[atl,htot];rfl
 ·rintro i m Ha ⟨rfl,ea,hi,us,ys,hu,hU,hs⟩;have Ia:=kD ea hu;have Ca:=w.add g (g.add D) H1 Ha (I.kd.ex e1) c (Gh.FZ nD ea) ea;by_cases hlt:i < ds.length
  ·refine .inr ⟨w.go _ i Ha Ca hlt,Pv (i+1),λH' p=>⟨ds.length - (i+1),by omega,rfl,p⟩,λx H' y=>?_⟩;have hd:ds[i]?=some ds[i]:=arR hlt;obtain⟨e2,rx⟩:=w.yld _ i Ha x H' _ Ia.kd Ca hd y;have I2:=Ia.ex e2;rw[asU hlt,gU]at hs;split at hs
   ·exact atn hs
   ·next Z1 he=>
    refine⟨g.add D,_,M,_,Z1,I2,rx,he,λws I3=>⟨Ak js ws _ vs hj |>.trans (Ei σ vs),?_⟩⟩;refine j7.go I3 (Cq hs.bnd) λb H3 hb e3=>?_;have I4:=I3.ex e3;have hu3:=e3 _ _ (e2 _ _ hu);have hU3:=(hU.ex e2 Ia.kd).ex e3 I2.kd;cases b with
    |false=>
     have hb:(gU tg tt it1 tg1 vs1 tt1 te M (cC Z vs) (ds.drop (i+1))).sat (λr=>total=ys++r) λ_=>False:=hb;exact⟨(ea.trans e2).trans e3,hlt,us,ys,hu3,hU3,hb⟩
    |true=>
     have hb:(Out.when (zJ Z1) ((yD (it1 M Z1)).bind λes=>(dB tg1 tt1 te M (cC Z1 vs1) es).bind λr1=>(gU tg tt it1 tg1 vs1 tt1 te M (cC Z vs) (ds.drop (i+1))).bind λr=>Out.ok (r1++r))).sat (λr=>total=ys++r) λ_=>False:=hb;obtain⟨nm,hb⟩:=hb.pJ;refine⟨g.add D,Z1,M,I4,(Cq (E':=rG K aj WF (g.add D) H3 _) hb.bnd).mono (λes hk1 J1 C1 H4 e4 w1 c1 fm=>?_) λ_ z=>z⟩;have fm:=fm rfl
     -- all that is added by this walk
     obtain⟨r1,r2,hr1,hr2,ht⟩:∃r1 r2,dB tg1 tt1 te M (cC Z1 vs1) es=.ok r1/\gU tg tt it1 tg1 vs1 tt1 te M (cC Z vs) (ds.drop (i+1))=.ok r2/\total=ys++(r1++r2):=by
      cases q1:dB tg1 tt1 te M (cC Z1 vs1) es with
      |bad=>rw[q1]at hk1;exact atn hk1
      |exc y=>exact absurd q1 rK
      |ok r1=>
       rw[q1]at hk1;have hk1:((gU tg tt it1 tg1 vs1 tt1 te M (cC Z vs) (ds.drop (i+1))).bind λr=>Out.ok (r1++r)).sat (λr=>total=ys++r) λ_=>False:=hk1;cases q2:gU tg tt it1 tg1 vs1 tt1 te M (cC Z vs) (ds.drop (i+1)) with
       |bad=>rw[q2]at hk1;exact atn hk1
       |exc y=>exact absurd q2 wW
       |ok r2=>
        rw[q2]at hk1;exact⟨r1,r2,rfl,rfl,hk1⟩
     let P1:Nat->Hp->Prop:=λj Hb=>Ex H1 Hb/\SInv K aj (sets (L2.wipe σ vs) js ws) Hb (g.add D) Z1 M/\C1 (g.add D) Hb/\j<=es.length/\∃us' zs,Hb D=some (.lst us')/\aM K (g.add D) Hb us' (ys++zs)/\(dB tg1 tt1 te M (cC Z1 vs1) (es.drop j)).sat (λr=>r1=zs++r) λ_=>False
     refine⟨λj m Hb=>m=es.length - j/\P1 j Hb,⟨es.length,rfl,((ea.trans e2).trans e3).trans e4,I4.ex e4,c1,asJ _,us,[],e4 _ _ hu3,by rw[asR];exact hU3.ex e4 I4.kd,?_⟩,?_⟩
     ·rw[atl,hr1];rfl
     ·rintro j m Hb ⟨rfl,fb,Ib,Cb,hjl,us',zs,hub,hUb,hsb⟩;by_cases hlj:j < es.length
      ·refine .inr ⟨w1.go _ j Hb Cb hlj,P1 (j+1),λH' p=>⟨es.length - (j+1),by omega,rfl,p⟩,λx H' y=>?_⟩;have hdj:es[j]?=some es[j]:=arR hlj;obtain⟨f2,rx⟩:=w1.yld _ j Hb x H' _ Ib.kd Cb hdj y;have J2:=(Ib.ex f2).wipe vs1;rw[asU hlj,dB]at hsb;split at hsb
       ·exact atn hsb
       ·next Z2 he1=>
        refine⟨g.add D,_,M,_,Z2,J2,rx,he1,λws1 J3=>⟨Ak js1 ws1 _ vs1 hj1 |>.trans (Ei _ vs1),?_⟩⟩;refine j7.go J3 (Cq hsb.bnd) λb H6 hb6 e6=>?_;have f26:=f2.trans e6;have hu6:=f26 _ _ hub;have hU6:=hUb.ex f26 Ib.kd;cases b with
        |false=>
         have hb6:(dB tg1 tt1 te M (cC Z1 vs1) (es.drop (j+1))).sat (λr=>r1=zs++r) λ_=>False:=hb6;exact⟨fb.trans f26,Ib.ex f26,w1.ex _ _ _ Ib.kd Cb f26,hlj,us',zs,hu6,hU6,hb6⟩
        |true=>
         have hb6:((yD (te M Z2)).bind λy=>(dB tg1 tt1 te M (cC Z1 vs1) (es.drop (j+1))).bind λr=>Out.ok (y::r)).sat (λr=>r1=zs++r) λ_=>False:=hb6;refine tQ.go (J3.ex e6) (Cq hb6.bnd) λy v H7 hyv e7 ry=>?_;have f27:=f26.trans e7;have Ib7:=Ib.ex f27;have hu7:=f27 _ _ hub;have hU7:=hUb.ex f27 Ib.kd;have hyv:=hyv.bnd;have hr:∃r,dB tg1 tt1 te M (cC Z1 vs1) (es.drop (j+1))=.ok r/\r1=zs++y::r:=by
          cases q1:dB tg1 tt1 te M (cC Z1 vs1) (es.drop (j+1)) with
          |bad=>rw[q1]at hyv;exact atn hyv
          |exc y=>exact absurd q1 rK
          |ok r=>
           rw[q1]at hyv;exact⟨r,rfl,hyv⟩
         obtain⟨r,hr,hr1'⟩:=hr;have hll:us'.length < 50000:=by rw[hUb.length];rw[ht,hr1']at hlen;simp at hlen ⊢;omega
         refine⟨us',hu7,sz_lt (Nat.lt_trans hll (by decide)),Ex.mut (fb.trans f27) nD,Ib7.loc nm hu7 lD,fm true _ _ _ _ Ib7.kd (w1.ex _ _ _ Ib.kd Cb f27) (Gr.upd Ib7.kd hu7 (.inr lD)),hlj,us'++[v],zs++[y],upd_same,?_,?_⟩
         ·rw[←List.append_assoc];exact Y8 Ib7.kd hu7 lD (hU7.append (.cons ry .nil))
         ·rw[hr];show r1=_;rw[hr1'];simp
      ·have e:j=es.length:=by omega
       refine .inl ⟨w1.stop _ j Hb Cb e,?_⟩;rw[e,as4]at hsb;have hsb:r1=zs++[]:=hsb;rw[asR]at hsb;subst hsb;refine⟨fb,hlt,us',ys++r1,hub,hUb,?_⟩;rw[hr2];show total=_;rw[ht,List.append_assoc]
  ·have e:i=ds.length:=by omega
   refine .inl ⟨w.stop _ i Ha Ca e,?_⟩;rw[e,as4]at hs;have hs:total=ys++[]:=hs;rw[asR]at hs;subst hs;exact hQ D us Ha (Ds e1 D nD) (e1.trans ea) hu hU
theorem aeL{it it1:IF}{tg tg1:fO}{js vs js1 vs1:List Nat}{tt tt1:QT}{te:QF}(hj:∀j∈js,j∈vs)(hj1:∀j∈js1,j∈vs1)(σ:L2.St)(H:Hp)(Q:VK)(h:tQ K aj W (Dy it tg vs tt it1 tg1 vs1 tt1 te) σ H Q) :
  tLc2 (tI K aj W false it) (Av K aj js tg) (j7 K aj WF tt) (tI K aj WF true it1) (Av K aj js1 tg1) (j7 K aj WF tt1) (tQ K aj WF te) vs vs1 σ H Q:=by
 obtain⟨g,Z,M,I,h⟩:=h;refine aiB hj hj1 σ H Q ⟨g,Z,M,I,h.bnd.mono (λxs hk l us H' nl e hl r=>?_) λ_ z=>z⟩;refine hk (.ref l) H' e (.lst (.inl ⟨.inl hl,λz=>?_⟩) (aM.less (g:=g.add l) (g':=g) rfl (λa z=>?_) r))
 ·exact I.kd.fresh nl z
 ·rcases z with z|z|z
  ·exact .inl z
  ·exact .inr (.inl z)
  ·exact .inr (.inr (.inl z))
end
section
variable{X:Cx}{aj:aR}{W:WX}{q:Bool}{elt tg iter tg1 iter1:Expr}{ifs ifs1:List Expr}{scope:Scope}{own:List (Str×Nat)}{it it1:IF}{tgf tgf1:fO}{js js1 vs1:List Nat}{tt tt1:QT}{te:QF}{pos cpos:Pos}
theorem ajT(hc:X.calm=true)(hN:X.N.Nodup)(hi:QI aj X W false tg iter it)(ok:blkC X.N X.env.scope scope own=true)(hv:∀i∈vs1,i∈own.map (·.2))(hj:∀j∈js,j∈own.map (·.2))(hj1:∀j∈js1,j∈vs1)
  (hg:∀(s:Shared) (H:Hp) (C:Addr) (cl:List (Str×Addr)) (fp:List Addr),QG aj (X.blk s H scope (compEnvC scope cl C X.env) fp) tg js tgf)
  (ht:∀(s:Shared) (H:Hp) (C:Addr) (cl:List (Str×Addr)) (fp:List Addr),PTs (X.blk s H scope (compEnvC scope cl C X.env) fp) ifs (j7 X.K aj WF tt))
  (hi1:∀(s:Shared) (H:Hp) (C:Addr) (cl:List (Str×Addr)) (fp:List Addr),QI aj (X.blk s H scope (compEnvC scope cl C X.env) fp) WF true tg1 iter1 it1)
  (hg1:∀(s:Shared) (H:Hp) (C:Addr) (cl:List (Str×Addr)) (fp:List Addr),QG aj (X.blk s H scope (compEnvC scope cl C X.env) fp) tg1 js1 tgf1)
  (ht1:∀(s:Shared) (H:Hp) (C:Addr) (cl:List (Str×Addr)) (fp:List Addr),PTs (X.blk s H scope (compEnvC scope cl C X.env) fp) ifs1 (j7 X.K aj WF tt1))
  (he:∀(s:Shared) (H:Hp) (C:Addr) (cl:List (Str×Addr)) (fp:List Addr),QE aj (X.blk s H scope (compEnvC scope cl C X.env) fp) WF elt te) (hs:∀x,foldedSetIterable iter X.env x=pure x) (hs1:∀env x,foldedSetIterable iter1 env x=pure x) :
  QE aj X W (.ListComp elt [⟨tg,iter,ifs,0⟩,⟨tg1,iter1,ifs1,0⟩] scope pos) (Dy it tgf (own.map (·.2)) tt it1 tgf1 vs1 tt1 te):=
 PE.weak (pe_lc2 (g:=Av X.K aj js tgf) (tt:=j7 X.K aj WF tt) (wi1:=tI X.K aj WF true it1) (g1:=Av X.K aj js1 tgf1) (tt1:=j7 X.K aj WF tt1) (te:=tQ X.K aj WF te) hc hN hi (blkOk_by ok) hv (λs H C cl fp=>hg s H C cl fp) ht (λs H C cl fp=>hi1 s H C cl fp) (λs H C cl fp=>hg1 s H C cl fp) ht1 (λs H C cl fp=>he s H C cl fp) hs hs1) λσ H Q h=>aeL hj hj1 σ H Q h
theorem ahT{j:Nat}{y:Str}{py:Pos}(hc:X.calm=true)(hN:X.N.Nodup)(hy:X.N[j]?=some y)(hyl:X.env.scope.names.lookup y=some .local)(hsw:swapsWith (.ListComp elt [⟨tg,iter,ifs,0⟩,⟨tg1,iter1,ifs1,0⟩] scope cpos) (some (.Name y py)) pos.line X.env=pure true)
  (hi:QI aj X W false tg iter it) (ok:blkC X.N X.env.scope scope own=true) (hv:∀i∈vs1,i∈own.map (·.2)) (hj:∀j∈js,j∈own.map (·.2)) (hj1:∀j∈js1,j∈vs1)
  (hg:∀(s:Shared) (H:Hp) (C:Addr) (cl:List (Str×Addr)) (fp:List Addr),QG aj (X.blk s H scope (compEnvC scope cl C X.env) fp) tg js tgf)
  (ht:∀(s:Shared) (H:Hp) (C:Addr) (cl:List (Str×Addr)) (fp:List Addr),PTs (X.blk s H scope (compEnvC scope cl C X.env) fp) ifs (j7 X.K aj WF tt))
  (hi1:∀(s:Shared) (H:Hp) (C:Addr) (cl:List (Str×Addr)) (fp:List Addr),QI aj (X.blk s H scope (compEnvC scope cl C X.env) fp) WF true tg1 iter1 it1)
  (hg1:∀(s:Shared) (H:Hp) (C:Addr) (cl:List (Str×Addr)) (fp:List Addr),QG aj (X.blk s H scope (compEnvC scope cl C X.env) fp) tg1 js1 tgf1)
  (ht1:∀(s:Shared) (H:Hp) (C:Addr) (cl:List (Str×Addr)) (fp:List Addr),PTs (X.blk s H scope (compEnvC scope cl C X.env) fp) ifs1 (j7 X.K aj WF tt1))
  (he:∀(s:Shared) (H:Hp) (C:Addr) (cl:List (Str×Addr)) (fp:List Addr),QE aj (X.blk s H scope (compEnvC scope cl C X.env) fp) WF elt te) (hs:∀x,foldedSetIterable iter X.env x=pure x) (hs1:∀env x,foldedSetIterable iter1 env x=pure x) :
  SE aj X W q (.Assign [.Name y py] (.ListComp elt [⟨tg,iter,ifs,0⟩,⟨tg1,iter1,ifs1,0⟩] scope cpos) pos) (aZ (aF j) (gOf (Dy it tgf (own.map (·.2)) tt it1 tgf1 vs1 tt1 te))):=by
 refine PS.weak (ps_setLc2 (g:=Av X.K aj js tgf) (tt:=j7 X.K aj WF tt) (wi1:=tI X.K aj WF true it1) (g1:=Av X.K aj js1 tgf1) (tt1:=j7 X.K aj WF tt1) (te:=tQ X.K aj WF te) hc hN hy hyl hsw hi (blkOk_by ok) hv (λs H C cl fp=>hg s H C cl fp) ht (λs H C cl fp=>hi1 s H C cl fp) (λs H C cl fp=>hg1 s H C cl fp) ht1 (λs H C cl fp=>he s H C cl fp) hs hs1) λD σ H ⟨g,Z,M,I,z⟩=>?_;refine aeL hj hj1 σ H _ ⟨g,Z,M,I,(Out.iV (dw (σ:=σ) z)).mono (λd kk v H' e r=>?_) λx kk H' c dd e r=>kk H' g c dd (Gr.ex e) (I.ex e) r⟩;exact kk _ H' g (Gr.ex e) ((I.ex e).set r)
end
def Ud(neg:Bool)(kvs:List (Str×Dat))(k:QF):QF:=λM Z=>(k M Z).bind λd=>match d with
 |.str x=>.ok (.bool (neg ^^ (kvs.lookup x).isSome))
 |_=>.bad
def acB(kvs:List (Str×Dat))(k:QF):QF:=λM Z=>(k M Z).bind λd=>match d with
 |.str x=>match kvs.lookup x with
  |some y=>.ok y
  |none=>.bad
 |_=>.bad
section
variable{X:Cx}{aj:aR}{W:WX}{a:Expr}{fa:QF}{x:Str}{p pos:Pos}{kvs:List (Str×Dat)}{k:Nat}
theorem aeG{neg:Bool}{d:Addr}(D:acU X.w X.K d kvs)(σ:L2.St)(H:Hp)(Q:VK)(h:tQ X.K aj W (Ud neg kvs fa) σ H Q) :
  tOp (λx y H Q=>∃(z:Str) (r:Option Value),x=.str z/\y=.ref d/\PySem.W.nsIn X.K d z=some r/\Q (.bl (neg ^^ r.isSome)) H) (tW X.K aj W fa) (tC (.ref d)) σ H Q:=by
 obtain⟨g,Z,M,I,h⟩:=h;refine tW.go I h.bnd λe v H1 h1 e1 r1=>?_;split at h1
 ·next z=>
  cases jP r1;obtain⟨es,n,_,_,hl⟩:=D;have hz:=hl z;cases hk:kvs.lookup z with
  |none=>
   rw[hk]at hz h1;exact⟨z,none,rfl,rfl,hz,h1 _ H1 e1 (.bl _)⟩
  |some d'=>
   rw[hk]at hz h1;obtain⟨v,u,h2,_⟩:=hz;exact⟨z,some u,rfl,rfl,h2,h1 _ H1 e1 (.bl _)⟩
 ·exact atn h1
theorem opG{neg:Bool}{op:CmpOp}{d:Addr}(hn:(op=.In/\neg=false)∨(op=.NotIn/\neg=true))(D:acU X.w X.K d kvs):OpR X (compareOp op) (λx y H Q=>∃(z:Str) (r:Option Value),x=.str z/\y=.ref d/\PySem.W.nsIn X.K d z=some r/\Q (.bl (neg ^^ r.isSome)) H):=by
 obtain⟨es,n,D,_⟩:=D;rcases hn with⟨rfl,rfl⟩|⟨rfl,rfl⟩
 ·have:=op_in_kd (X:=X) D;simpa only[Bool.false_xor] using this
 ·have:=op_notIn_kd (X:=X) D;simpa only[Bool.true_xor] using this
theorem ai6{neg:Bool}{op:CmpOp}(hn:(op=.In/\neg=false)∨(op=.NotIn/\neg=true))(g:bf X.prog X.w X.K X.mg X.base aj k x (.dic kvs))(hg:Gl X x)(hd:(x==("__debug__" : Str))=false)(ha:QW aj X W a fa):QE aj X W (.Compare a [op] [.Name x p] pos) (Ud neg kvs fa)/\sU aj X W (.Compare a [op] [.Name x p] pos) (bh (Ud neg kvs fa)):=by obtain⟨d,hm,D⟩:=g;have hb:PE X (.Name x p) (tC (.ref d)):=pe_glob hg hm rfl hd;refine⟨PE.weak (pe_cmpR (opG hn D) ha hb (by cases op<;>rfl)) λσ H Q h=>aeG D σ H Q h,PT.weak (pt_cmpR (opG hn D) ha hb (by cases op<;>rfl)) λσ H Q ⟨g,Z,M,I,h⟩=>?_⟩;refine aeG D σ H _ ⟨g,Z,M,I,h.bnd.mono (λd h1 v H' e' r'=>?_) λ_ z=>z⟩;obtain⟨k,h2,h3⟩:=Ez r'.weak h1;exact⟨k,h2,h3 H' e'⟩
theorem ajq(g:bf X.prog X.w X.K X.mg X.base aj k x (.dic kvs))(hg:Gl X x)(hd:(x==("__debug__" : Str))=false)(ha:QW aj X W a fa)(hp:PlainIx a):QE aj X W (.Subscript (.Name x p) a pos) (acB kvs fa):=by
 obtain⟨d,hm,es,n,D,_,hl⟩:=g;have hb:PE X (.Name x p) (tC (.ref d)):=pe_glob hg hm rfl hd;refine PE.weak (pe_ix ix_kdict hb ha hp) λσ H Q ⟨g,Z,M,I,h⟩=>?_;refine tW.go I h.bnd λe v H1 h1 e1 r1=>?_;split at h1
 ·next z=>
  cases jP r1;have hz:=hl z;split at h1
  ·next y hk=>
   rw[hk]at hz;obtain⟨v,u,h2,h3,h4⟩:=hz;exact⟨d,z,v,rfl,rfl,⟨es,n,u,D.at_,D.lit,h2,h3⟩,h1 v H1 e1 (h4 g H1)⟩
  ·exact atn h1
 ·exact atn h1
end
structure Hs where
 Ms:List (Str×List (Str×MV))
 ft:Ft
 xm:List (Str×List (Str×Bool))
 df:List (Str×Bool)
 xf:List (Str×List Str)
structure Vj(P:Program)(w:World)(K:arO)(mg:Str->Option Value)(base:Heap)(aj:aR)(k:Nat)(h:Hs):Prop where
 ms:∀m tb,h.Ms.lookup m=some tb->∀c v,tb.lookup c=some v->bY P w K mg base aj k c m v
 fk:Ly h.ft aj
 co:jm K aj
 hw:aj.w=w
 xm:∀y tab,h.xm.lookup y=some tab->(∃D,aj y=some D)/\acD K aj y λx=>tab.lookup x
 xf:∀y fs,h.xf.lookup y=some fs->∃C,aj y=some C/\XfC K C/\∀f∈fs,PySem.W.findIn K (.ref C) f=some none
structure Tc where
 N:List Str
 sc:Scope
 G:List (Str×GV)
 B:List Str
 hs:Hs
 ml:List Str
 top:Bool
structure Amb(aj:aR)(c:Tc)(X:Cx)(W:WX)(k:Nat):Prop where
 hN:X.N=c.N
 hs:X.env.scope=c.sc
 calm:X.calm=true
 nd:X.N.Nodup
 tk:Takes X W
 rm:Room k X.A
 gl:∀x v,c.G.lookup x=some v->bf X.prog X.w X.K X.mg X.base aj k x v
 bl:∀x,x∈c.B->X.mg x=none
 fn:c.top=true->∀x,X.fn x=true
 hk:Vj X.prog X.w X.K X.mg X.base aj k c.hs
def gd{α:Type}(b:Bool)(o:Option α):Option α:=match b with
 |true=>o
 |false=>none
theorem aY{α:Type}{b:Bool}{o:Option α}{x:α}:gd b o=some x↔b=true/\o=some x:=by
 cases b
 ·exact⟨λh=>(nomatch h),λh=>(nomatch h.1)⟩
 ·exact⟨λh=>⟨rfl,h⟩,λh=>h.2⟩
def idx:List Str->Str->Option Nat
 |[],_=>none
 |y::ys,x=>match y==x with
  |true=>some 0
  |false=>(idx ys x).map (· + 1)
theorem Gm:∀{N:List Str} {x:Str} {i:Nat},idx N x=some i->N[i]?=some x
 |[],_,_,h=>nomatch h
 |y::ys,x,i,h=>by
  rw[idx]at h;split at h
  ·next e=>
   cases h;rw[List.getElem?_cons_zero,eq_of_beq e]
  ·rw[asx]at h;obtain⟨j,h1,rfl⟩:=h;rw[List.getElem?_cons_succ];exact Gm h1
def afC(sc:Scope)(x:Str):Bool:=match sc.names.lookup x with
 |some .local=>true
 |some .cell=>true
 |some .free=>true
 |_=>false
theorem ahB{sc:Scope}{x:Str}(h:afC sc x=true):Vis sc x:=by
 unfold afC at h;unfold Vis;split at h
 ·next e=>exact .inl e
 ·next e=>exact .inr (.inl e)
 ·next e=>exact .inr (.inr e)
 ·cases h
def Hu(x:Str):Bool:=(x==("__debug__" : Str)) || (x==("__classdict__" : Str))
theorem tR{x:Str}(h:Hu x=false):(x==("__debug__" : Str))=false/\(x==("__classdict__" : Str))=false:=by unfold Hu at h;rw[Bool.or_eq_false_iff]at h;exact h
def FW(sc:Scope)(x:Str):Bool:=match sc.names.lookup x with
 |some .globalImplicit=>true
 |_=>false
def KD(c:Tc)(x:Str):Option Nat:=gd (afC c.sc x&&!Hu x) (idx c.N x)
def alb(c:Tc)(x:Str):Bool:=match c.sc.names.lookup x with
 |some .local=>true
 |some .cell=>c.top
 |_=>false
def vC(c:Tc)(x:Str):Option Nat:=gd (alb c x) (idx c.N x)
section
variable{aj:aR}{c:Tc}{X:Cx}{W:WX}{k:Nat}{x:Str}{i:Nat}
theorem tG(a:Amb aj c X W k)(h:FW c.sc x=true):Gl X x:=by
 unfold FW at h;unfold Gl PySem.Env.kindOf;rw[a.hs];split at h
 ·assumption
 ·cases h
theorem Aj(a:Amb aj c X W k)(h:KD c x=some i):X.N[i]?=some x/\Vis X.env.scope x/\(x==("__debug__" : Str))=false/\(x==("__classdict__" : Str))=false:=by obtain⟨h1,h2⟩:=aY.mp h;rw[arP]at h1;obtain⟨d1,d2⟩:=tR (by simpa using h1.2);exact⟨by rw[a.hN];exact Gm h2,by rw[a.hs];exact ahB h1.1,d1,d2⟩
theorem mZ(a:Amb aj c X W k)(h:vC c x=some i):X.N[i]?=some x/\L2.Loc X.env.scope x/\(X.fn x=true∨X.env.scope.names.lookup x=some .local):=by
 obtain⟨h1,h2⟩:=aY.mp h;unfold alb at h1;refine⟨by rw[a.hN];exact Gm h2,?_⟩;rw[a.hs];unfold L2.Loc;split at h1
 ·next e=>exact⟨.inl e,.inr e⟩
 ·next e=>exact⟨.inr e,.inl (a.fn h1 x)⟩
 ·cases h1
def tX(c:Tc)(x y:Str):Bool:=(x==y)&&(FW c.sc x&&c.B.contains x)
theorem mO{y:Str}(a:Amb aj c X W k)(h:tX c x y=true):x=y/\Gl X x/\X.mg x=none:=by unfold tX at h;rw[arP,arP]at h;exact⟨eq_of_beq h.1,tG a h.2.1,a.bl x (by simpa using h.2.2)⟩
end
def zm:Expr->Bool
 |.Set _ _ _=>true
 |_=>false
theorem Dj{b:Expr}{op:CmpOp}(h:zm b=false):behindInMarks op b=false:=by cases b<;>first | rfl | cases h
theorem Wt{b c:Expr}{op op':CmpOp}(h:zm c=false):lastMarks [op,op'] [b,c]=false:=Dj h
theorem rM{e:Expr}{env:PySem.Env}(h:zm e=false):∀x,foldedSetIterable e env x=pure x:=λx=>by
 cases e<;>first | rfl | cases h
def YX:Expr->Bool
 |.Slice _ _ _ _=>true
 |_=>false
def akK:Operator->Option (Dat->Dat->Out Dat)
 |.Add=>some fu
 |.Sub=>some kY
 |.Mult=>some wZ
 |.FloorDiv=>some Bc
 |.Mod=>some kh
 |.Pow=>some O9
 |_=>none
def Qy:CmpOp->Option (Dat->Dat->Out Dat)
 |.Eq=>some bW
 |.NotEq=>some uZ
 |.Lt=>some Ox
 |.LtE=>some sV
 |.Gt=>some Wv
 |.GtE=>some geD
 |.In=>some (inD false)
 |.NotIn=>some (inD true)
 |_=>none
theorem ahW{op:Operator}{o:Dat->Dat->Out Dat}(h:akK op=some o)(X:Cx)(aj:aR)(W:WX):∃r,OpR X (binaryOp op) r/\qp aj X.K W o r:=by
 cases op<;>cases h
 ·exact⟨_,ahu,akO⟩
 ·exact⟨_,op_sub,ajQ⟩
 ·exact⟨_,op_mul,akm⟩
 ·exact⟨_,op_mod,akk⟩
 ·exact⟨_,op_pow,akr⟩
 ·exact⟨_,op_fdiv,als⟩
theorem Cp{op:CmpOp}{o:Dat->Dat->Out Dat}(h:Qy op=some o){X:Cx}{k:Nat}(hr:Room k X.A)(aj:aR)(W:WX):∃r,OpR X (compareOp op) r/\qp aj X.K W o r:=by
 have h65:X.A.units+65 < cLine:=by have:=hr.un;omega
 cases op<;>cases h
 ·exact⟨_,ajY hr.units,amK⟩
 ·exact⟨_,akJ hr.units,ami⟩
 ·exact⟨_,alp h65,amD⟩
 ·exact⟨_,op_le,amd⟩
 ·exact⟨_,op_gt,al8⟩
 ·exact⟨_,op_ge,alP⟩
 ·exact⟨_,akT h65,agT⟩
 ·exact⟨_,ac0 h65,agT⟩
def Ux:Expr->Option Dat
 |.Constant .none _ _=>some .none
 |.Constant (.bool b) _ _=>some (.bool b)
 |_=>none
theorem aa8{e:Expr}{d:Dat}{X:Cx}(h:Ux e=some d):∃v,scD d=some v/\(v=.non∨∃b,v=.bl b)/\PE X e (tC v):=by
 unfold Ux at h;split at h
 ·cases h;exact⟨_,rfl,.inl rfl,pe_non⟩
 ·cases h;exact⟨_,rfl,.inr ⟨_,rfl⟩,pe_bl⟩
 ·cases h
def isN:CmpOp->Option Bool
 |.Is=>some false
 |.IsNot=>some true
 |_=>none
theorem aea{op:CmpOp}{neg:Bool}{v:V}{X:Cx}(h:isN op=some neg)(hv:v=.non∨∃b,v=.bl b):OpR X (compareOp op) (aag neg v):=by
 cases op<;>cases h
 ·exact akz hv
 ·exact aeo hv
def b1D(x:Str):Option (Dat->Out Dat):=
 if x=="len" then some oZ else if x=="abs" then some T8 else if x=="sum" then some Vd else if x=="max" then some maxD else if x=="all" then some Qn else if x=="any" then some Py
 else if x=="tuple" then some m7 else if x=="list" then some N5 else if x=="int" then some intD else
 none
def b2D(x:Str):Option (Dat->Dat->Out Dat):=if x=="max" then some qL else if x=="min" then some Il else none
theorem ajH{x:Str}{o:Dat->Out Dat}{X:Cx}(hc:X.calm=true)(h:b1D x=some o)(aj:aR)(W:WX):∃(f:Value) (id:String) (r:List V->Hp->VK->Prop),(f=.builtin id∨f=.type id)/\CallR X f r/\JM aj X.K W o r/\BV f x:=by
 unfold b1D at h;split at h
 ·next e=>cases h;cases eq_of_beq e;exact⟨_,_,_,.inl rfl,ajC,ajF,by decide +kernel,by decide,by decide⟩
 split at h
 ·next e=>cases h;cases eq_of_beq e;exact⟨_,_,_,.inl rfl,call_abs,ai2,by decide +kernel,by decide,by decide⟩
 split at h
 ·next e=>cases h;cases eq_of_beq e;exact⟨_,_,_,.inl rfl,cr_sum hc,ak7,by decide +kernel,by decide,by decide⟩
 split at h
 ·next e=>cases h;cases eq_of_beq e;exact⟨_,_,_,.inl rfl,cr_max hc,ak0,by decide +kernel,by decide,by decide⟩
 split at h
 ·next e=>cases h;cases eq_of_beq e;exact⟨_,_,_,.inl rfl,cr_all hc,alg,by decide +kernel,by decide,by decide⟩
 split at h
 ·next e=>cases h;cases eq_of_beq e;exact⟨_,_,_,.inl rfl,cr_any hc,ak6,by decide +kernel,by decide,by decide⟩
 split at h
 ·next e=>cases h;cases eq_of_beq e;exact⟨_,_,_,.inr rfl,call_tuple_of,afP,by decide +kernel,by decide,by decide⟩
 split at h
 ·next e=>cases h;cases eq_of_beq e;exact⟨_,_,_,.inr rfl,call_list_of,ahj,by decide +kernel,by decide,by decide⟩
 split at h
 ·next e=>cases h;cases eq_of_beq e;exact⟨_,_,_,.inr rfl,aly,aj6,by decide +kernel,by decide,by decide⟩
 ·cases h
theorem ai3{x:Str}{o:Dat->Dat->Out Dat}{X:Cx}(hc:X.calm=true)(h:b2D x=some o)(aj:aR)(W:WX):∃(f:Value) (id:String) (r:List V->Hp->VK->Prop),(f=.builtin id∨f=.type id)/\CallR X f r/\Fn2 aj X.K W o r/\BV f x:=by
 unfold b2D at h;split at h
 ·next e=>cases h;cases eq_of_beq e;exact⟨_,_,_,.inl rfl,call_max2 hc,aiP,by decide +kernel,by decide,by decide⟩
 split at h
 ·next e=>cases h;cases eq_of_beq e;exact⟨_,_,_,.inl rfl,call_min2 hc,ahl,by decide +kernel,by decide,by decide⟩
 ·cases h
def tyN(x:Str):Option Ol:=if x=="int" then some .int else if x=="bool" then some .bool else if x=="str" then some .str else if x=="tuple" then some .tuple else if x=="list" then some .list else none
theorem ajD{x:Str}{t:Ol}(h:tyN x=some t):BV (.type t.name) x:=by
 unfold tyN at h;split at h
 ·next e=>cases h;cases eq_of_beq e;exact⟨by decide +kernel,by decide,by decide⟩
 split at h
 ·next e=>cases h;cases eq_of_beq e;exact⟨by decide +kernel,by decide,by decide⟩
 split at h
 ·next e=>cases h;cases eq_of_beq e;exact⟨by decide +kernel,by decide,by decide⟩
 split at h
 ·next e=>cases h;cases eq_of_beq e;exact⟨by decide +kernel,by decide,by decide⟩
 split at h
 ·next e=>cases h;cases eq_of_beq e;exact⟨by decide +kernel,by decide,by decide⟩
 ·cases h
structure Tr where
 E:Tc->Expr->Option QF
 W:Tc->Expr->Option QF
 T:Tc->Expr->Option QT
 I:Tc->Bool->Expr->Expr->Option IF
structure Tr.Ok(t:Tr):Prop where
 oe:∀{aj:aR} {c:Tc} {X:Cx} {W:WX} {k:Nat},Amb aj c X W k->∀{e:Expr} {f:QF},t.E c e=some f->QE aj X W e f
 ow:∀{aj:aR} {c:Tc} {X:Cx} {W:WX} {k:Nat},Amb aj c X W k->∀{e:Expr} {f:QF},t.W c e=some f->QW aj X W e f
 ot:∀{aj:aR} {c:Tc} {X:Cx} {W:WX} {k:Nat},Amb aj c X W k->∀{e:Expr} {f:QT},t.T c e=some f->sU aj X W e f
 oi:∀{aj:aR} {c:Tc} {X:Cx} {W:WX} {k:Nat},Amb aj c X W k->∀{firm:Bool} {tg e:Expr} {f:IF},t.I c firm tg e=some f->QI aj X W firm tg e f
def GX(t:Tr)(c:Tc):List Expr->Option QA
 |[]=>some au
 |a::es=>gd (nst a) ((t.E c a).bind λfa=>(GX t c es).bind λfr=>some (ak fa fr))
section
variable{aj:aR}{c:Tc}{X:Cx}{W:WX}{k:Nat}{t:Tr}
theorem sW(o:t.Ok)(a:Amb aj c X W k):∀{es:List Expr} {f:QA},GX t c es=some f->DQ aj X W es f/\es.all nst=true/\∀M Z ds,f M Z=.ok ds->ds.length=es.length
 |[],f,h=>by
  cases h;exact⟨ai8,rfl,λM Z ds e=>by cases e;rfl⟩
 |e::es,f,h=>by
  rw[GX,aY]at h;obtain⟨hs,h⟩:=h;obtain⟨fa,h1,h⟩:=arN.mp h;obtain⟨fr,h2,h⟩:=arN.mp h;cases h;obtain⟨i1,i2,i3⟩:=sW o a h2;refine⟨ah5 (o.oe a h1) i1 (cJ hs es),by simp[hs,i2],λM Z ds e=>?_⟩;unfold ak at e;cases hf:fa M Z with
  |ok d=>
   rw[hf]at e;cases hr:fr M Z with
   |ok dr=>
    rw[hr]at e;cases e;simp[i3 M Z dr hr]
   |exc y=>rw[hr]at e;cases e
   |bad=>rw[hr]at e;cases e
  |exc y=>rw[hf]at e;cases e
  |bad=>rw[hf]at e;cases e
end
def trO(t:Tr)(c:Tc):Option Expr->Option QO
 |none=>some Ah
 |some a=>(t.W c a).bind λfa=>some (rC fa)
theorem aeT{aj:aR}{c:Tc}{X:Cx}{W:WX}{k:Nat}{t:Tr}(o:t.Ok)(a:Amb aj c X W k){e:Option Expr}{f:QO}(h:trO t c e=some f):QOe aj X W e f:=by
 cases e with
 |none=>cases h;exact aho
 |some e=>
  obtain⟨fa,h1,h⟩:=arN.mp h;cases h;exact aik (o.ow a h1)
def ZM(c:Tc):List Expr->Option (List Nat)
 |[]=>some []
 |.Name x _::es=>(vC c x).bind λi=>(ZM c es).bind λjs=>some (i::js)
 |_::_=>none
def V8(c:Tc):Expr->Option (List Nat×fO)
 |.Name x _=>(vC c x).bind λi=>some ([i],aF i)
 |.Tuple es _ _=>(ZM c es).bind λjs=>some (js,bH js)
 |_=>none
theorem TV{aj:aR}{c:Tc}{X:Cx}{W:WX}{k:Nat}(a:Amb aj c X W k):∀{es:List Expr} {js:List Nat},ZM c es=some js->Sv X es js
 |[],js,h=>by cases h;trivial
 |.Name x p::es,js,h=>by
  rw[ZM]at h;obtain⟨i,h1,h⟩:=arN.mp h;obtain⟨r,h2,h⟩:=arN.mp h;cases h;obtain⟨s1,s2,s3⟩:=mZ a h1;exact⟨s1,s2,s3,TV a h2⟩
theorem vA{aj:aR}{c:Tc}{X:Cx}{W:WX}{k:Nat}(a:Amb aj c X W k){e:Expr}{js:List Nat}{f:fO}(h:V8 c e=some (js,f)):QG aj X e js f:=by
 unfold V8 at h;split at h
 ·obtain⟨i,h1,h⟩:=arN.mp h;cases h;obtain⟨s1,s2,s3⟩:=mZ a h1;exact Uh a.nd s1 s2 s3
 ·obtain⟨js',h1,h⟩:=arN.mp h;cases h;exact afa a.calm a.nd (TV a h1)
 ·cases h
def Tc.inn(c:Tc)(scope:Scope):Tc:={ c with sc:=relS scope c.sc,top:=false }
theorem Amb.inn{aj:aR}{c:Tc}{X:Cx}{W:WX}{k:Nat}(a:Amb aj c X W k)(scope:Scope)(s:Shared)(H:Hp)(C:Addr)(cl:List (Str×Addr))(fp:List Addr):Amb aj (c.inn scope) (X.blk s H scope (compEnvC scope cl C X.env) fp) WF k where
 hN:=a.hN
 hs:=by show relS scope X.env.scope=relS scope c.sc;rw[a.hs]
 calm:=a.calm
 nd:=a.nd
 tk:=aj5
 rm:=a.rm
 gl:=a.gl
 bl:=a.bl
 fn:=λz=>nomatch z
 hk:=a.hk
def Qz:List Expr->List Nat->List (Str×Nat)
 |.Name x _::es,j::js=>(x,j)::Qz es js
 |_,_=>[]
def pX:Expr->List Nat->List (Str×Nat)
 |.Name x _,[j]=>[(x,j)]
 |.Tuple es _ _,js=>Qz es js
 |_,_=>[]
def Pj(js vs:List Nat):Bool:=js.all λj=>vs.contains j
theorem pH{js vs:List Nat}(h:Pj js vs=true):∀j∈js,j∈vs:=λj hj=>by
 have:=asj.mp h j hj;simpa using this
def Va(t:Tr)(c:Tc):List Expr->Option QT
 |[]=>some gY
 |[a]=>t.T c a
 |_=>none
theorem PTs.weak{X:Cx}{e:List Expr}{t t':TT}(h:PTs X e t)(k:∀σ H Q,t' σ H Q->t σ H Q):PTs X e t':=⟨λpins s σ H Q I q=>h.run pins s σ H Q I (k σ H Q q)⟩
theorem wJ{aj:aR}{c:Tc}{X:Cx}{W:WX}{k:Nat}{t:Tr}(o:t.Ok)(a:Amb aj c X W k){ifs:List Expr}{f:QT}(h:Va t c ifs=some f):PTs X ifs (j7 X.K aj W f):=by
 unfold Va at h;split at h
 ·cases h;exact PTs.weak pts_nil λσ H Q ⟨g,Z,M,I,z⟩=>z H (Ex.refl H)
 ·exact pts_one (o.ot a h)
 ·cases h
def ZG(t:Tr)(c:Tc)(elt tg iter:Expr)(ifs:List Expr)(scope:Scope):Option QF:=
 (t.I c false tg iter).bind λit=>(V8 (c.inn scope) tg).bind λjt=>(Va t (c.inn scope) ifs).bind λtt=>(t.E (c.inn scope) elt).bind λte=>
  gd (blkC c.N c.sc scope (pX tg jt.1)&&(Pj jt.1 ((pX tg jt.1).map (·.2))&&!zm iter)) (some (dY it jt.2 ((pX tg jt.1).map (·.2)) tt te))
theorem abH{aj:aR}{c:Tc}{X:Cx}{W:WX}{k:Nat}{t:Tr}(o:t.Ok)(a:Amb aj c X W k){elt tg iter:Expr}{ifs:List Expr}{scope:Scope}{pos:Pos}{f:QF}(h:ZG t c elt tg iter ifs scope=some f):QE aj X W (.ListComp elt [⟨tg,iter,ifs,0⟩] scope pos) f:=by unfold ZG at h;obtain⟨it,h1,h⟩:=arN.mp h;obtain⟨⟨js,tf⟩,h2,h⟩:=arN.mp h;obtain⟨tt,h3,h⟩:=arN.mp h;obtain⟨te,h4,h⟩:=arN.mp h;obtain⟨hb,h⟩:=aY.mp h;cases h;simp only[arP,ar9]at hb;obtain⟨b1,b2,b3⟩:=hb;exact alZ a.calm a.nd (o.oi a h1) (by rw[a.hN,a.hs];exact b1) (pH b2) (λs H C cl fp=>vA (a.inn scope s H C cl fp) h2) (λs H C cl fp=>wJ o (a.inn scope s H C cl fp) h3) (λs H C cl fp=>o.oe (a.inn scope s H C cl fp) h4) (rM b3)
def Z8(t:Tr)(c:Tc)(x:Str)(e:Expr)(es:List Expr):Option QF:=match c.G.lookup x with
 |some (.fq n m)=>(GX t c (e::es)).bind λas=>gd (FW c.sc x&&(!Hu x&&decide ((e::es).length=n))) (some (aV m as))
 |some _=>none
 |none=>match es with
  |[]=>(b1D x).bind λo=>(t.W c e).bind λfa=>gd (tX c x x&&nst e) (some (eV o fa))
  |[.Name y p]=>match x=="isinstance" with
   |true=>(tyN y).bind λty=>(t.W c e).bind λfa=>gd (tX c x x&&(tX c y y&&nst e)) (some (yg ty fa))
   |false=>(b2D x).bind λo=>(t.W c e).bind λfa=>(t.W c (.Name y p)).bind λfb=>gd (tX c x x&&nst e) (some (aA o fa fb))
  |[e2]=>(b2D x).bind λo=>(t.W c e).bind λfa=>(t.W c e2).bind λfb=>gd (tX c x x&&(nst e&&nst e2)) (some (aA o fa fb))
  |_=>none
theorem adN{aj:aR}{c:Tc}{X:Cx}{W:WX}{k:Nat}{x:Str}{o:Dat->Dat->Out Dat}{a b:Expr}{fa fb:QF}{p pos:Pos}(am:Amb aj c X W k)(h:b2D x=some o)(hg:tX c x x=true)(ha:QW aj X W a fa)(hb:QW aj X W b fb)(hs:nst a=true)(hs2:nst b=true):QE aj X W (.Call (.Name x p) [a,b] [] pos) (aA o fa fb):=by obtain⟨f,id,r,hf,hc,ho,hv⟩:=ai3 am.calm h aj W;obtain⟨_,hg,hm⟩:=mO am hg;exact amy hf hc ho hg hm hv ha hb hs hs2
theorem adA{aj:aR}{c:Tc}{X:Cx}{W:WX}{k:Nat}{t:Tr}(o:t.Ok)(a:Amb aj c X W k){x:Str}{e:Expr}{es:List Expr}{p pos:Pos}{f:QF}(h:Z8 t c x e es=some f):QE aj X W (.Call (.Name x p) (e::es) [] pos) f:=by
 unfold Z8 at h;split at h
 ·next n m hl=>
  obtain⟨as,h1,h⟩:=arN.mp h;obtain⟨hb,h⟩:=aY.mp h;cases h;simp only[arP,ar9,ato]at hb;obtain⟨b1,b2,b3⟩:=hb;obtain⟨fa,hm,hk,fd,ps,j,hj,hp,hB,F⟩:=a.gl x _ hl;obtain⟨i1,i2,i3⟩:=sW o a h1;exact aiQ a.tk F (a.rm.mono hj) (tG a b1) hm hk hB i1 (b3.trans hp.symm) (tR b2).1 i2 i3
 ·cases h
 ·split at h
  ·obtain⟨o1,h1,h⟩:=arN.mp h;obtain⟨fa,h2,h⟩:=arN.mp h;obtain⟨hb,h⟩:=aY.mp h;cases h;rw[arP]at hb;obtain⟨f,id,r,hf,hc,ho,hv⟩:=ajH a.calm h1 aj W;obtain⟨_,hg,hm⟩:=mO a hb.1;exact ag3 hf hc ho hg hm hv (o.ow a h2) hb.2
  ·split at h
   ·next ex=>
    obtain⟨ty,h1,h⟩:=arN.mp h;obtain⟨fa,h2,h⟩:=arN.mp h;obtain⟨hb,h⟩:=aY.mp h;cases h;simp only[arP]at hb;obtain⟨b1,b2,b3⟩:=hb;obtain⟨_,hg,hm⟩:=mO a b1;obtain⟨_,hg2,hm2⟩:=mO a b2;cases eq_of_beq ex;exact ajB hg hm ⟨by decide +kernel,by decide,by decide⟩ hg2 hm2 (ajD h1) (o.ow a h2) b3
   ·obtain⟨o1,h1,h⟩:=arN.mp h;obtain⟨fa,h2,h⟩:=arN.mp h;obtain⟨fb,h3,h⟩:=arN.mp h;obtain⟨hb,h⟩:=aY.mp h;cases h;rw[arP]at hb;exact adN a h1 hb.1 (o.ow a h2) (o.ow a h3) hb.2 rfl
  ·obtain⟨o1,h1,h⟩:=arN.mp h;obtain⟨fa,h2,h⟩:=arN.mp h;obtain⟨fb,h3,h⟩:=arN.mp h;obtain⟨hb,h⟩:=aY.mp h;cases h;simp only[arP]at hb;exact adN a h1 hb.1 (o.ow a h2) (o.ow a h3) hb.2.1 hb.2.2
  ·cases h
def stE(t:Tr)(c:Tc):Expr->Option QF
 |.Name x _=>(match KD c x with
  |some i=>some (aq i)
  |none=>match c.G.lookup x with
   |some (.con d)=>gd (FW c.sc x&&!Hu x) (some (qC d))
   |_=>none)
 |.Constant (.int i) _ _=>some (qC (.int i))
 |.Constant (.str x) _ _=>some (qC (.str x))
 |.Constant (.bool x) _ _=>some (qC (.bool x))
 |.Constant .none _ _=>some (qC .none)
 |.BinOp a op b _=>(akK op).bind λo=>(t.W c a).bind λfa=>(t.W c b).bind λfb=>some (aA o fa fb)
 |.UnaryOp .USub a _=>(t.W c a).bind λfa=>some (eV Qx fa)
 |.UnaryOp .Not a _=>(t.W c a).bind λfa=>some (Sh fa)
 |.BoolOp _ [a] _=>t.E c a
 |.BoolOp .And (a::b::r) p=>(t.E c a).bind λfa=>(t.E c (.BoolOp .And (b::r) p)).bind λfb=>some (yc fa fb)
 |.BoolOp .Or (a::b::r) p=>(t.E c a).bind λfa=>(t.E c (.BoolOp .Or (b::r) p)).bind λfb=>some (af9 fa fb)
 |.Compare a [op] [b] _=>(match isN op with
  |some neg=>(Ux b).bind λd=>(t.W c a).bind λfa=>some (xK neg d fa)
  |none=>(Qy op).bind λo=>(t.W c a).bind λfa=>(t.W c b).bind λfb=>gd (!zm b) (some (aA o fa fb)))
 |.Compare a [op,op'] [b,b2] _=>(Qy op).bind λo=>(Qy op').bind λo'=>(t.W c a).bind λfa=>(t.W c b).bind λfb=>(t.W c b2).bind λfc=>gd (!zm b2) (some (Tn (lN o o' fa fb fc)))
 |.IfExp d a b _=>(t.T c d).bind λta=>(t.E c a).bind λfa=>(t.E c b).bind λfb=>some (S7 ta fa fb)
 |.Tuple es _ _=>(GX t c es).bind λfr=>some (bB fr)
 |.List es _=>(GX t c es).bind λfr=>some (vP fr)
 |.Subscript a b _=>(match b with
  |.Slice lo hi none _=>(t.W c a).bind λfa=>(trO t c lo).bind λfl=>(trO t c hi).bind λfh=>some (OJ fa fl fh)
  |b=>gd (!YX b) ((t.W c a).bind λfa=>(t.W c b).bind λfb=>some (aA aP fa fb)))
 |.ListComp elt [⟨tg,iter,ifs,0⟩] scope _=>ZG t c elt tg iter ifs scope
 |.Call (.Name x _) (e::es) [] _=>Z8 t c x e es
 |_=>none
def stW(t:Tr)(c:Tc):Expr->Option QF
 |.Name x p=>(match KD c x with
  |some i=>some (ao i)
  |none=>t.E c (.Name x p))
 |e=>t.E c e
def valT:Expr->Bool
 |.UnaryOp .Not _ _=>false
 |.BoolOp _ _ _=>false
 |.IfExp _ _ _ _=>false
 |.Compare _ _ _ _=>false
 |_=>true
theorem ahV{e:Expr}{env:PySem.Env}(h:valT e=true):∀whole,isTrue e env whole=(do let v ←whole;standAt e.pos;holding [v] (truthy v)):=λwhole=>by
 cases e with
 | UnaryOp o a p=>cases o<;>first | (with_unfolding_all rfl) | cases h
 |BoolOp _ _ _=>cases h
 |IfExp _ _ _ _=>cases h
 |Compare _ _ _ _=>cases h
 |_=>with_unfolding_all rfl
def stT(t:Tr)(c:Tc):Expr->Option QT
 |.UnaryOp .Not a _=>(t.T c a).bind λta=>some (jZ ta)
 |.BoolOp _ [a] _=>t.T c a
 |.BoolOp .And (a::b::r) p=>(t.T c a).bind λta=>(t.T c (.BoolOp .And (b::r) p)).bind λtb=>some (jK ta tb)
 |.BoolOp .Or (a::b::r) p=>(t.T c a).bind λta=>(t.T c (.BoolOp .Or (b::r) p)).bind λtb=>some (JF ta tb)
 |.Compare a [op] [b] _=>(match isN op with
  |some neg=>(Ux b).bind λd=>(t.W c a).bind λfa=>some (bh (xK neg d fa))
  |none=>(Qy op).bind λo=>(t.W c a).bind λfa=>(t.W c b).bind λfb=>gd (!zm b) (some (bh (aA o fa fb))))
 |.Compare a [op,op'] [b,b2] _=>(Qy op).bind λo=>(Qy op').bind λo'=>(t.W c a).bind λfa=>(t.W c b).bind λfb=>(t.W c b2).bind λfc=>gd (!zm b2) (some (lN o o' fa fb fc))
 |e=>gd (valT e) ((t.W c e).bind λfa=>some (jh fa))
def trF(t:Tr)(c:Tc)(firm:Bool)(e:Expr):Option QF:=match firm with
 |true=>t.E c e
 |false=>t.W c e
def isTup:Expr->Bool
 |.Tuple _ _ _=>true
 |_=>false
def stI(t:Tr)(c:Tc)(firm:Bool)(tg:Expr):Expr->Option IF
 |.Call (.Name x p) [a] [] pos=>(match tX c x "range" with
  |true=>(t.W c a).bind λfa=>gd (nst a) (some (Cj fa))
  |false=>match tX c x "enumerate" with
   |true=>(trF t c firm a).bind λfa=>gd (nst a&&isTup tg) (some (wV 0 fa))
   |false=>(trF t c firm (.Call (.Name x p) [a] [] pos)).bind λfa=>some (cR fa))
 |.Call (.Name x p) [a,b] [] pos=>(match tX c x "range" with
  |true=>(t.W c a).bind λfa=>(t.W c b).bind λfb=>gd (nst a&&nst b) (some (Ck fa fb))
  |false=>match tX c x "zip" with
   |true=>(trF t c firm a).bind λfa=>(trF t c firm b).bind λfb=>gd (nst a&&(nst b&&isTup tg)) (some (Jk fa fb))
   |false=>(trF t c firm (.Call (.Name x p) [a,b] [] pos)).bind λfa=>some (cR fa))
 |.Call (.Name x p) [a] [⟨some kw,.Constant (.int i) j kp,kp2⟩] pos=>gd (tX c x "enumerate"&&(kw=="start"&&(decide (-(2 ^ 63)<=i/\i < 2 ^ 63)&&(nst a&&isTup tg)))) ((trF t c firm a).bind λfa=>some (wV i fa))
 |e=>(trF t c firm e).bind λfa=>some (cR fa)
theorem Zi{b:Expr}(h:(!YX b)=true):PlainIx b:=λv i=>by
 cases b<;>first | rfl | cases h
section
variable{aj:aR}{c:Tc}{X:Cx}{W:WX}{k:Nat}{t:Tr}
theorem alh(o:t.Ok)(a:Amb aj c X W k){e:Expr}{f:QF}(h:stE t c e=some f):QE aj X W e f:=by
 unfold stE at h;split at h
 ·split at h
  ·next i hi=>
   cases h;obtain⟨s1,s2,s3,s4⟩:=Aj a hi;exact ajp s1 s2 s3 s4
  ·split at h
   ·next d hl=>
    obtain⟨hb,h⟩:=aY.mp h;cases h;simp only[arP,ar9]at hb;obtain⟨v,u,h1,h2,h3⟩:=a.gl _ _ hl;exact PE.weak (pe_glob (tG a hb.1) h1 h2 (tR hb.2).1) λσ H Q ⟨g,Z,M,I,z⟩=>z v H (Ex.refl H) (h3 g H)
   ·cases h
 ·cases h;exact akh
 ·cases h;exact akv
 ·cases h;exact amW
 ·cases h;exact ajs
 ·obtain⟨op,h1,h⟩:=arN.mp h;obtain⟨fa,h2,h⟩:=arN.mp h;obtain⟨fb,h3,h⟩:=arN.mp h;cases h;obtain⟨r,r1,r2⟩:=ahW h1 X aj W;exact akb r1 r2 (o.ow a h2) (o.ow a h3)
 ·obtain⟨fa,h2,h⟩:=arN.mp h;cases h;exact ajv (o.ow a h2)
 ·obtain⟨fa,h2,h⟩:=arN.mp h;cases h;exact ahA (o.ow a h2)
 ·exact pe_one (o.oe a h)
 ·obtain⟨fa,h2,h⟩:=arN.mp h;obtain⟨fb,h3,h⟩:=arN.mp h;cases h;exact ahU (o.oe a h2) (o.oe a h3)
 ·obtain⟨fa,h2,h⟩:=arN.mp h;obtain⟨fb,h3,h⟩:=arN.mp h;cases h;exact ajG (o.oe a h2) (o.oe a h3)
 ·split at h
  ·next neg hn=>
   obtain⟨d,h1,h⟩:=arN.mp h;obtain⟨fa,h2,h⟩:=arN.mp h;cases h;obtain⟨v,v1,v2,v3⟩:=aa8 (X:=X) h1;refine amV v1 (aea hn v2) (o.ow a h2) v3 (Dj ?_);unfold Ux at h1;split at h1<;>first | rfl | cases h1
  ·obtain⟨op,h1,h⟩:=arN.mp h;obtain⟨fa,h2,h⟩:=arN.mp h;obtain⟨fb,h3,h⟩:=arN.mp h;obtain⟨hb,h⟩:=aY.mp h;cases h;obtain⟨r,r1,r2⟩:=Cp h1 a.rm aj W;exact ahm r1 r2 (o.ow a h2) (o.ow a h3) (Dj (by simpa using hb))
 ·obtain⟨op,h1,h⟩:=arN.mp h;obtain⟨op',h1',h⟩:=arN.mp h;obtain⟨fa,h2,h⟩:=arN.mp h;obtain⟨fb,h3,h⟩:=arN.mp h;obtain⟨fc,h4,h⟩:=arN.mp h;obtain⟨hb,h⟩:=aY.mp h;cases h;obtain⟨r,r1,r2⟩:=Cp h1 a.rm aj W;obtain⟨r',r1',r2'⟩:=Cp h1' a.rm aj W;exact agr r1 r1' r2 r2' (o.ow a h2) (o.ow a h3) (o.ow a h4) (Wt (by simpa using hb))
 ·obtain⟨ta,h1,h⟩:=arN.mp h;obtain⟨fa,h2,h⟩:=arN.mp h;obtain⟨fb,h3,h⟩:=arN.mp h;cases h;exact agb (o.ot a h1) (o.oe a h2) (o.oe a h3)
 ·obtain⟨fr,h1,h⟩:=arN.mp h;cases h;exact ajI (sW o a h1).1
 ·obtain⟨fr,h1,h⟩:=arN.mp h;cases h;exact ajJ (sW o a h1).1
 ·split at h
  ·obtain⟨fa,h1,h⟩:=arN.mp h;obtain⟨fl,h2,h⟩:=arN.mp h;obtain⟨fh,h3,h⟩:=arN.mp h;cases h;exact ame (o.ow a h1) (aeT o a h2) (aeT o a h3)
  ·obtain⟨hb,h⟩:=aY.mp h;obtain⟨fa,h1,h⟩:=arN.mp h;obtain⟨fb,h2,h⟩:=arN.mp h;cases h;exact amH (o.ow a h1) (o.ow a h2) (Zi hb)
 ·exact abH o a h
 ·exact adA o a h
 ·cases h
theorem akL(o:t.Ok)(a:Amb aj c X W k){e:Expr}{f:QF}(h:stW t c e=some f):QW aj X W e f:=by
 unfold stW at h;split at h
 ·split at h
  ·next i hi=>
   cases h;obtain⟨s1,s2,s3,s4⟩:=Aj a hi;exact akH s1 s2 s3 s4
  ·exact(o.oe a h).w
 ·exact(o.oe a h).w
theorem akq{a b:Expr}{rest:List Expr}{ta tb:QT}{pos:Pos}(ha:sU aj X W a ta)(hb:sU aj X W (.BoolOp .And (b::rest) pos) tb):sU aj X W (.BoolOp .And (a::b::rest) pos) (jK ta tb):=by have hb':QWt aj X W (.BoolOp .And (b::rest) pos) tb:=⟨λwh pins s σ H Q I q=>hb.run pins s σ H Q I q⟩;exact PW.pt (alr ha hb')
theorem al1{a b:Expr}{rest:List Expr}{ta tb:QT}{pos:Pos}(ha:sU aj X W a ta)(hb:sU aj X W (.BoolOp .Or (b::rest) pos) tb):sU aj X W (.BoolOp .Or (a::b::rest) pos) (JF ta tb):=by have hb':QWt aj X W (.BoolOp .Or (b::rest) pos) tb:=⟨λwh pins s σ H Q I q=>hb.run pins s σ H Q I q⟩;exact PW.pt (amm ha hb')
theorem akc(o:t.Ok)(a:Amb aj c X W k){e:Expr}{f:QT}(h:stT t c e=some f):sU aj X W e f:=by
 unfold stT at h;split at h
 ·obtain⟨ta,h1,h⟩:=arN.mp h;cases h;exact aj0 (o.ot a h1)
 ·next op _ _=>
  cases op
  ·exact PW.pt (pw_and1 (o.ot a h))
  ·exact PW.pt (pw_or1 (o.ot a h))
 ·obtain⟨ta,h1,h⟩:=arN.mp h;obtain⟨tb,h2,h⟩:=arN.mp h;cases h;exact akq (o.ot a h1) (o.ot a h2)
 ·obtain⟨ta,h1,h⟩:=arN.mp h;obtain⟨tb,h2,h⟩:=arN.mp h;cases h;exact al1 (o.ot a h1) (o.ot a h2)
 ·split at h
  ·next neg hn=>
   obtain⟨d,h1,h⟩:=arN.mp h;obtain⟨fa,h2,h⟩:=arN.mp h;cases h;obtain⟨v,v1,v2,v3⟩:=aa8 (X:=X) h1;refine al2 v1 (aea hn v2) (o.ow a h2) v3 (Dj ?_);unfold Ux at h1;split at h1<;>first | rfl | cases h1
  ·obtain⟨op,h1,h⟩:=arN.mp h;obtain⟨fa,h2,h⟩:=arN.mp h;obtain⟨fb,h3,h⟩:=arN.mp h;obtain⟨hb,h⟩:=aY.mp h;cases h;obtain⟨r,r1,r2⟩:=Cp h1 a.rm aj W;exact akI r1 r2 (o.ow a h2) (o.ow a h3) (Dj (by simpa using hb))
 ·obtain⟨op,h1,h⟩:=arN.mp h;obtain⟨op',h1',h⟩:=arN.mp h;obtain⟨fa,h2,h⟩:=arN.mp h;obtain⟨fb,h3,h⟩:=arN.mp h;obtain⟨fc,h4,h⟩:=arN.mp h;obtain⟨hb,h⟩:=aY.mp h;cases h;obtain⟨r,r1,r2⟩:=Cp h1 a.rm aj W;obtain⟨r',r1',r2'⟩:=Cp h1' a.rm aj W;exact agt r1 r1' r2 r2' (o.ow a h2) (o.ow a h3) (o.ow a h4) (Wt (by simpa using hb))
 ·obtain⟨hv,h⟩:=aY.mp h;obtain⟨fa,h1,h⟩:=arN.mp h;cases h;exact ajw (o.ow a h1) (ahV hv)
theorem Dr(o:t.Ok)(a:Amb aj c X W k){firm:Bool}{e:Expr}{f:QF}(h:trF t c firm e=some f):QF' aj X W firm e f:=by
 cases firm
 ·exact o.ow a h
 ·exact o.oe a h
theorem Pu{e:Expr}(h:isTup e=true):∃es j p,e=.Tuple es j p:=by cases e<;>first | exact⟨_,_,_,rfl⟩ | cases h
theorem akC(o:t.Ok)(a:Amb aj c X W k){firm:Bool}{tg e:Expr}{f:IF}(h:stI t c firm tg e=some f):QI aj X W firm tg e f:=by
 unfold stI at h;split at h
 ·split at h
  ·next hb=>
   obtain⟨fa,h1,h⟩:=arN.mp h;obtain⟨hs,h⟩:=aY.mp h;cases h;obtain⟨rfl,hg,hm⟩:=mO a hb;exact aez hg hm (o.ow a h1) hs
  ·split at h
   ·next hb=>
    obtain⟨fa,h1,h⟩:=arN.mp h;obtain⟨hs,h⟩:=aY.mp h;cases h;obtain⟨rfl,hg,hm⟩:=mO a hb;rw[arP]at hs;obtain⟨es,j,p,rfl⟩:=Pu hs.2;exact ah4 hg hm (Dr o a h1) hs.1
   ·obtain⟨fa,h1,h⟩:=arN.mp h;cases h;exact Zq (Dr o a h1)
 ·split at h
  ·next hb=>
   obtain⟨fa,h1,h⟩:=arN.mp h;obtain⟨fb,h2,h⟩:=arN.mp h;obtain⟨hs,h⟩:=aY.mp h;cases h;obtain⟨rfl,hg,hm⟩:=mO a hb;rw[arP]at hs;exact ae9 hg hm (o.ow a h1) (o.ow a h2) hs.1 hs.2
  ·split at h
   ·next hb=>
    obtain⟨fa,h1,h⟩:=arN.mp h;obtain⟨fb,h2,h⟩:=arN.mp h;obtain⟨hs,h⟩:=aY.mp h;cases h;obtain⟨rfl,hg,hm⟩:=mO a hb;simp only[arP]at hs;obtain⟨es,j,p,rfl⟩:=Pu hs.2.2;exact akU hg hm (Dr o a h1) (Dr o a h2) hs.1 hs.2.1
   ·obtain⟨fa,h1,h⟩:=arN.mp h;cases h;exact Zq (Dr o a h1)
 ·obtain⟨hs,h⟩:=aY.mp h;obtain⟨fa,h1,h⟩:=arN.mp h;cases h;simp only[arP,ato]at hs;obtain⟨hb,hk,hi,hn,ht⟩:=hs;obtain⟨rfl,hg,hm⟩:=mO a hb;cases eq_of_beq hk;obtain⟨es,j,p,rfl⟩:=Pu ht;exact afn hi.1 hi.2 hg hm (Dr o a h1) hn
 ·obtain⟨fa,h1,h⟩:=arN.mp h;cases h;exact Zq (Dr o a h1)
end
def MV.n:MV->Nat
 |.q n _=>n
 |.g n _=>n
def MV.qt:MV->Bool
 |.q _ _=>true
 |.g _ _=>false
def tbN(tb:List (Str×MV))(n:Nat):Bool:=tb.all λp=>p.2.n==n
def tbQ(tb:List (Str×MV)):Bool:=tb.all λp=>p.2.qt
theorem qm{α:Type}{c:Str}{v:α}:∀{tb:List (Str×α)},tb.lookup c=some v->(c,v)∈tb
 |[],h=>nomatch h
 |(y,u)::r,h=>by
  rw[asp]at h;split at h
  ·next e=>
   cases h;rw[eq_of_beq e];exact arU
  ·exact arS _ (qm h)
section
variable{aj:aR}{c:Tc}{X:Cx}{W:WX}{k:Nat}{t:Tr}
theorem X4(a:Amb aj c X W k){m:Str}{n:Nat}{tb:List (Str×MV)}(h:c.hs.Ms.lookup m=some tb)(hn:tbN tb n=true):Io X aj k m n tb:=λy v hv=>by
 refine⟨a.hk.ms m tb h y v hv,?_⟩;have:=asj.mp hn _ (qm hv);cases v<;>exact eq_of_beq this
def ZF(t:Tr)(c:Tc)(o:Expr)(m:Str)(es:List Expr)(apos pos:Pos):Option QF:=
 (c.hs.Ms.lookup m).bind λtb=>(t.W c o).bind λfo=>(GX t c es).bind λas=>
  gd (tbQ tb&&(tbN tb (es.length+1)&&(baseOk o&&(decide (es.length < 30)&&(apos.endLine==pos.line))))) (some (aU tb fo as))
theorem aeJ(o:t.Ok)(a:Amb aj c X W k){b:Expr}{m:Str}{es:List Expr}{apos pos:Pos}{f:QF}(h:ZF t c b m es apos pos=some f):QE aj X W (.Call (.Attribute b m apos) es [] pos) f:=by
 unfold ZF at h;obtain⟨tb,h1,h⟩:=arN.mp h;obtain⟨fo,h2,h⟩:=arN.mp h;obtain⟨as,h3,h⟩:=arN.mp h;obtain⟨hb,h⟩:=aY.mp h;cases h;simp only[arP,ato]at hb;obtain⟨_,b2,b3,b4,b5⟩:=hb;obtain⟨i1,i2,i3⟩:=sW o a h3;cases es with
 |nil=>
  cases h3;exact agh a.tk a.rm (X4 a h1 b2) (o.ow a h2) b3 b5
 |cons e es=>exact ahI a.tk a.rm (X4 a h1 b2) (o.ow a h2) i1 i3 b3 i2 b5 b4
def inN:CmpOp->Option Bool
 |.In=>some false
 |.NotIn=>some true
 |_=>none
theorem ae1{op:CmpOp}{neg:Bool}(hr:Room k X.A)(h:inN op=some neg):OpR X (compareOp op) (rInD X neg):=by
 have h65:X.A.units+64 < cLine:=by have:=hr.un;omega
 cases op<;>cases h
 ·exact op_inD h65
 ·exact op_notInD h65
def acV(t:Tr)(c:Tc)(e:Expr)(op:CmpOp)(o:Expr)(f:Str):Option QF:=
 (inN op).bind λneg=>(c.hs.df.lookup f).bind λ_=>(t.E c e).bind λfe=>(t.W c o).bind λfo=>gd (baseOk o) (some (Qc neg f fe fo))
theorem ajz{o e:Expr}{f:Str}{p1 pos:Pos}{fo fk:QF}{neg:Bool}{op:CmpOp}(co:jm X.K aj)(hw:aj.w=X.w)(hr:OpR X (compareOp op) (rInD X neg))(hk:QE aj X W e fk)(ho:QW aj X W o fo)(hb:baseOk o=true):sU aj X W (.Compare e [op] [.Attribute o f p1] pos) (bh (Qc neg f fk fo)):=
 PT.weak (pt_cmpR hr hk (pe_fld ho (mW hb)) (by cases op<;>rfl)) λσ H Q ⟨g,Z,M,I,h⟩=>by
  refine agN co hw σ H _ ⟨g,Z,M,I,h.bnd.mono (λd h1 v H' e' r'=>?_) λ_ z=>z⟩;obtain⟨k,h2,h3⟩:=Ez r'.weak h1;exact⟨k,h2,h3 H' e'⟩
theorem abW(o:t.Ok)(a:Amb aj c X W k){e b:Expr}{op:CmpOp}{m:Str}{p1 pos:Pos}{f:QF}(h:acV t c e op b m=some f):QE aj X W (.Compare e [op] [.Attribute b m p1] pos) f/\sU aj X W (.Compare e [op] [.Attribute b m p1] pos) (bh f):=by unfold acV at h;obtain⟨neg,h1,h⟩:=arN.mp h;obtain⟨_,_,h⟩:=arN.mp h;obtain⟨fe,h2,h⟩:=arN.mp h;obtain⟨fo,h3,h⟩:=arN.mp h;obtain⟨hb,h⟩:=aY.mp h;cases h;exact⟨alI a.hk.co a.hk.hw (ae1 a.rm h1) (o.oe a h2) (o.ow a h3) hb,ajz a.hk.co a.hk.hw (ae1 a.rm h1) (o.oe a h2) (o.ow a h3) hb⟩
def X7(t:Tr)(c:Tc)(e:Expr)(op:CmpOp)(x:Str):Option QF:=
 (inN op).bind λneg=>match c.G.lookup x with
  |some (.dic kvs)=>(t.W c e).bind λfe=>gd (FW c.sc x&&!Hu x) (some (Ud neg kvs fe))
  |_=>none
theorem aaw(o:t.Ok)(a:Amb aj c X W k){e:Expr}{op:CmpOp}{x:Str}{p1 pos:Pos}{f:QF}(h:X7 t c e op x=some f):QE aj X W (.Compare e [op] [.Name x p1] pos) f/\sU aj X W (.Compare e [op] [.Name x p1] pos) (bh f):=by
 unfold X7 at h;obtain⟨neg,h1,h⟩:=arN.mp h;split at h
 ·next kvs hl=>
  obtain⟨fe,h2,h⟩:=arN.mp h;obtain⟨hb,h⟩:=aY.mp h;cases h;simp only[arP,ar9]at hb;refine ai6 ?_ (a.gl x _ hl) (tG a hb.1) (tR hb.2).1 (o.ow a h2);cases op<;>cases h1
  ·exact .inl ⟨rfl,rfl⟩
  ·exact .inr ⟨rfl,rfl⟩
 ·cases h
def Yl(t:Tr)(c:Tc):Expr->Option QF
 |.Call (.Name y _) [b] [] _=>(match tX c y "set" with
  |true=>(t.W c b).bind λfb=>gd (nst b) (some (eV RB fb))
  |false=>(t.W c (.Call (.Name y ⟨0,0,0,0⟩) [b] [] ⟨0,0,0,0⟩)).bind λ_=>none)
 |e=>(t.W c e).bind λfe=>gd (nst e) (some (eV zQ fe))
theorem afu(a:Amb aj c X W k):X.A.units+65 < cLine:=by have:=a.rm.un;omega
theorem aeh(o:t.Ok)(a:Amb aj c X W k)(hg:Gl X "sorted")(hm:X.mg "sorted"=none){e:Expr}{p pos:Pos}{f:QF}(h:Yl t c e=some f):QE aj X W (.Call (.Name "sorted" p) [e] [] pos) f:=by
 unfold Yl at h;split at h
 ·split at h
  ·next hb=>
   obtain⟨fb,h1,h⟩:=arN.mp h;obtain⟨hn,h⟩:=aY.mp h;cases h;obtain⟨rfl,hg2,hm2⟩:=mO a hb;exact ahp (afu a) a.calm hg hm hg2 hm2 (o.ow a h1) hn
  ·obtain⟨_,_,h⟩:=arN.mp h;cases h
 ·obtain⟨fe,h1,h⟩:=arN.mp h;obtain⟨hn,h⟩:=aY.mp h;cases h;exact ahf (afu a) hg hm (o.ow a h1) hn
def RM(t:Tr)(c:Tc)(elt tg iter:Expr)(ifs:List Expr)(tg1 iter1:Expr)(ifs1:List Expr)(scope:Scope):Option QF:=
 (t.I c false tg iter).bind λit=>(V8 (c.inn scope) tg).bind λjt=>(Va t (c.inn scope) ifs).bind λtt=>(t.I (c.inn scope) true tg1 iter1).bind λit1=>(V8 (c.inn scope) tg1).bind λjt1=>(Va t (c.inn scope) ifs1).bind λtt1=>(t.E (c.inn scope) elt).bind λte=>
  gd (blkC c.N c.sc scope (pX tg jt.1++pX tg1 jt1.1)&&(Pj ((pX tg1 jt1.1).map (·.2)) ((pX tg jt.1++pX tg1 jt1.1).map (·.2))&&(Pj jt.1 ((pX tg jt.1++pX tg1 jt1.1).map (·.2))&&(Pj jt1.1 ((pX tg1 jt1.1).map (·.2))&&(!zm iter&&!zm iter1)))))
   (some (Dy it jt.2 ((pX tg jt.1++pX tg1 jt1.1).map (·.2)) tt it1 jt1.2 ((pX tg1 jt1.1).map (·.2)) tt1 te))
theorem afw(o:t.Ok)(a:Amb aj c X W k){elt tg iter tg1 iter1:Expr}{ifs ifs1:List Expr}{scope:Scope}{pos:Pos}{f:QF}(h:RM t c elt tg iter ifs tg1 iter1 ifs1 scope=some f):QE aj X W (.ListComp elt [⟨tg,iter,ifs,0⟩,⟨tg1,iter1,ifs1,0⟩] scope pos) f:=by unfold RM at h;obtain⟨it,h1,h⟩:=arN.mp h;obtain⟨⟨js,tf⟩,h2,h⟩:=arN.mp h;obtain⟨tt,h3,h⟩:=arN.mp h;obtain⟨it1,h4,h⟩:=arN.mp h;obtain⟨⟨js1,tf1⟩,h5,h⟩:=arN.mp h;obtain⟨tt1,h6,h⟩:=arN.mp h;obtain⟨te,h7,h⟩:=arN.mp h;obtain⟨hb,h⟩:=aY.mp h;cases h;simp only[arP,ar9]at hb;obtain⟨b1,b2,b3,b4,b5,b6⟩:=hb;exact ajT a.calm a.nd (o.oi a h1) (by rw[a.hN,a.hs];exact b1) (pH b2) (pH b3) (pH b4) (λs H C cl fp=>vA (a.inn _ s H C cl fp) h2) (λs H C cl fp=>wJ o (a.inn _ s H C cl fp) h3) (λs H C cl fp=>o.oi (a.inn _ s H C cl fp) h4) (λs H C cl fp=>vA (a.inn _ s H C cl fp) h5) (λs H C cl fp=>wJ o (a.inn _ s H C cl fp) h6) (λs H C cl fp=>o.oe (a.inn _ s H C cl fp) h7) (rM b5) (λenv=>rM b6)
def afc(ds:List Dat):Bool:=ds.all λx=>(match x with
 |.none=>false
 |_=>true)&&ds.all λy=>PySem.W.alike x y
theorem ajx{ds:List Dat}(h:afc ds=true):PySem.W.AlikeAll ds:=by unfold afc at h;simp only[asj,arP]at h;refine⟨λx hx y hy=>(h x hx).2 y hy,λx hx z=>?_⟩;have:=(h x hx).1;rw[z]at this;cases this
def ZD:List Dat->Out Dat
 |[]=>.bad
 |y::ys=>Out.when (lZ 12 (y::ys)&&afc (y::ys)) (.ok (PySem.W.minD y ys))
def N8:Dat->Dat->Out Dat
 |.list ds,e=>match intsOf ds with
  |some []=>Out.when (Eo e) (.ok e)
  |some (n::ns)=>.ok (.int (ns.foldl min n))
  |none=>ZD ds
 |_,_=>.bad
theorem V2{K:arO}{H:Hp}{a:Addr}{ns:List Int}{d:V}{Q:VK}(h:SqL K H a (ns.map V.int))(q0:ns=[]->Q d H)(q:∀n r,ns=n::r->Q (.int (r.foldl min n)) H):Ear.yJ K [.ref a] [d] H Q:=by
 have al:PySem.W.AlikeAll (ns.map PyData.int):=by
  refine⟨λx hx y hy=>?_,λx hx=>?_⟩
  ·obtain⟨i,_,rfl⟩:=arY.mp hx;obtain⟨j,_,rfl⟩:=arY.mp hy;simp[PySem.W.alike]
  ·obtain⟨i,_,rfl⟩:=arY.mp hx;exact λz=>by cases z
 unfold Ear.yJ;refine⟨a,_,ns.map PyData.int,d,rfl,rfl,h,Ear.HF ns,al,by rw[(Ear.lay_ints ns).2];decide,λe=>q0 (List.map_eq_nil_iff.mp e),λy ys i x e gx gd=>?_⟩;cases ns with
 |nil=>cases e
 |cons n ns=>
  rw[arT]at e;injection e with e1 e2;subst e1 e2;rw[PySem.W.minD_ints]at gd;obtain⟨m,hm,rfl⟩:∃m,(n::ns)[i]?=some m/\x=.int m:=by rw[ar5]at gx;obtain⟨m,a1,a2⟩:=asx.mp gx;exact⟨m,a1,a2.symm⟩
  have em:m=ns.foldl min n:=by have gd':((n::ns).map PyData.int)[i]?=some (.int (ns.foldl min n)):=gd;rw[ar5,hm]at gd';exact PyData.int.inj (ase gd')
  rw[em];exact q n ns rfl
theorem ac2{K:arO}{g:Gh}{H:Hp}{ds:List Dat}{v v2:V}{P:Dat->Prop}{E:dG->Prop}{Q:VK}(r:dX K g H v (.list ds))(h:(ZD ds).sat P E)(hq:∀z u,P z->Rep K g H u z->Q u H):Ear.yJ K [v] [v2] H Q:=by
 cases ds with
 |nil=>exact atn h
 |cons y ys=>
  obtain⟨hb,h⟩:=h.pJ;rw[arP]at hb;obtain⟨p,us,rfl,k1,k2⟩:=gH r;unfold Ear.yJ;refine⟨p,us,y::ys,v2,rfl,rfl,k1,k2.dp hb.1,ajx hb.2,asl (Ig _ _ hb.1).2 (by decide),(λz=>nomatch z),λy' ys' i x e gx gd=>?_⟩;cases e;obtain⟨d',g1,g2⟩:=k2.get' gx;rw[gd]at g1;cases g1;exact hq _ _ h g2
theorem agl{a b:Expr}{fa fb:QF}{p pos kp:Pos}(hu:X.A.units+65 < cLine)(hc:X.calm=true)(hg:Gl X "min")(hm:X.mg "min"=none)(ha:QW aj X W a fa)(hb:QW aj X W b fb)(hs:nst a=true):QE aj X W (.Call (.Name "min" p) [a] [⟨some "default",b,kp⟩] pos) (aA N8 fa fb):=by
 have key:PE X (.Call (.Name "min" p) [a] [⟨some "default",b,kp⟩] pos) (tCKw (Ear.yJ X.K) (tCons (tW X.K aj W fa) tNil) (tCons (tW X.K aj W fb) tNil)):=
  pe_callBK (Ear.aeb hu hc) hg hm (by decide +kernel) (pa_cons ha pa_nil (cJ hs [])) (pk_cons hb pk_nil) (by decide) (by decide) (by unfold backTo;rw[cJ hs []];rfl) (star_any [a] (by simp[hs])) (by with_unfolding_all rfl) (by with_unfolding_all rfl) (by with_unfolding_all rfl)
 refine PE.weak key λσ H Q ⟨g,Z,M,I,h⟩=>?_;refine tW.go I h.bnd λd v H1 h1 e1 r1=>?_;have I1:=I.ex e1;refine tW.go I1 (h1.bnd.mono (λ_ z=>z) λ_ z=>z.ex e1) λd2 v2 H2 h2 e2 r2=>?_;have r1':=r1.ex e2 I1.kd;unfold N8 at h2;split at h2
 ·split at h2
  ·next hi=>
   obtain⟨p,us,rfl,k1,k2⟩:=gH r1';have:=xU k2 hi;subst this;refine V2 k1 (λ_=>?_) λn r z=>nomatch z;cases hf:Eo d2 with
   |true=>
    rw[hf]at h2;exact h2 _ H2 (e1.trans e2) (abR hf r2)
   |false=>rw[hf]at h2;exact atn h2
  ·next n ns hi=>
   obtain⟨p,us,rfl,k1,k2⟩:=gH r1';have:=xU k2 hi;subst this;refine V2 k1 (λz=>nomatch z) λn' r z=>?_;cases z;exact h2 _ H2 (e1.trans e2) (.int _)
  ·exact ac2 r1' h2 λz u hz ru=>hz u H2 (e1.trans e2) ru
 ·exact atn h2
def xE(t:Tr)(c:Tc):Expr->Option QF
 |.Call (.Name x _) [a] [⟨some y,b,_⟩] _=>(match tX c x "min" with
  |true=>(t.W c a).bind λfa=>(t.W c b).bind λfb=>gd (y=="default"&&nst a) (some (aA N8 fa fb))
  |false=>none)
 |.Attribute o f _=>gd (baseOk o) ((t.W c o).bind λfo=>some (gQ f fo))
 |.Call (.Attribute o m apos) es [] pos=>ZF t c o m es apos pos
 |.Compare e [op] [.Attribute o f _] _=>acV t c e op o f
 |.Compare e [op] [.Name x _] _=>X7 t c e op x
 |.Subscript (.Name x _) e _=>(match c.G.lookup x with
  |some (.dic kvs)=>(t.W c e).bind λfe=>gd (FW c.sc x&&(!Hu x&&!YX e)) (some (acB kvs fe))
  |_=>none)
 |.ListComp elt [⟨tg,iter,ifs,0⟩,⟨tg1,iter1,ifs1,0⟩] scope _=>RM t c elt tg iter ifs tg1 iter1 ifs1 scope
 |.Call (.Name x _) [e] [] _=>(match tX c x "sorted" with
  |true=>Yl t c e
  |false=>match tX c x "list",e with
   |true,.Attribute o f _=>(c.hs.df.lookup f).bind λ_=>(t.W c o).bind λfo=>gd (baseOk o) (some (Du f fo))
   |_,_=>none)
 |_=>none
theorem amu(o:t.Ok)(a:Amb aj c X W k){e:Expr}{f:QF}(h:xE t c e=some f):QE aj X W e f:=by
 unfold xE at h;split at h
 ·split at h
  ·next hb=>
   obtain⟨fa,h1,h⟩:=arN.mp h;obtain⟨fb,h2,h⟩:=arN.mp h;obtain⟨hd,h⟩:=aY.mp h;cases h;rw[arP]at hd;obtain⟨rfl,hg,hm⟩:=mO a hb;cases eq_of_beq hd.1;exact agl (afu a) a.calm hg hm (o.ow a h1) (o.ow a h2) hd.2
  ·cases h
 ·obtain⟨hb,h⟩:=aY.mp h;obtain⟨fo,h1,h⟩:=arN.mp h;cases h;exact ak9 a.hk.co (o.ow a h1) hb
 ·exact aeJ o a h
 ·exact(abW o a h).1
 ·exact(aaw o a h).1
 ·split at h
  ·next kvs hl=>
   obtain⟨fe,h1,h⟩:=arN.mp h;obtain⟨hb,h⟩:=aY.mp h;cases h;simp only[arP]at hb;exact ajq (a.gl _ _ hl) (tG a hb.1) (tR (by simpa using hb.2.1)).1 (o.ow a h1) (Zi hb.2.2)
  ·cases h
 ·exact afw o a h
 ·split at h
  ·next hb=>
   obtain⟨rfl,hg,hm⟩:=mO a hb;exact aeh o a hg hm h
  ·split at h
   ·next hb=>
    obtain⟨_,_,h⟩:=arN.mp h;obtain⟨fo,h1,h⟩:=arN.mp h;obtain⟨hb2,h⟩:=aY.mp h;cases h;obtain⟨rfl,hg,hm⟩:=mO a hb;exact afd a.hk.co a.hk.hw a.calm hg hm (o.ow a h1) hb2
   ·cases h
 ·cases h
def xW(t:Tr)(c:Tc):Expr->Option QF
 |.Attribute o f _=>gd (baseOk o) ((t.W c o).bind λfo=>some (bL f fo))
 |_=>none
theorem am1(o:t.Ok)(a:Amb aj c X W k){e:Expr}{f:QF}(h:xW t c e=some f):QW aj X W e f:=by
 unfold xW at h;split at h
 ·obtain⟨hb,h⟩:=aY.mp h;obtain⟨fo,h1,h⟩:=arN.mp h;cases h;exact akS a.hk.co (o.ow a h1) hb
 ·cases h
def xT(t:Tr)(c:Tc):Expr->Option QT
 |.Compare e [op] [.Attribute o f _] _=>(acV t c e op o f).bind λg=>some (bh g)
 |.Compare e [op] [.Name x _] _=>(X7 t c e op x).bind λg=>some (bh g)
 |_=>none
theorem amt(o:t.Ok)(a:Amb aj c X W k){e:Expr}{f:QT}(h:xT t c e=some f):sU aj X W e f:=by
 unfold xT at h;split at h
 ·obtain⟨g,h1,h⟩:=arN.mp h;cases h;exact(abW o a h1).2
 ·obtain⟨g,h1,h⟩:=arN.mp h;cases h;exact(aaw o a h1).2
 ·cases h
def xI(t:Tr)(c:Tc)(firm:Bool):Expr->Option IF
 |.Attribute o f _=>(match firm with
  |true=>none
  |false=>(c.hs.df.lookup f).bind λ_=>gd (baseOk o) ((t.W c o).bind λfo=>some (Dg f fo)))
 |_=>none
theorem am0(o:t.Ok)(a:Amb aj c X W k){firm:Bool}{tg e:Expr}{f:IF}(h:xI t c firm e=some f):QI aj X W firm tg e f:=by
 unfold xI at h;split at h
 ·split at h
  ·cases h
  ·obtain⟨_,_,h⟩:=arN.mp h;obtain⟨hb,h⟩:=aY.mp h;obtain⟨fo,h1,h⟩:=arN.mp h;cases h;exact afl a.hk.co a.hk.hw (o.ow a h1) hb
 ·cases h
def els{α:Type}(a b:Option α):Option α:=match a with
 |some x=>some x
 |none=>b
theorem v9{α:Type}{a b:Option α}{x:α}(h:els a b=some x):a=some x∨b=some x:=by
 cases a with
 |none=>exact .inr h
 |some y=>exact .inl h
def xtE(t:Tr)(c:Tc)(e:Expr):Option QF:=els (xE t c e) (stE t c e)
def xtW(t:Tr)(c:Tc)(e:Expr):Option QF:=els (xW t c e) (stW t c e)
def xtT(t:Tr)(c:Tc)(e:Expr):Option QT:=els (xT t c e) (stT t c e)
def xtI(t:Tr)(c:Tc)(firm:Bool)(tg e:Expr):Option IF:=els (xI t c firm e) (stI t c firm tg e)
end
structure uX(aj:aR)(c:Tc)(X:Cx)(W:WX)(k:Nat):Prop extends Amb aj c X W k where
 ps:PassesOwn (model X.prog X.w) X.A X.env X.xe
 st:X.stack=X.env::X.outer
 fr:X.env.frame=some X.env.locals
 kf:X.env.scope.kind=.function
structure Ts where
 G:Tc->Expr->Option GF
 H:Tc->Expr->Option GT
 S:Tc->Stmt->Option SF
 B:Tc->List Stmt->Option SF
structure Ts.Ok(s:Ts)(q:Bool):Prop where
 og:∀{aj:aR} {c:Tc} {X:Cx} {W:WX} {k:Nat},uX aj c X W k->∀{e:Expr} {f:GF},s.G c e=some f->GE aj X W q e f
 oh:∀{aj:aR} {c:Tc} {X:Cx} {W:WX} {k:Nat},uX aj c X W k->∀{e:Expr} {f:GT},s.H c e=some f->GTe aj X W q e f
 os:∀{aj:aR} {c:Tc} {X:Cx} {W:WX} {k:Nat},uX aj c X W k->∀{e:Stmt} {f:SF},s.S c e=some f->SE aj X W q e f
 ob:∀{aj:aR} {c:Tc} {X:Cx} {W:WX} {k:Nat},uX aj c X W k->∀{e:List Stmt} {f:SF},s.B c e=some f->JN aj X W q e f
def Fq:Expr->Bool
 |.ListComp _ _ _ _=>true
 |.SetComp _ _ _ _=>true
 |.DictComp _ _ _ _ _=>true
 |_=>false
theorem G4{e:Expr}{tg:Option Expr}{l:Nat}{env:PySem.Env}(h:Fq e=false):swapsWith e tg l env=pure false:=by cases e<;>first | rfl | cases h
def acH:Expr->Bool
 |.Tuple _ _ _=>true
 |_=>false
def swB(sc:Scope)(v:Expr)(scope:Scope)(x:Str)(p:Pos):Bool:=(match sc.names.lookup x with
 |some .local=>true
 |_=>false)&&(p.line==v.pos.line&&!(scope.names.any λ(n,k)=>n==x&&(k==.local || k==.cell)))
theorem R4{X:Cx}{elt:Expr}{gens:List Comprehension}{scope:Scope}{pos p:Pos}{x:Str}{l:Nat}(hk:X.env.scope.kind=.function)(h:swB X.env.scope (.ListComp elt gens scope pos) scope x p=true):X.env.scope.names.lookup x=some .local/\swapsWith (.ListComp elt gens scope pos) (some (.Name x p)) l X.env=pure true:=by
 unfold swB at h;simp only[arP]at h;obtain⟨h1,h2,h3⟩:=h;have e1:X.env.scope.names.lookup x=some .local:=by
  split at h1
  ·assumption
  ·cases h1
 refine⟨e1,?_⟩;have eb:X.env.blockKind=.function:=by unfold PySem.Env.blockKind;rw[hk];rfl
 unfold swapsWith
 show(pure (X.env.blockKind==.function&&X.env.kindOf x==some .local&&p.line==(Expr.ListComp elt gens scope pos).pos.line&&!(scope.names.any λ(n,k)=>n==x&&(k==.local || k==.cell))):Sem Bool)=pure true
 rw[eb,h2,h3];unfold PySem.Env.kindOf;rw[e1];rfl
theorem aew{X:Cx}{elt:Expr}{gens:List Comprehension}{scope:Scope}{pos p:Pos}{x:Str}{l:Nat}(h:(p.line==(Expr.ListComp elt gens scope pos).pos.line)=false):swapsWith (.ListComp elt gens scope pos) (some (.Name x p)) l X.env=pure false:=by
 unfold swapsWith
 show(pure (X.env.blockKind==.function&&X.env.kindOf x==some .local&&p.line==(Expr.ListComp elt gens scope pos).pos.line&&!(scope.names.any λ(n,k)=>n==x&&(k==.local || k==.cell))):Sem Bool)=pure false
 rw[h,Bool.and_false,Bool.false_and]
def trN(t:Tr)(c:Tc):Expr->Option IF
 |.List es _=>(GX t c es).bind λfr=>some (O2 fr)
 |_=>none
theorem adX{aj:aR}{c:Tc}{X:Cx}{W:WX}{k:Nat}{t:Tr}(o:t.Ok)(a:Amb aj c X W k){e:Expr}{f:IF}(h:trN t c e=some f):FE aj X W e f/\Fq e=false:=by
 unfold trN at h;split at h
 ·obtain⟨fr,h1,h⟩:=arN.mp h;cases h;exact⟨aji (sW o a h1).1,rfl⟩
 ·cases h
def UJ(c:Tc):List Str->Option (List Nat)
 |[]=>some []
 |x::xs=>(match c.sc.names.lookup x with
  |some .local=>(idx c.N x).bind λi=>(UJ c xs).bind λjs=>some (i::js)
  |_=>none)
theorem aa7{aj:aR}{c:Tc}{X:Cx}{W:WX}{k:Nat}(a:Amb aj c X W k):∀{xs:List Str} {js:List Nat},UJ c xs=some js->xs.length=js.length/\∀(n:Nat) (x:Str) (j:Nat),xs[n]?=some x->js[n]?=some j->X.N[j]?=some x/\X.env.scope.names.lookup x=some .local
 |[],js,h=>by
  cases h;exact⟨rfl,λn x j e=>by simp at e⟩
 |x::xs,js,h=>by
  rw[UJ]at h;split at h
  ·next e=>
   obtain⟨i,h1,h⟩:=arN.mp h;obtain⟨r,h2,h⟩:=arN.mp h;cases h;obtain⟨i1,i2⟩:=aa7 a h2;refine⟨by simp[i1],λn y j e1 e2=>?_⟩;cases n with
   |zero=>
    simp at e1 e2;subst e1 e2;exact⟨by rw[a.hN];exact Gm h1,by rw[a.hs];exact e⟩
   |succ n=>exact i2 n y j (by simpa using e1) (by simpa using e2)
  ·cases h
def nmE:Expr->Option (Str×Nat)
 |.Name x p=>some (x,p.line)
 |_=>none
def Uy:List Expr->Option (List (Str×Nat))
 |[]=>some []
 |e::es=>(nmE e).bind λx=>(Uy es).bind λr=>some (x::r)
def pnB(c:Tc)(ts vs:List Expr):Option (List Nat):=
 (Uy ts).bind λnls=>gd ((ts.length==2 || ts.length==3)&&(vs.length==ts.length&&(vs.all nst&&(nls.all (λp=>p.2==((ts.head?.map (·.pos.line)).getD 0))&&((nls.map (·.1)).eraseDups.length==nls.length&&(!(vs.all (foldedForSure 8))&&!(vs.all (constantsAlone 8)))))))) (UJ c (nls.map (·.1)))
theorem Yn:∀{ts:List Expr} {nls:List (Str×Nat)},Uy ts=some nls->nls.length=ts.length
 |[],_,h=>by cases h;rfl
 |e::es,_,h=>by
  rw[Uy]at h;obtain⟨x,h1,h⟩:=arN.mp h;obtain⟨r,h2,h⟩:=arN.mp h;cases h;simp[Yn h2]
theorem Q8{sc:Scope}{l:Nat}:∀{ts:List Expr} {nls:List (Str×Nat)},Uy ts=some nls->nls.all (λp=>p.2==l)=true->(∀x∈nls.map (·.1),sc.names.lookup x=some .local)->
  (ts.filterMap λe=>match e with
  |.Name id pos=>if sc.names.lookup id==some .local&&pos.line==l then some id else none
  |_=>none)=nls.map (·.1)
 |[],_,h,_,_=>by cases h;rfl
 |e::es,_,h,hl,hk=>by
  rw[Uy]at h;obtain⟨x,h1,h⟩:=arN.mp h;obtain⟨r,h2,h⟩:=arN.mp h;cases h;rw[asC,arP]at hl;have ih:=Q8 (sc:=sc) h2 hl.2 λy hy=>hk y (arS _ hy);cases e with
  |Name y p=>
   cases h1;have e1:=hk y arU;have e2:(if sc.names.lookup y==some .local&&p.line==l then some y else none)=some y:=by rw[e1,show(p.line==l)=true from hl.1];rfl
   simp only[List.filterMap_cons,e2,ih,arT]
  |_=>cases h1
theorem Kh:∀(n:Nat) (l:List Str),l.length=n->l.eraseDups.length=l.length->l.Nodup:=by
 intro n
 induction n using Nat.strongRecOn with
 |_ n ih=>
  intro l hn h;cases l with
  |nil=>exact atg
  |cons a r=>
   rw[ata]at h;simp only[ar6]at h hn;have h1:(r.filter λb=>!b==a).length<=r.length:=ar7 _ _;have h2:∀l:List Str,l.eraseDups.length<=l.length:=by
    intro l
    induction hm:l.length using Nat.strongRecOn generalizing l with
    |_ m ihm=>
     cases l with
     |nil=>simp
     |cons x xs=>
      rw[ata];simp only[ar6]at hm ⊢;have z:(xs.filter λb=>!b==x).length<=xs.length:=ar7 _ _;have:=ihm _ (by omega) (xs.filter λb=>!b==x) rfl;omega
   have h3:=h2 (r.filter λb=>!b==a);have e1:(r.filter λb=>!b==a).length=r.length:=by omega
   have e2:(r.filter λb=>!b==a)=r:=atc.mpr (List.length_filter_eq_length_iff.mp e1);rw[e2]at h;rw[asW];refine⟨λz=>?_,ih r.length (by omega) r rfl (by omega)⟩;have:=atc.mp e2 a z;simp at this
theorem abL{aj:aR}{c:Tc}{X:Cx}{W:WX}{k:Nat}(a:Amb aj c X W k):∀{xs:List Str} {js:List Nat},UJ c xs=some js->xs.Nodup->js.Nodup/\∀j∈js,∃x∈xs,X.N[j]?=some x
 |[],js,h,_=>by
  cases h;exact⟨atg,λj hj=>by simp at hj⟩
 |x::xs,js,h,nd=>by
  rw[UJ]at h;rw[asW]at nd;split at h
  ·next e=>
   obtain⟨i,h1,h⟩:=arN.mp h;obtain⟨r,h2,h⟩:=arN.mp h;cases h;obtain⟨i1,i2⟩:=abL a h2 nd.2;have hi:X.N[i]?=some x:=by rw[a.hN];exact Gm h1
   refine⟨asW.mpr ⟨λz=>?_,i1⟩,λj hj=>?_⟩
   ·obtain⟨y,hy,e2⟩:=i2 i z;rw[hi]at e2;cases e2;exact nd.1 hy
   ·rcases ar4.mp hj with rfl|hj
    ·exact⟨x,arU,hi⟩
    ·obtain⟨y,hy,e2⟩:=i2 j hj;exact⟨y,arS _ hy,e2⟩
  ·cases h
theorem ahC{vs:List Expr}(h:vs.all nst=true):(vs.any λe=>match e with
  |.Starred _ _=>true
  |_=>false)=false:=by
 induction vs with
 |nil=>rfl
 |cons v vs ih=>
  rw[asC,arP]at h;rw[as3,ih h.2,Bool.or_false];cases v<;>first | rfl | cases h.1
theorem ajt{aj:aR}{c:Tc}{X:Cx}{W:WX}{k:Nat}(a:uX aj c X W k){ts vs:List Expr}{js:List Nat}{kt k2:Nat}{pt p2:Pos}(h:pnB c ts vs=some js) :
  ∃xs:List Str,xs.length=js.length/\js.length<=3/\js.Nodup/\(∀(n:Nat) (x:Str) (j:Nat),xs[n]?=some x->js[n]?=some j->X.N[j]?=some x/\X.env.scope.names.lookup x=some .local)/\swappedStores [.Tuple ts kt pt] (.Tuple vs k2 p2) X.env=pure (some xs):=by
 unfold pnB at h;obtain⟨nls,h1,h⟩:=arN.mp h;obtain⟨hb,h⟩:=aY.mp h;simp only[arP,ar9]at hb;obtain⟨b1,b2,b3,b4,b5,b6,b7⟩:=hb;have l1:=Yn h1;obtain⟨i1,i2⟩:=aa7 a.toAmb h;have nd:=Kh _ _ rfl (by rw[arZ];exact eq_of_beq b5);obtain⟨d1,d2⟩:=abL a.toAmb h nd;have hloc:∀x∈nls.map (·.1),X.env.scope.names.lookup x=some .local:=λx hx=>by
  obtain⟨n,hn,e⟩:=List.mem_iff_getElem.mp hx;have hj:n < js.length:=by rw[←i1];exact hn
  exact(i2 n x js[n] (by rw[arR hn,e]) (arR hj)).2
 have hf:=Q8 (sc:=X.env.scope) h1 b4 hloc;have h3:ts.length=2∨ts.length=3:=by rw[atd]at b1;exact b1.imp eq_of_beq eq_of_beq
 refine⟨nls.map (·.1),i1,?_,d1,i2,?_⟩
 ·rw[←i1,arZ,l1];omega
 ·have eb:X.env.blockKind=.function:=by
   unfold PySem.Env.blockKind;rw[a.kf];rfl
  unfold swappedStores;have e1:(!(ts.length==2 || ts.length==3) || vs.length != ts.length || X.env.blockKind != .function)=false:=by rw[b1,eb,eq_of_beq b2];simp
  have e2:=ahC b3;have e3:(nls.map (·.1)).length=ts.length:=by rw[arZ,l1]
  have e4:((nls.map (·.1)).length != ts.length || (nls.map (·.1)).eraseDups.length != (nls.map (·.1)).length)=false:=by rw[e3,eq_of_beq b5,l1];simp
  simp only[e1,asv,if_false];generalize hA:List.filterMap (β:=Str) _ ts=A;have eA:A=nls.map (·.1):=hA.symm.trans hf;subst eA;split
  ·next z=>exact absurd (z.symm.trans e2) (by decide)
  ·rw[e4,b6,b7];rfl
section
variable{X:Cx}{aj:aR}{W:WX}{q:Bool}{e:Expr}{pos:Pos}
theorem aiW{j:Nat}{y:Str}{py:Pos}{elt tg iter:Expr}{cpos:Pos}{scope:Scope}{own:List (Str×Nat)}{it:IF}{tgf:fO}{js:List Nat}{tt:QT}{te:QF}{ifs:List Expr}(hc:X.calm=true)(hN:X.N.Nodup)(hy:X.N[j]?=some y)(hyl:X.env.scope.names.lookup y=some .local)
  (hsw:swapsWith (.ListComp elt [⟨tg,iter,ifs,0⟩] scope cpos) (some (.Name y py)) pos.line X.env=pure true) (hi:QI aj X W false tg iter it) (ok:blkC X.N X.env.scope scope own=true) (hj:∀j∈js,j∈own.map (·.2))
  (hg:∀(s:Shared) (H:Hp) (C:Addr) (cl:List (Str×Addr)) (fp:List Addr),QG aj (X.blk s H scope (compEnvC scope cl C X.env) fp) tg js tgf)
  (ht:∀(s:Shared) (H:Hp) (C:Addr) (cl:List (Str×Addr)) (fp:List Addr),PTs (X.blk s H scope (compEnvC scope cl C X.env) fp) ifs (j7 X.K aj WF tt))
  (he:∀(s:Shared) (H:Hp) (C:Addr) (cl:List (Str×Addr)) (fp:List Addr),QE aj (X.blk s H scope (compEnvC scope cl C X.env) fp) WF elt te) (hs:∀x,foldedSetIterable iter X.env x=pure x) :
  SE aj X W q (.Assign [.Name y py] (.ListComp elt [⟨tg,iter,ifs,0⟩] scope cpos) pos) (Dt j (zV it tgf (own.map (·.2)) tt te)):=by
 refine PS.weak (ps_setLc (g:=Av X.K aj js tgf) (tt:=j7 X.K aj WF tt) (te:=tQ X.K aj WF te) hc hN hy hyl hsw hi (blkOk_by ok) (λs H C cl fp=>hg s H C cl fp) ht (λs H C cl fp=>he s H C cl fp) hs) λD σ H h=>?_;exact Z7 hj σ H _ (aeC D σ H h)
end
def agW(t:Tr)(c:Tc)(elt tg iter:Expr)(ifs:List Expr)(scope:Scope):Option IF:=
 (t.I c false tg iter).bind λit=>(V8 (c.inn scope) tg).bind λjt=>(Va t (c.inn scope) ifs).bind λtt=>(t.E (c.inn scope) elt).bind λte=>
  gd (blkC c.N c.sc scope (pX tg jt.1)&&(Pj jt.1 ((pX tg jt.1).map (·.2))&&!zm iter)) (some (zV it jt.2 ((pX tg jt.1).map (·.2)) tt te))
def Ug(t:Tr)(c:Tc)(x:Str)(p:Pos)(elt tg iter:Expr)(ifs:List Expr)(scope:Scope)(cpos:Pos):Option SF:=
 (vC c x).bind λj=>gd (swB c.sc (.ListComp elt [⟨tg,iter,ifs,0⟩] scope cpos) scope x p || !(p.line==(Expr.ListComp elt [⟨tg,iter,ifs,0⟩] scope cpos).pos.line))
  (match c.ml.contains x with
  |true=>(agW t c elt tg iter ifs scope).bind λf=>some (Dt j f)
  |false=>(ZG t c elt tg iter ifs scope).bind λf=>some (aZ (aF j) (gOf f)))
section
variable{aj:aR}{c:Tc}{X:Cx}{W:WX}{k:Nat}{t:Tr}{q:Bool}
theorem acI(o:t.Ok)(a:uX aj c X W k){x:Str}{p cpos pos:Pos}{elt tg iter:Expr}{ifs:List Expr}{scope:Scope}{f:SF}(h:Ug t c x p elt tg iter ifs scope cpos=some f):SE aj X W q (.Assign [.Name x p] (.ListComp elt [⟨tg,iter,ifs,0⟩] scope cpos) pos) f:=by
 unfold Ug at h;obtain⟨j,hj,h⟩:=arN.mp h;obtain⟨hsw,h⟩:=aY.mp h;obtain⟨s1,s2,s3⟩:=mZ a.toAmb hj;rw[atd]at hsw;split at h
 ·obtain⟨f1,h1,h⟩:=arN.mp h;cases h;unfold agW at h1;obtain⟨it,h2,h1⟩:=arN.mp h1;obtain⟨⟨js,tf⟩,h3,h1⟩:=arN.mp h1;obtain⟨tt,h4,h1⟩:=arN.mp h1;obtain⟨te,h5,h1⟩:=arN.mp h1;obtain⟨hb,h1⟩:=aY.mp h1;cases h1;simp only[arP,ar9]at hb;obtain⟨b1,b2,b3⟩:=hb;rcases hsw with hsw|hsw
  ·rw[←a.hs]at hsw;obtain⟨l1,l2⟩:=R4 (l:=pos.line) a.kf hsw;exact aiW a.calm a.nd s1 l1 l2 (o.oi a.toAmb h2) (by rw[a.hN,a.hs];exact b1) (pH b2) (λs H C cl fp=>vA (a.toAmb.inn scope s H C cl fp) h3) (λs H C cl fp=>wJ o (a.toAmb.inn scope s H C cl fp) h4) (λs H C cl fp=>o.oe (a.toAmb.inn scope s H C cl fp) h5) (rM b3)
  ·exact aeZ a.nd s1 s2 s3 (amQ a.calm a.nd (o.oi a.toAmb h2) (by rw[a.hN,a.hs];exact b1) (pH b2) (λs H C cl fp=>vA (a.toAmb.inn scope s H C cl fp) h3) (λs H C cl fp=>wJ o (a.toAmb.inn scope s H C cl fp) h4) (λs H C cl fp=>o.oe (a.toAmb.inn scope s H C cl fp) h5) (rM b3)) (aew (by simpa using hsw))
 ·obtain⟨f1,h1,h⟩:=arN.mp h;cases h;rcases hsw with hsw|hsw
  ·rw[←a.hs]at hsw;obtain⟨l1,l2⟩:=R4 (l:=pos.line) a.kf hsw;unfold ZG at h1;obtain⟨it,h2,h1⟩:=arN.mp h1;obtain⟨⟨js,tf⟩,h3,h1⟩:=arN.mp h1;obtain⟨tt,h4,h1⟩:=arN.mp h1;obtain⟨te,h5,h1⟩:=arN.mp h1;obtain⟨hb,h1⟩:=aY.mp h1;cases h1;simp only[arP,ar9]at hb;obtain⟨b1,b2,b3⟩:=hb;exact alD a.calm a.nd s1 l1 l2 (o.oi a.toAmb h2) (by rw[a.hN,a.hs];exact b1) (pH b2) (λs H C cl fp=>vA (a.toAmb.inn scope s H C cl fp) h3) (λs H C cl fp=>wJ o (a.toAmb.inn scope s H C cl fp) h4) (λs H C cl fp=>o.oe (a.toAmb.inn scope s H C cl fp) h5) (rM b3)
  ·exact YJ (agA (abH o a.toAmb h1)) (Uh a.nd s1 s2 s3) (aew (l:=pos.line) (by simpa using hsw)) (by with_unfolding_all rfl) (by with_unfolding_all rfl)
end
theorem Cu{tg e:Expr}{l:Nat}{env:PySem.Env}(h:Fq e=false):swapsWithSole [tg] e l env=pure false:=G4 h
def acS(t:Tr)(s:Ts)(c:Tc):Expr->Expr->Option SF
 |.Name x p,.ListComp elt [⟨tg,iter,ifs,0⟩] scope cpos=>Ug t c x p elt tg iter ifs scope cpos
 |.Name x _,e=>(vC c x).bind λj=>match c.ml.contains x with
  |true=>(trN t c e).bind λf=>some (Dt j f)
  |false=>gd (!Fq e) ((s.G c e).bind λf=>some (aZ (aF j) f))
 |.Tuple [.Name x _,.Starred (.Name y _) _] _ _,e=>(vC c x).bind λi=>(vC c y).bind λj=>gd (!Fq e&&!acH e) ((s.G c e).bind λf=>some (X6 i j f))
 |.Tuple ts _ _,.Tuple vs _ _=>(pnB c ts vs).bind λjs=>(GX t c vs).bind λf=>some (sPN js f)
 |.Tuple ts _ _,e=>(ZM c ts).bind λjs=>gd (!Fq e&&!acH e) ((s.G c e).bind λf=>some (aZ (bH js) f))
 |_,_=>none
theorem Rz{tg e:Expr}{env:PySem.Env}(h:acH e=false):swappedStores [tg] e env=pure none:=by cases tg<;>first | rfl | (cases e<;>first | rfl | cases h)
section
variable{aj:aR}{c:Tc}{X:Cx}{W:WX}{k:Nat}{t:Tr}{s:Ts}{q:Bool}
theorem afk(o:t.Ok)(os:s.Ok q)(a:uX aj c X W k){tg e:Expr}{pos:Pos}{f:SF}(h:acS t s c tg e=some f):SE aj X W q (.Assign [tg] e pos) f:=by
 unfold acS at h;split at h
 ·exact acI o a h
 ·obtain⟨j,hj,h⟩:=arN.mp h;obtain⟨s1,s2,s3⟩:=mZ a.toAmb hj;split at h
  ·obtain⟨f1,h1,h⟩:=arN.mp h;cases h;obtain⟨i1,i2⟩:=adX o a.toAmb h1;exact aeZ a.nd s1 s2 s3 i1 (G4 i2)
  ·obtain⟨hc,h⟩:=aY.mp h;obtain⟨f1,h1,h⟩:=arN.mp h;cases h;exact YJ (os.og a h1) (Uh a.nd s1 s2 s3) (Cu (by simpa using hc)) (by with_unfolding_all rfl) (by with_unfolding_all rfl)
 ·obtain⟨i,hi,h⟩:=arN.mp h;obtain⟨j,hj,h⟩:=arN.mp h;obtain⟨hc,h⟩:=aY.mp h;obtain⟨f1,h1,h⟩:=arN.mp h;cases h;simp only[arP,ar9]at hc;exact aiT a.calm a.nd (mZ a.toAmb hi) (mZ a.toAmb hj) (os.og a h1) (Cu hc.1) (Rz hc.2)
 ·obtain⟨js,hj,h⟩:=arN.mp h;obtain⟨f1,h1,h⟩:=arN.mp h;cases h;obtain⟨xs,p1,p2,p3,p4,p5⟩:=ajt a hj;exact amT a.calm a.nd p3 p1 p2 p4 (sW o a.toAmb h1).1 p5 (Cu rfl)
 ·obtain⟨js,hj,h⟩:=arN.mp h;obtain⟨hc,h⟩:=aY.mp h;obtain⟨f1,h1,h⟩:=arN.mp h;cases h;simp only[arP,ar9]at hc;exact YJ (os.og a h1) (afa a.calm a.nd (TV a.toAmb hj)) (Cu hc.1) (Rz hc.2) (by with_unfolding_all rfl)
 ·cases h
end
def acW(s:Ts)(c:Tc):List Stmt->Option SF
 |[]=>some aW
 |[a]=>s.S c a
 |a::b::r=>(s.S c a).bind λf=>(s.B c (b::r)).bind λg=>some (aD f g)
def stS(t:Tr)(s:Ts)(c:Tc):Stmt->Option SF
 |.Assign [tg] e _=>acS t s c tg e
 |.Assign [.Name x _,.Name y _] e _=>(vC c x).bind λi=>(vC c y).bind λj=>gd (!acH e) ((s.G c e).bind λf=>some (Q9 i j f))
 |.AugAssign (.Name x _) .Add e _=>(vC c x).bind λj=>(t.E c e).bind λf=>some (O5 j f)
 |.Expr (.Call (.Attribute (.Name x _) m apos) [e] [] pos) _=>(KD c x).bind λj=>gd (m=="append"&&(c.ml.contains x&&(nst e&&(apos.endLine==pos.line)))) ((t.E c e).bind λf=>some (Jz j f))
 |.Return (some e) _=>(match t.E c e with
  |some f=>some (aQ f)
  |none=>(s.G c e).bind λf=>some (iw f))
 |.If d s1 s2 _=>(s.B c s1).bind λf=>(s.B c s2).bind λg=>(t.T c d).bind λtd=>some (bQ td f g)
 |.For tg iter body [] _=>(t.I c true tg iter).bind λit=>(V8 c tg).bind λjt=>(s.B c body).bind λf=>gd (!zm iter) (some (qU it jt.2 f))
 |_=>none
section
variable{aj:aR}{c:Tc}{X:Cx}{W:WX}{k:Nat}{t:Tr}{s:Ts}{q:Bool}
theorem afU(os:s.Ok q)(a:uX aj c X W k){b:List Stmt}{f:SF}(h:acW s c b=some f):JN aj X W q b f:=by
 unfold acW at h;split at h
 ·cases h;exact aj8
 ·exact alH (os.os a h)
 ·obtain⟨f1,h1,h⟩:=arN.mp h;obtain⟨f2,h2,h⟩:=arN.mp h;cases h;exact ah9 (os.os a h1) (os.ob a h2)
theorem ajh(o:t.Ok)(os:s.Ok q)(a:uX aj c X W k){st:Stmt}{f:SF}(h:stS t s c st=some f):SE aj X W q st f:=by
 unfold stS at h;split at h
 ·exact afk o os a h
 ·obtain⟨i,hi,h⟩:=arN.mp h;obtain⟨j,hj,h⟩:=arN.mp h;obtain⟨hc,h⟩:=aY.mp h;obtain⟨f1,h1,h⟩:=arN.mp h;cases h;exact ah0 a.nd (mZ a.toAmb hi) (mZ a.toAmb hj) (os.og a h1) (by with_unfolding_all rfl)
 ·obtain⟨j,hj,h⟩:=arN.mp h;obtain⟨f1,h1,h⟩:=arN.mp h;cases h;obtain⟨s1,s2,s3⟩:=mZ a.toAmb hj;exact alB a.nd s1 s2 s3 (o.oe a.toAmb h1)
 ·obtain⟨j,hj,h⟩:=arN.mp h;obtain⟨hc,h⟩:=aY.mp h;obtain⟨f1,h1,h⟩:=arN.mp h;cases h;simp only[arP]at hc;cases eq_of_beq hc.1;obtain⟨s1,s2,s3,s4⟩:=Aj a.toAmb hj;exact akG s1 s2 s3 s4 (o.oe a.toAmb h1) hc.2.2.1 hc.2.2.2
 ·split at h
  ·next f1 h1=>
   cases h;exact ajE (o.oe a.toAmb h1)
  ·obtain⟨f1,h1,h⟩:=arN.mp h;cases h;exact ahv (os.og a h1)
 ·obtain⟨f1,h1,h⟩:=arN.mp h;obtain⟨f2,h2,h⟩:=arN.mp h;obtain⟨td,h3,h⟩:=arN.mp h;cases h;exact amL (o.ot a.toAmb h3) (os.ob a h1) (os.ob a h2)
 ·obtain⟨it,h1,h⟩:=arN.mp h;obtain⟨⟨js,tf⟩,h2,h⟩:=arN.mp h;obtain⟨f1,h3,h⟩:=arN.mp h;obtain⟨hc,h⟩:=aY.mp h;cases h;exact aj1 a.ps a.calm (o.oi a.toAmb h1) (vA a.toAmb h2) (os.ob a h3) (rM (by simpa using hc))
 ·cases h
end
abbrev GA:=Mo->Env->bx (List Dat)
def alW:GA:=λM _=>.ok [] M
def akf(a:GF)(r:GA):GA:=λM Z=>(a M Z).bind λd M1=>(r M1 Z).bind λds M2=>.ok (d::ds) M2
def akV(m:Mo->List Dat->bx Dat)(as:GA):GF:=λM Z=>(as M Z).bind λds M1=>m M1 ds
def alE(m:Mo->List Dat->Out Dat)(as:GA):GF:=λM Z=>(as M Z).bind λds M1=>(m M1 ds).at M1
section
variable{X:Cx}{aj:aR}{W:WX}{q:Bool}{a b e:Expr}{es:List Expr}{pos p:Pos}
variable{x:Str}{k:Nat}{f:Addr}{fd:FuncData}{ps:List Str}
def alN(a:GT):GT:=λM Z=>(a M Z).bind λb M1=>.ok (!b) M1
def amw(a b:GT):GT:=λM Z=>(a M Z).bind λx M1=>if x=true then b M1 Z else .ok false M1
def an8(a b:GT):GT:=λM Z=>(a M Z).bind λx M1=>if x=true then .ok true M1 else b M1 Z
def alX(a:GF):GT:=λM Z=>(a M Z).bind λd M1=>(IV d).at M1
end
section
variable{aj:aR}{c:Tc}{X:Cx}{W:WX}{k:Nat}{t:Tr}{s:Ts}{q:Bool}
def xG(t:Tr)(s:Ts)(c:Tc):Expr->Option GF
 |.Call (.Name x _) [] [] _=>(match c.G.lookup x with
  |some (.cls 0 m)=>gd (FW c.sc x&&!Hu x) (some (Bh x m au))
  |_=>none)
 |.Call (.Name x _) (e::es) [] _=>(match c.G.lookup x with
  |some (.fg n m)=>gd (FW c.sc x&&(!Hu x&&decide ((e::es).length=n))) ((GX t c (e::es)).bind λas=>some (Ec m as))
  |some (.cls n m)=>gd (FW c.sc x&&(!Hu x&&decide ((e::es).length=n))) ((GX t c (e::es)).bind λas=>some (Bh x m as))
  |_=>none)
 |.Call (.Attribute o m apos) es [] pos=>(c.hs.Ms.lookup m).bind λtb=>(t.W c o).bind λfo=>(GX t c es).bind λas=>
  gd (tbN tb (es.length+1)&&(baseOk o&&(decide (es.length < 30)&&(apos.endLine==pos.line)))) (some (cO tb fo as))
 |_=>none
theorem ama(o:t.Ok)(os:s.Ok false)(a:uX aj c X W k){e:Expr}{f:GF}(h:xG t s c e=some f):GE aj X W false e f:=by
 unfold xG at h;split at h
 ·split at h
  ·next m hl=>
   obtain⟨hb,h⟩:=aY.mp h;cases h;simp only[arP,ar9]at hb;exact aha a.rm (a.gl _ _ hl) (tG a.toAmb hb.1) (tR hb.2).1
  ·cases h
 ·split at h
  ·next n m hl=>
   obtain⟨hb,h⟩:=aY.mp h;simp only[arP,ar9,ato]at hb;obtain⟨b1,b2,b3⟩:=hb;obtain⟨fa,hm,hk,fd,ps,j,hj,hp,hB,F⟩:=a.gl _ _ hl;obtain⟨as,h1,h⟩:=arN.mp h;cases h;obtain⟨i1,i2,i3⟩:=sW o a.toAmb h1;exact aiJ a.tk F (a.rm.mono hj) (tG a.toAmb b1) hm hk hB i1 (b3.trans hp.symm) (tR b2).1 i2 i3
  ·next n m hl=>
   obtain⟨hb,h⟩:=aY.mp h;simp only[arP,ar9,ato]at hb;obtain⟨b1,b2,b3⟩:=hb;obtain⟨as,h1,h⟩:=arN.mp h;cases h;obtain⟨i1,i2,i3⟩:=sW o a.toAmb h1;exact ald a.rm (a.gl _ _ hl) (tG a.toAmb b1) (tR b2).1 i1 i2 (λM Z ds z=>by rw[i3 M Z ds z];exact b3)
  ·cases h
 ·next b m apos es pos=>
  obtain⟨tb,h1,h⟩:=arN.mp h;obtain⟨fo,h2,h⟩:=arN.mp h;obtain⟨as,h3,h⟩:=arN.mp h;obtain⟨hb,h⟩:=aY.mp h;cases h;simp only[arP,ato]at hb;obtain⟨b2,b3,b4,b5⟩:=hb;obtain⟨i1,i2,i3⟩:=sW o a.toAmb h3;cases es with
  |nil=>
   cases h3;exact afV a.tk a.rm (X4 a.toAmb h1 b2) (o.ow a.toAmb h2) b3 b5
  |cons e es=>exact ahS a.tk a.rm (X4 a.toAmb h1 b2) (o.ow a.toAmb h2) i1 i3 b3 i2 b5 b4
 ·cases h
end
section
variable{aj:aR}{c:Tc}{X:Cx}{W:WX}{k:Nat}{t:Tr}{s:Ts}{q:Bool}
theorem Jm{e o:Expr}{f:Str}{p:Pos}{l:Nat}{env:PySem.Env}:swapsWith e (some (.Attribute o f p)) l env=pure false:=by cases e<;>rfl
theorem afJ{e o:Expr}{i:Expr}{p:Pos}{l:Nat}{env:PySem.Env}:swapsWith e (some (.Subscript o i p)) l env=pure false:=by cases e<;>rfl
theorem af7{o:Expr}{f:Str}{p spos:Pos}{i:Expr}{env:PySem.Env}(h:YX i=false):∀v,assign (.Subscript (.Attribute o f p) i spos) env v=(do
   let ov ←holding [v] (eval (.Attribute o f p) env)
   let iv ←holding [v,ov] (eval i env)
   standAt spos
   holding [v,ov,iv] (setItem ov iv v)
   release [v,ov,iv] []):=λv=>by
 cases i<;>first | (with_unfolding_all rfl) | cases h
def alx(t:Tr)(c:Tc)(kx tg iter:Expr)(scope:Scope):Option (Mo->Env->Out (List (Dat×Dat))):=
 (t.I c false tg iter).bind λit=>(V8 (c.inn scope) tg).bind λjt=>(t.E (c.inn scope) kx).bind λte=>
  gd (blkC c.N c.sc scope (pX tg jt.1)&&(Pj jt.1 ((pX tg jt.1).map (·.2))&&!zm iter)) (some (qDc it jt.2 ((pX tg jt.1).map (·.2)) te))
theorem afA(a:Amb aj c X W k):X.A.units+64 < cLine:=by have:=a.rm.un;omega
def agg(t:Tr)(s:Ts)(c:Tc)(o:Expr)(f:Str):Expr->Option SF
 |.Dict [] [] _=>(t.W c o).bind λfo=>(c.hs.df.lookup f).bind λb=>some (NT c.hs.ft fo f b)
 |.DictComp kx (.Constant (.bool true) _ _) [⟨tg,iter,[],0⟩] scope _=>(t.W c o).bind λfo=>(alx t c kx tg iter scope).bind λfe=>some (SM c.hs.ft fo f fe)
 |.List es p=>(t.W c o).bind λfo=>(trN t c (.List es p)).bind λfe=>some (DG c.hs.ft fo f fe)
 |e=>gd (!Fq e) ((t.W c o).bind λfo=>(s.G c e).bind λfe=>some (uQ c.hs.ft fo f fe))
theorem ag6(ot:t.Ok)(os:s.Ok false)(a:uX aj c X W k){o e:Expr}{f:Str}{p pos:Pos}{sf:SF}(h:agg t s c o f e=some sf):SE aj X W false (.Assign [.Attribute o f p] e pos) sf:=by
 have hk:=a.hk;unfold agg at h;split at h
 ·obtain⟨fo,h1,h⟩:=arN.mp h;obtain⟨b,h2,h⟩:=arN.mp h;cases h;exact aix hk.co hk.fk hk.hw (ot.ow a.toAmb h1) Jm
 ·obtain⟨fo,h1,h⟩:=arN.mp h;obtain⟨fe,h2,h⟩:=arN.mp h;cases h;unfold alx at h2;obtain⟨it,i1,h2⟩:=arN.mp h2;obtain⟨⟨js,tf⟩,i2,h2⟩:=arN.mp h2;obtain⟨te,i3,h2⟩:=arN.mp h2;obtain⟨hb,h2⟩:=aY.mp h2;cases h2;simp only[arP,ar9]at hb;obtain⟨b1,b2,b3⟩:=hb;exact ahy hk.co hk.fk (ot.ow a.toAmb h1) (ajn (g:=Av X.K aj js tf) (tk:=tQ X.K aj WF te) a.calm a.nd (afA a.toAmb) (ot.oi a.toAmb i1) (blkOk_by (by rw[a.hN,a.hs];exact b1)) (λs H C cl fp=>vA (a.toAmb.inn _ s H C cl fp) i2) (λs H C cl fp=>ot.oe (a.toAmb.inn _ s H C cl fp) i3) (rM b3)) (λσ H Q z=>al4 hk.hw (pH b2) σ H Q z) Jm
 ·obtain⟨fo,h1,h⟩:=arN.mp h;obtain⟨fe,h2,h⟩:=arN.mp h;cases h;exact ahD hk.co hk.fk (ot.ow a.toAmb h1) (adX ot a.toAmb h2).1 Jm
 ·obtain⟨hc,h⟩:=aY.mp h;obtain⟨fo,h1,h⟩:=arN.mp h;obtain⟨fe,h2,h⟩:=arN.mp h;cases h;exact ahH hk.co hk.fk (ot.ow a.toAmb h1) (os.og a h2) Jm
def ZP(n:Str):List Expr->Option (List Str)
 |[]=>some []
 |.Attribute (.Name m _) f _::es=>gd (m==n) ((ZP n es).bind λfs=>some (f::fs))
 |_=>none
def acw(nm:Option Str):Expr->Option Eb
 |.Constant (.str x) _ _=>some (.con (.str x))
 |.Constant .none _ _=>some (.con .none)
 |.Tuple [] _ _=>some (.con (.tuple []))
 |.Attribute (.Name m _) f _=>nm.bind λn=>gd (m==n) (some (.fld f))
 |.Tuple es _ _=>nm.bind λn=>(ZP n es).bind λfs=>some (.flds fs)
 |_=>none
def Eb.fs:Eb->List Str
 |.con _=>[]
 |.fld f=>[f]
 |.flds fs=>fs
def acF(c:Tc)(nm:Option Str):List Stmt->Option (List (Nat×Eb))
 |[]=>some []
 |.Assign [.Name x _] e _::r=>(vC c x).bind λj=>(acw nm e).bind λse=>(acF c nm r).bind λst=>some ((j,se)::st)
 |_=>none
def Vo(c:Tc):Option Str->Option (Option Nat)
 |none=>some none
 |some n=>(KD c n).bind λi=>match c.sc.names.lookup n with
  |some .local=>some (some i)
  |_=>none
def ajR(c:Tc):ExceptHandler->Option Hd
 |.ExceptHandler (some (.Name y _)) nm (s0::su) _=>(c.hs.xm.lookup y).bind λtab=>(Vo c nm).bind λi=>(acF c nm (s0::su)).bind λst=>
  (match c.G.lookup y with
  |some .exc=>some true
  |some (.exi _)=>some true
  |_=>none).bind λ_=>
  gd (FW c.sc y&&(!Hu y&&(st.all (λp=>match i with
   |some j=>!(j==p.1)
   |none=>true)&&st.all (λp=>p.2.fs.all (λf=>((c.hs.xf.lookup y).getD []).contains f)&&decide (p.2.fs.length<=100))))) (some ⟨y,λx=>tab.lookup x,i,st⟩)
 |_=>none
def X5(c:Tc):List ExceptHandler->Option (List Hd)
 |[]=>some []
 |h::hs=>(ajR c h).bind λd=>(X5 c hs).bind λds=>some (d::ds)
theorem abC{y n:Str}{C:Addr}{a:Addr}{oe:Obj}{cls:Value}{d:Option Addr}{pn:List (Addr×Obj)}{j:Nat}{fl:List Str}(hC:aj y=some C)(T:XfC X.K C)(hno:∀f∈fl,PySem.W.findIn X.K (.ref C) f=some none)(hz:Zc cls d oe)(hf:∃vs,oe.data=.fields vs)(hN:X.N[j]?=some n)(hv:Vis X.env.scope n)(hd:(n==("__debug__" : Str))=false)(hcd:(n==("__classdict__" : Str))=false) :
  ∀{es:List Expr} {fs:List Str},ZP n es=some fs->(∀f∈fs,f∈fl)->PA (X.suite a ((a,oe)::pn)) es (tUA X.K aj a cls d (some j) λx=>RW y x fs)
 |[],fs,h,_=>by
  cases h;exact adz
 |.Attribute (.Name m p) f p2::es,fs,h,hs=>by
  rw[ZP]at h;obtain⟨hm,h⟩:=aY.mp h;obtain⟨fr,h1,h⟩:=arN.mp h;cases h;cases eq_of_beq hm;exact ahX (adY hC T (hno f (hs f arU)) hz hf hN hv hd hcd) (abC hC T hno hz hf hN hv hd hcd h1 λf hf=>hs f (arS _ hf)) rfl
theorem aiR{y:Str}{nm:Option Str}{i:Option Nat}{a:Addr}{oe:Obj}{cls:Value}{d:Option Addr}{pn:List (Addr×Obj)}{e:Expr}{se:Eb}(am:Amb aj c X W k)(hi:Vo c nm=some i)(hy:(c.hs.xf.lookup y).getD []=fl)(hfl:∀f∈se.fs,f∈fl)(hl:se.fs.length<=100)(hz:Zc cls d oe)(hf:∃vs,oe.data=.fields vs)(h:acw nm e=some se) :
  PE (X.suite a ((a,oe)::pn)) e (tU X.K aj a cls d i λx=>YB y x se):=by
 have fld:∀n j,nm=some n->i=some j->X.N[j]?=some n/\Vis X.env.scope n/\(n==("__debug__" : Str))=false/\(n==("__classdict__" : Str))=false:=λn j e1 e2=>by
  subst e1 e2;unfold Vo at hi;obtain⟨j',h1,hi⟩:=arN.mp hi;split at hi
  ·cases hi;exact Aj am h1
  ·cases hi
 have hsome:∀n,nm=some n->∃j,i=some j:=λn e1=>by
  subst e1;unfold Vo at hi;obtain⟨j',h1,hi⟩:=arN.mp hi;split at hi
  ·cases hi;exact⟨_,rfl⟩
  ·cases hi
 have hxf:fl≠[]->∃C,aj y=some C/\XfC X.K C/\∀f∈fl,PySem.W.findIn X.K (.ref C) f=some none:=λne=>by
  cases hx:c.hs.xf.lookup y with
  |none=>
   rw[hx]at hy;exact absurd hy.symm ne
  |some l=>
   rw[hx]at hy;cases hy;exact am.hk.xf y _ hx
 unfold acw at h;split at h
 ·cases h;exact adi pe_str λσ H Q ⟨g,Z,M,x,z,I,e,kk⟩=>by
   cases e;exact kk _ H (Ex.refl H) (.str _)
 ·cases h;exact adi pe_non λσ H Q ⟨g,Z,M,x,z,I,e,kk⟩=>by
   cases e;exact kk _ H (Ex.refl H) .non
 ·cases h;exact PE.weak (adC (aj:=aj) (cls:=cls) (d:=d) (i:=i) adz λx zs e=>by cases e;exact asJ _) λσ H Q z=>z
 ·obtain⟨n,e1,h⟩:=arN.mp h;obtain⟨hm,h⟩:=aY.mp h;cases h;cases eq_of_beq hm;obtain⟨j,rfl⟩:=hsome _ e1;obtain⟨f1,f2,f3,f4⟩:=fld _ j e1 rfl;obtain⟨C,c1,c2,c3⟩:=hxf (List.ne_nil_of_mem (hfl _ (arV.mpr rfl)));exact adY c1 c2 (c3 _ (hfl _ (arV.mpr rfl))) hz hf f1 f2 f3 f4
 ·next es _ _ hne=>
  obtain⟨n,e1,h⟩:=arN.mp h;obtain⟨fs,e2,h⟩:=arN.mp h;cases h;obtain⟨j,rfl⟩:=hsome _ e1;obtain⟨f1,f2,f3,f4⟩:=fld _ j e1 rfl;have hfs:fs≠[]:=λz=>by
   subst z
   match es,e2 with
   |[],_=>exact hne rfl
   |.Attribute (.Name m _) f _::es,e2=>
    rw[ZP]at e2;obtain⟨_,e2⟩:=aY.mp e2;obtain⟨_,_,e2⟩:=arN.mp e2;cases e2
  have hfn:fl≠[]:=by
   cases fs with
   |nil=>exact absurd rfl hfs
   |cons f r=>exact List.ne_nil_of_mem (hfl f arU)
  obtain⟨C,c1,c2,c3⟩:=hxf hfn;exact adC (abC c1 c2 c3 hz hf f1 f2 f3 f4 e2 hfl) λx zs e=>by
   have:=WY e;have hl:fs.length<=100:=hl;omega
 ·cases h
theorem Vm{y:Str}{nm:Option Str}{i:Option Nat}{a:Addr}{oe:Obj}{cls:Value}{d:Option Addr}{pn:List (Addr×Obj)}{fl:List Str}(am:Amb aj c X W k)(hi:Vo c nm=some i)(hy:(c.hs.xf.lookup y).getD []=fl)(hz:Zc cls d oe)(hf:∃vs,oe.data=.fields vs) :
  ∀{ss:List Stmt} {st:List (Nat×Eb)},acF c nm ss=some st->(∀p∈st,(∀f∈p.2.fs,f∈fl)/\p.2.fs.length<=100)->PSs (X.suite a ((a,oe)::pn)) ss (tSu X.K aj a cls d i y st)
 |[],st,h,_=>by
  cases h;exact PSs.weak pss_nil λD σ H z=>aj2 z
 |.Assign [.Name x p] e p2::r,st,h,hs=>by
  rw[acF]at h;obtain⟨j,h1,h⟩:=arN.mp h;obtain⟨se,h2,h⟩:=arN.mp h;obtain⟨st',h3,h⟩:=arN.mp h;cases h;obtain⟨s1,s2,s3⟩:=mZ am h1;obtain⟨u1,u2⟩:=hs (j,se) arU;have he:=aiR (a:=a) (pn:=pn) am hi hy u1 u2 hz hf h2;have hne:Fq e=false/\swappedStores [.Name x p] e X.env=pure none:=by unfold acw at h2;split at h2<;>first | exact⟨rfl,rfl⟩ | cases h2
  refine PSs.weak (pss_cons (ps_asg he (pg_name (X:=X.suite a ((a,oe)::pn)) am.nd s1 s2 s3) (Cu hne.1) hne.2 (by with_unfolding_all rfl)) (Vm am hi hy hz hf h3 λp hp=>hs p (arS _ hp))) λD σ H z=>?_;exact ala z λσ' H' z'=>z'
def anE(aj:aR)(K:arO)(h:Hd)(D:Addr):Cl:=⟨.ref D,h.nm,λa cls d=>tSu K aj a cls d h.nm h.y h.st⟩
theorem aaf(am:Amb aj c X W k):∀{hds:List ExceptHandler} {hs:List Hd},X5 c hds=some hs->∃ls,BP X hds ls/\HY X.K aj hs ls
 |[],hs,h=>by
  cases h;exact⟨[],.nil,.nil⟩
 |h0::hds,hs,h=>by
  rw[X5]at h;obtain⟨d,h1,h⟩:=arN.mp h;obtain⟨ds,h2,h⟩:=arN.mp h;cases h;obtain⟨ls,i1,i2⟩:=aaf am h2;unfold ajR at h1;split at h1
  ·next y np nm s0 su cp=>
   obtain⟨tab,j1,h1⟩:=arN.mp h1;obtain⟨i,j2,h1⟩:=arN.mp h1;obtain⟨st,j3,h1⟩:=arN.mp h1;obtain⟨_,j4,h1⟩:=arN.mp h1;obtain⟨hb,h1⟩:=aY.mp h1;cases h1;simp only[arP,ar9]at hb;obtain⟨b1,b2,b3,b4⟩:=hb;obtain⟨⟨D,hD⟩,hx⟩:=am.hk.xm y tab j1;have hm:X.mg y=some (.ref D):=by
    split at j4
    ·next hl=>
     obtain⟨C,g1,g2,_⟩:=am.gl y _ hl;rw[hD]at g2;cases g2;exact g1
    ·next hl=>
     obtain⟨C,fI,fd,ps,g1,g2,_⟩:=am.gl y _ hl;rw[hD]at g2;cases g2;exact g1
    ·cases j4
   have hnames:Names X y (.ref D):=⟨tG am b1,(tR b2).1,.inl hm⟩;have hst:∀p∈st,(∀f∈p.2.fs,f∈(c.hs.xf.lookup y).getD [])/\p.2.fs.length<=100:=λp hp=>by
    have:=asj.mp b4 p hp;rw[arP,ato]at this;exact⟨λf hf=>by simpa using asj.mp this.1 f hf,this.2⟩
   have hnj:∀p∈st,i≠some p.1:=λp hp z=>by
    subst z;have:=asj.mp b3 p hp;simp at this
   refine⟨anE aj X.K ⟨y,λx=>tab.lookup x,i,st⟩ D::ls,?_,.cons ⟨⟨D,hD,rfl⟩,hx,rfl,rfl,hnj⟩ i2⟩;cases nm with
   |none=>
    cases j2;exact .one hnames rfl (λa oe cls d pn hz hf=>Vm am rfl rfl hz hf j3 hst) i1
   |some n=>
    have j2':=j2;unfold Vo at j2;obtain⟨i',s1,j2⟩:=arN.mp j2;split at j2
    ·next hloc=>
     cases j2;refine .as hnames rfl (Aj am s1).1 ?_ (λa oe cls d pn hz hf=>Vm am j2' rfl hz hf j3 hst) i1;unfold PySem.Env.kindOf;rw[am.hs];exact hloc
    ·cases j2
  ·cases h1
theorem uX.tr(a:uX aj c X W k){W':WX}{pn:List (Addr×Obj)}{xe:Value->Shared->Prop}(t:Takes (X.tr pn xe) W')(p:PassesOwn (model X.prog X.w) X.A X.env xe):uX aj c (X.tr pn xe) W' k where
 hN:=a.hN
 hs:=a.hs
 calm:=a.calm
 nd:=a.nd
 tk:=t
 rm:=a.rm
 gl:=a.gl
 bl:=a.bl
 fn:=a.fn
 hk:=a.hk
 ps:=p
 st:=a.st
 fr:=a.fr
 kf:=a.kf
def xS(q:Bool)(t:Tr)(s:Ts)(c:Tc):Stmt->Option SF
 |.Raise (some (.Call (.Name x _) [] [] _)) none _=>(match c.G.lookup x with
  |some .exc=>gd (FW c.sc x&&!Hu x) (some (eG x))
  |_=>none)
 |.Raise (some (.Call (.Name x _) (e::es) [] _)) none _=>(match c.G.lookup x with
  |some (.exi fs)=>(GX t c (e::es)).bind λas=>gd (FW c.sc x&&(!Hu x&&(decide ((e::es).length=fs.length)&&decide (fs.length<=1000)))) (some (BZ x fs as))
  |_=>none)
 |.Try body (h::hds) [] [] _=>(s.B c body).bind λf=>(X5 c (h::hds)).bind λhs=>some (U4 f hs)
 |.Pass _=>some aW
 |.Expr (.Call (.Attribute (.Attribute o f p1) m apos) [e] [] pos) epos=>(match q with
  |true=>(s.G c (.Call (.Attribute (.Attribute o f p1) m apos) [e] [] pos)).bind λf=>some (cH f)
  |false=>match m=="append" with
   |true=>gd (baseOk o&&(nst e&&(apos.endLine==pos.line))) ((t.W c o).bind λfo=>(s.G c e).bind λfe=>some (DR f fo fe))
   |false=>(s.G c (.Call (.Attribute (.Attribute o f p1) m apos) [e] [] pos)).bind λf=>some (cH f))
 |.Expr e _=>gd (!Fq e) ((s.G c e).bind λf=>some (cH f))
 |.Assign [.Name x p] (.ListComp elt [⟨tg,iter,ifs,0⟩,⟨tg1,iter1,ifs1,0⟩] scope cpos) _=>(vC c x).bind λj=>
  gd (swB c.sc (.ListComp elt [⟨tg,iter,ifs,0⟩,⟨tg1,iter1,ifs1,0⟩] scope cpos) scope x p&&!c.ml.contains x) ((RM t c elt tg iter ifs tg1 iter1 ifs1 scope).bind λf=>some (aZ (aF j) (gOf f)))
 |.Assign [.Attribute o f _] e _=>(match q with
  |true=>none
  |false=>agg t s c o f e)
 |.Assign [.Subscript (.Attribute o f _) i _] e _=>(match q with
  |true=>none
  |false=>gd (baseOk o&&(!YX i&&!Fq e)) ((t.W c o).bind λfo=>(t.E c i).bind λfi=>(t.E c e).bind λfe=>match c.hs.df.lookup f with
   |some _=>some (Nb f fo fi fe)
   |none=>some (Tf f fo fi fe)))
 |.AugAssign (.Attribute o f _) .Add e _=>(match q with
  |true=>none
  |false=>(t.W c o).bind λfo=>(t.E c e).bind λfe=>some (SJ c.hs.ft f fo fe))
 |.Delete [.Subscript (.Attribute o f _) i _] _=>(match q with
  |true=>none
  |false=>gd (baseOk o) ((t.W c o).bind λfo=>(t.E c i).bind λfi=>some (Nu f fo fi)))
 |_=>none
theorem alY(o:t.Ok)(os:s.Ok q)(a:uX aj c X W k){st:Stmt}{f:SF}(h:xS q t s c st=some f):SE aj X W q st f:=by
 have hk:=a.hk;unfold xS at h;split at h
 ·split at h
  ·next hl=>
   obtain⟨hb,h⟩:=aY.mp h;cases h;simp only[arP,ar9]at hb;exact afg a.calm a.tk (tG a.toAmb hb.1) (tR hb.2).1 (a.gl _ _ hl)
  ·cases h
 ·split at h
  ·next fs hl=>
   obtain⟨as,h1,h⟩:=arN.mp h;obtain⟨hb,h⟩:=aY.mp h;cases h;simp only[arP,ar9,ato]at hb;obtain⟨b1,b2,b3,b4⟩:=hb;obtain⟨i1,i2,i3⟩:=sW o a.toAmb h1;exact adD a.calm a.tk a.rm (tG a.toAmb b1) (tR b2).1 (a.gl _ _ hl) i1 i2 (λM Z ds z=>by rw[i3 M Z ds z];exact b3) b4
  ·cases h
 ·obtain⟨f1,h1,h⟩:=arN.mp h;obtain⟨hs,h2,h⟩:=arN.mp h;cases h;obtain⟨ls,i1,i2⟩:=aaf a.toAmb h2;exact aj7 a.st a.fr a.nd a.tk (λW' pn xe t p=>os.ob (a.tr t p) h1) i1 i2
 ·cases h;exact PS.weak ps_pass λD σ H ⟨g,Z,M,I,z⟩=>z σ H g .refl I
 ·split at h
  ·obtain⟨f1,h1,h⟩:=arN.mp h;cases h;exact Ve (os.og a h1) (G4 rfl)
  ·split at h
   ·next hm=>
    obtain⟨hb,h⟩:=aY.mp h;obtain⟨fo,h1,h⟩:=arN.mp h;obtain⟨fe,h2,h⟩:=arN.mp h;cases h;simp only[arP]at hb;cases eq_of_beq hm;exact aiy hk.co (o.ow a.toAmb h1) hb.1 (os.og a h2) hb.2.1 hb.2.2
   ·obtain⟨f1,h1,h⟩:=arN.mp h;cases h;exact Ve (os.og a h1) (G4 rfl)
 ·obtain⟨hb,h⟩:=aY.mp h;obtain⟨f1,h1,h⟩:=arN.mp h;cases h;exact Ve (os.og a h1) (G4 (by simpa using hb))
 ·obtain⟨j,hj,h⟩:=arN.mp h;obtain⟨hsw,h⟩:=aY.mp h;rw[arP]at hsw;obtain⟨f1,h1,h⟩:=arN.mp h;cases h;obtain⟨s1,s2,s3⟩:=mZ a.toAmb hj;have hsw:=hsw.1;rw[←a.hs]at hsw;have l1:=(R4 (l:=0) a.kf hsw).1;have l2:=λl=>(R4 (l:=l) a.kf hsw).2;clear h;unfold RM at h1;obtain⟨it,g1,h⟩:=arN.mp h1;obtain⟨⟨js,tf⟩,h2,h⟩:=arN.mp h;obtain⟨tt,h3,h⟩:=arN.mp h;obtain⟨it1,h4,h⟩:=arN.mp h;obtain⟨⟨js1,tf1⟩,h5,h⟩:=arN.mp h;obtain⟨tt1,h6,h⟩:=arN.mp h;obtain⟨te,h7,h⟩:=arN.mp h;obtain⟨hb,h⟩:=aY.mp h;cases h;simp only[arP,ar9]at hb;obtain⟨b1,b2,b3,b4,b5,b6⟩:=hb;have am:=a.toAmb;exact ahT a.calm a.nd s1 l1 (l2 _) (o.oi am g1) (by rw[a.hN,a.hs];exact b1) (pH b2) (pH b3) (pH b4) (λs H C cl fp=>vA (am.inn _ s H C cl fp) h2) (λs H C cl fp=>wJ o (am.inn _ s H C cl fp) h3) (λs H C cl fp=>o.oi (am.inn _ s H C cl fp) h4) (λs H C cl fp=>vA (am.inn _ s H C cl fp) h5) (λs H C cl fp=>wJ o (am.inn _ s H C cl fp) h6) (λs H C cl fp=>o.oe (am.inn _ s H C cl fp) h7) (rM b5) (λenv=>rM b6)
 ·split at h
  ·cases h
  ·exact ag6 o os a h
 ·split at h
  ·cases h
  ·obtain⟨hb,h⟩:=aY.mp h;obtain⟨fo,h1,h⟩:=arN.mp h;obtain⟨fi,h2,h⟩:=arN.mp h;obtain⟨fe,h3,h⟩:=arN.mp h;simp only[arP,ar9]at hb;obtain⟨b1,b2,b3⟩:=hb;split at h
   ·cases h;exact aiH hk.co hk.hw (afA a.toAmb) (o.ow a.toAmb h1) b1 (o.oe a.toAmb h2) (o.oe a.toAmb h3) afJ
   ·cases h;exact ahs hk.co (o.ow a.toAmb h1) b1 (o.oe a.toAmb h3) (o.oe a.toAmb h2) (af7 b2) (Cu b3) (by with_unfolding_all rfl)
 ·split at h
  ·cases h
  ·obtain⟨fo,h1,h⟩:=arN.mp h;obtain⟨fe,h2,h⟩:=arN.mp h;cases h;exact ag9 hk.co hk.fk (o.ow a.toAmb h1) (o.oe a.toAmb h2)
 ·split at h
  ·cases h
  ·obtain⟨hb,h⟩:=aY.mp h;obtain⟨fo,h1,h⟩:=arN.mp h;obtain⟨fi,h2,h⟩:=arN.mp h;cases h;exact aiS hk.co hk.hw (afA a.toAmb) (o.ow a.toAmb h1) hb (o.oe a.toAmb h2)
 ·cases h
end
def tr0:Tr:=⟨λ_ _=>none,λ_ _=>none,λ_ _=>none,λ_ _ _ _=>none⟩
def ajM(t:Tr):Tr:=⟨xtE t,xtW t,xtT t,xtI t⟩
def tr:Nat->Tr
 |0=>tr0
 |n+1=>ajM (tr n)
theorem zM:∀n,(tr n).Ok
 |0=>⟨λ_=>(by intro _ _ h;cases h),λ_=>(by intro _ _ h;cases h),λ_=>(by intro _ _ h;cases h),λ_=>(by intros;rename_i h;cases h)⟩
 |n+1=>⟨λa=>(by intro _ _ h;exact(v9 h).elim (amu (zM n) a) (alh (zM n) a)),λa=>(by intro _ _ h;exact(v9 h).elim (am1 (zM n) a) (akL (zM n) a)),λa=>(by intro _ _ h;exact(v9 h).elim (amt (zM n) a) (akc (zM n) a)),λa=>(by intro _ _ _ _ h;exact(v9 h).elim (am0 (zM n) a) (akC (zM n) a))⟩
def ts0:Ts:=⟨λ_ _=>none,λ_ _=>none,λ_ _=>none,λ_ _=>none⟩
def ldG(q:Bool)(t:Tr)(s:Ts)(c:Tc)(e:Expr):Option GF:=match q with
 |true=>none
 |false=>xG t s c e
def ldH(_:Bool)(_:Ts)(_:Tc)(_:Expr):Option GT:=none
def alu(q:Bool)(t:Tr)(s:Ts):Ts:=⟨λc e=>els ((t.E c e).bind λf=>some (gOf f)) (ldG q t s c e),λc e=>els ((t.T c e).bind λf=>some (agc f)) (ldH q s c e),λc e=>els (stS t s c e) (xS q t s c e),acW s⟩
def ts(q:Bool)(t:Tr):Nat->Ts
 |0=>ts0
 |n+1=>alu q t (ts q t n)
theorem NP{t:Tr}(o:t.Ok)(q:Bool):∀n,(ts q t n).Ok q
 |0=>⟨λ_=>(by intro _ _ h;cases h),λ_=>(by intro _ _ h;cases h),λ_=>(by intro _ _ h;cases h),λ_=>(by intros;rename_i h;cases h)⟩
 |n+1=>⟨λa=>by
   intro _ _ h;rcases v9 h with h|h
   ·obtain⟨f,h1,h⟩:=arN.mp h;cases h;exact agA (o.oe a.toAmb h1)
   ·cases q with
    |true=>cases h
    |false=>exact ama o (NP o false n) a h,λa=>by
   intro _ _ h;rcases v9 h with h|h
   ·obtain⟨f,h1,h⟩:=arN.mp h;cases h;exact amO (o.ot a.toAmb h1)
   ·(cases h),λa=>by
   intro _ _ h;rcases v9 h with h|h
   ·exact ajh o (NP o q n) a h
   ·exact alY o (NP o q n) a h,λa=>by
   intro _ _ h;exact afU (NP o q n) a h⟩
def rd(c:Tc)(b:List Stmt):Option SF:=(ts true (tr 40) 60).B c b
def rdG(c:Tc)(b:List Stmt):Option SF:=(ts false (tr 40) 60).B c b
def Dk(P:Program)(w:World)(K:arO)(mg:Str->Option Value)(base:Heap)(aj:aR)(k:Nat):List (Str×GV)->Prop
 |[]=>True
 |(x,v)::r=>bf P w K mg base aj k x v/\Dk P w K mg base aj k r
def Df(mg:Str->Option Value):List Str->Prop
 |[]=>True
 |x::r=>mg x=none/\Df mg r
section
variable{P:Program}{w:World}{K:arO}{mg:Str->Option Value}{base:Heap}{aj:aR}{k:Nat}
theorem Dk.get:∀{G:List (Str×GV)},Dk P w K mg base aj k G->∀x v,G.lookup x=some v->bf P w K mg base aj k x v
 |[],_,x,v,h=>nomatch h
 |(y,u)::r,g,x,v,h=>by
  rw[asp]at h;split at h
  ·next e=>
   cases h;rw[eq_of_beq e];exact g.1
  ·exact g.2.get x v h
theorem Df.get:∀{B:List Str},Df mg B->∀x,x∈B->mg x=none
 |[],_,x,h=>nomatch h
 |y::r,g,x,h=>by
  rcases ar4.mp h with rfl|h
  ·exact g.1
  ·exact g.2.get x h
theorem adh{qual:Str}{st:Stmt}{f:Addr}{N ps ml B:List Str}{G:List (Str×GV)}{Ms:Hs}(S:FnScope N ps (defScope st))(g:Dk P w K mg base aj k G)(b:Df mg B)(hh:Vj P w K mg base aj k Ms)
  (cdv:Value) (A:Around) (outer:List PySem.Env) (s:Shared) (H:Hp) (E:XK) (hr:Room k (A.deeper (envOfC qual (defScope st) s.heap.objs.size f cdv))) :
  uX aj ⟨N,defScope st,G,B,Ms,ml,true⟩ (cxOf (L2.CX P w) P w K mg base N qual (defScope st) f cdv A outer s H E) (aga E) k where
 hN:=rfl
 hs:=rfl
 calm:=rfl
 nd:=S.nd
 tk:=takes_of rfl rfl rfl rfl
 rm:=hr
 gl:=g.get
 bl:=b.get
 fn:=λ_ _=>rfl
 hk:=hh
 ps:=passes_of rfl
 st:=rfl
 fr:=rfl
 kf:=S.kind
theorem YS{x qual:Str}{st:Stmt}{f:Addr}{fd:FuncData}{N ps ml B:List Str}{G:List (Str×GV)}{Ms:Hs}{body:SF}(F:Fun K x qual st f fd)(S:FnScope N ps (defScope st))(g:Dk P w K mg base aj k G)(b:Df mg B)(hh:Vj P w K mg base aj k Ms)
  (h:rd ⟨N,defScope st,G,B,Ms,ml,true⟩ (defBody st)=some body):FnOk P w K mg base (L2.CX P w) (k+1) f fd ps (W0 K aj ps.length (mQ N.length body)):=
 anF F S λcdv A outer s H E hr=>(NP (zM 40) true 60).ob (adh S g b hh cdv A outer s H E hr) h
theorem QH{x qual:Str}{st:Stmt}{f:Addr}{fd:FuncData}{N ps ml B:List Str}{G:List (Str×GV)}{Ms:Hs}{body:SF}(F:Fun K x qual st f fd)(S:FnScope N ps (defScope st))(g:Dk P w K mg base aj k G)(b:Df mg B)(hh:Vj P w K mg base aj k Ms)
  (h:rdG ⟨N,defScope st,G,B,Ms,ml,true⟩ (defBody st)=some body):FnOk P w K mg base (L2.CX P w) (k+1) f fd ps (J9 K aj ps.length (mG N.length body)):=
 anz F S λcdv A outer s H E hr=>(NP (zM 40) false 60).ob (adh S g b hh cdv A outer s H E hr) h
theorem aln{f:Addr}{fd:FuncData}{ps:List Str}{j:Nat}:FnOk P w K mg base (L2.CX P w) j f fd ps (W0 K aj ps.length λ_ _=>.bad):=
 ⟨λvs H Q E h=>h.1,λA outer s H args us vs Q E _ _ _ _ h=>by
  obtain⟨_,g,M,ds,_,_,_,z⟩:=h;exact atn z⟩
theorem afB{x:Str}{f:Addr}{fd:FuncData}{ps:List Str}{j:Nat}{m:Mo->List Dat->Out Dat}(hj:j<=k)(hg:mg x=some (.ref f))(hk:PySem.W.keepIn K (.ref f)=true)(hB:Binds K fd ps [])(F:FnOk P w K mg base (L2.CX P w) j f fd ps (W0 K aj ps.length m)):bf P w K mg base aj k x (.fq ps.length m):=
 ⟨f,hg,hk,fd,ps,j,hj,rfl,hB,F⟩
theorem KJ{x:Str}{i:Int}{t:Tok}(h:mg x=some (.int i t)):bf P w K mg base aj k x (.con (.int i)):=⟨.int i,_,h,⟨t,rfl⟩,λ_ _=>.int i⟩
theorem Wh{g:Gh}{H:Hp}:∀{vs:List V} {ds:List Dat},(vs.zip ds).all (λp=>match p with
  |(.int i,.int j)=>decide (i=j)
  |(.str x,.str y)=>decide (x=y)
  |_=>false)=true->vs.length=ds.length->aM K g H vs ds
 |[],[],_,_=>.nil
 |[],_::_,_,h=>nomatch h
 |_::_,[],_,h=>nomatch h
 |v::vs,d::ds,h,hl=>by
  rw[as6,asC,arP]at h;refine .cons ?_ (Wh h.2 (asT hl));have h1:=h.1;split at h1
  ·next e=>cases e;cases atp h1;exact .int _
  ·next e=>cases e;cases atp h1;exact .str _
  ·cases h1
theorem adI{x:Str}{a:Addr}{vs:List V}{ds:List Dat}(h:mg x=some (.ref a))(q:∀H:Hp,SqT K H a vs)(hf:(vs.zip ds).all (λp=>match p with
  |(.int i,.int j)=>decide (i=j)
  |(.str x,.str y)=>decide (x=y)
  |_=>false)=true) (hl:vs.length=ds.length):bf P w K mg base aj k x (.con (.tuple ds)):=⟨.ref a,_,h,rfl,λ_ H=>.tup (q H) (Wh hf hl)⟩
end
open PySem PySem.Spec PyProof.Rows L2
section
variable{fa:List He.Fa}{fn:List He.DefD}{tb:List He.Tab}{ex:arO->Bool}{w:World}{K:arO}
theorem Np.o7(c:Np fa fn tb ex w K)(i:Nat){f:He.Fa}(h:fa[i]?=some f:=by rfl):f.ok K=true:=c.t.d.fact i h
theorem Np.WD(c:Np fa fn tb ex w K)(i:Nat){d:He.DefD}(h:fn[i]?=some d:=by rfl):∃fd,FunD K d.name d.qual d.params d.body d.scope (d.dvs K) (d.kws K) (He.fAd K d.at_) fd:=c.t.d.def_ i h
theorem EY{x qual:Str}{st:Stmt}{f:Addr}{fd:FuncData}(F:FunD K x qual (defArgs st) (defBody st) (defScope st) [] [] f fd):L2.Fun K x qual st f fd:=by
 obtain⟨oc,od,dV,kV,doc,pm,an,cdv,ct,osl,e,l,c,hd,_⟩:=F.ex;rcases hd with⟨_,z⟩|⟨z,_⟩
 ·cases z;exact⟨⟨oc,od,kV,doc,pm,an,cdv,ct,osl,e,l,c⟩,F.kp⟩
 ·exact absurd rfl z
end
def g0:Gh:=⟨[],λ_=>none,λ_=>False,λ_=>False⟩
theorem aiU(a:Addr):¬g0.A a:=λz=>by
 rcases z with(z|z)|z|z
 ·cases z
 ·exact z rfl
 ·exact z
 ·exact z
theorem amX{H:Hp}:Kd g0 H:=⟨λa z=>absurd z (aiU a),λa z=>atn z,λa z=>atn z⟩
theorem ak8{K:arO}{aj:aR}{H:Hp}(nc:aj ""=none):fZ K aj g0 H []:=⟨rfl,λh k a e=>(by cases h<;>cases e),λh a i e=>(by cases h<;>cases e),λh i e=>(by cases h<;>cases e),λh i e=>(by cases h<;>cases e),λh a i e=>(by cases h<;>cases e),λh i e=>(by cases h<;>cases e),nc⟩
theorem Ww{K:arO}{g:Gh}{H:Hp}:∀ns:List Int,aM K g H (ns.map V.int) (ns.map PyData.int)
 |[]=>.nil
 |n::ns=>.cons (.int n) (Ww ns)
theorem ajg{K:arO}{H:Hp}{a:Addr}{ns:List Int}(hS:SqL K H a (ns.map V.int)):aM K g0 H [.ref a] [.list (ns.map PyData.int)]:=by
 refine .cons (.lst ?_ (Ww ns)) .nil;rcases hS with h|h
 ·exact .inl ⟨h,aiU a⟩
 ·exact .inr h
theorem amv{K:arO}{aj:aR}(nc:aj ""=none){m:Mo->List Dat->bx Dat}{H:Hp}{a:Addr}{ns:List Int}{M:Mo}(hS:SqL K H a (ns.map V.int))(h:m [] [.list (ns.map PyData.int)]=.ok (.bool true) M):J9 K aj 1 m [.ref a] H (λv _=>v=.bl true) λ_ _ _=>False:=
 ⟨rfl,g0,[],[.list (ns.map PyData.int)],amX,ak8 nc,ajg hS,by
  rw[h];exact λv H' g' _ _ _ r=>by cases r;rfl⟩
section
variable{K:arO}{h:Heap}{mg:Str->Option Value}{w:World}
def oJ(w:World)(K:arO)(xs:List Str)(ft:Ft):aR:=⟨λx=>match xs.contains x with
 |true=>some (He.ga K x)
 |false=>none,λc=>(ft.lookup c).getD [],w⟩
theorem Pk{xs:List Str}{ft:Ft}{x:Str}{C:Addr}(e:oJ w K xs ft x=some C):C=He.ga K x:=by
 have e:(match xs.contains x with
  |true=>some (He.ga K x)
  |false=>none)=some C:=e
 split at e
 ·exact(ase e).symm
 ·cases e
theorem CG{xs:List Str}{ft:Ft}{x:Str}(e:xs.contains x=true):oJ w K xs ft x=some (He.ga K x):=by
 show(match xs.contains x with
  |true=>some (He.ga K x)
  |false=>none)=_
 rw[e]
theorem Zj{ft:Ft}(hb:LK K ft=true){c:Str}{fs:List Str}(hl:ft.lookup c=some fs):Cls K (He.ga K c)/\∀f∈fs,NoAttr K (He.ga K c) f:=by obtain⟨h1,h2⟩:=He.ba (asj.mp hb _ (qm hl));exact⟨He.cls_ok h1,λf hf=>He.noat_ok (asj.mp h2 f hf)⟩
theorem adM{xs:List Str}{ft:Ft}(hb:LK K ft=true):jm K (oJ w K xs ft):=λc C f e hf=>by
 have e:=Pk e;subst e;have hf:f∈(ft.lookup c).getD []:=hf;cases hl:ft.lookup c with
 |none=>rw[hl]at hf;cases hf
 |some fs=>
  rw[hl]at hf;obtain⟨h1,h2⟩:=Zj hb hl;exact⟨h1,h2 f hf⟩
theorem afN{xs:List Str}{ft:Ft}:Ly ft (oJ w K xs ft):=λc f e=>by
 unfold Ft.has at e;show f∈(ft.lookup c).getD [];split at e
 ·next fs hl=>
  rw[hl];simpa using e
 ·cases e
def xmN(xs:List Str)(xm:List (Str×List (Str×Bool))):Bool:=xm.all λp=>xs.contains p.1
theorem ams{xs:List Str}{ft:Ft}{xm:List (Str×List (Str×Bool))}(hb:xmB K xm=true)(hn:xmN xs xm=true)(y:Str)(tab:List (Str×Bool))(hl:xm.lookup y=some tab):(∃D,oJ w K xs ft y=some D)/\acD K (oJ w K xs ft) y λx=>tab.lookup x:=by refine⟨⟨_,CG (asj.mp hn _ (qm hl))⟩,λx b C e1 e2 D e3=>?_⟩;rw[Pk e2,Pk e3];exact He.exm_ok (asj.mp (asj.mp hb _ (qm hl)) _ (qm e1))
theorem aia{C:Addr}(hb:akx K C=true):OexC K C:=by
 obtain⟨h1,h2⟩:=He.ba hb;obtain⟨h2,h3⟩:=He.ba h2;obtain⟨h3,h4⟩:=He.ba h3;obtain⟨h4,h5⟩:=He.ba h4;refine⟨?_,He.eqO_ok h2,atp h3,atp h4,h5⟩;split at h1
 ·next t dd cd sl hl=>
  obtain⟨t1,h1⟩:=He.ba h1;split at h1
  ·next C' bm k0 k1 k2 k3 n k5 e1 e2=>
   obtain⟨a1,h1⟩:=He.ba h1;obtain⟨a2,h1⟩:=He.ba h1;obtain⟨a3,h1⟩:=He.ba h1;obtain⟨a4,a5⟩:=He.ba h1;have q1:=atp t1;have q2:=atp a1;have q3:=atp a2;have q4:cd.hasDel=false:=by simpa using a3
   have q5:sl=#[k0,k1,k2,k3,some (.builtin n),k5]:=by rw[←Array.toList_inj];exact e2
   obtain⟨nm,bs,mro,ns,qn,hd,sn,sub,ab,col,hdel⟩:=cd;have e1:mro=.ref C'::bm:=e1;have q4:hdel=false:=q4;have a4:hd=true:=a4;subst q1 q2 q3 q4 q5 e1 a4;exact⟨nm,qn,ns,bs,bm,sn,sub,ab,col,dd,k0,k1,k2,k3,k5,hl,a5⟩
  ·cases h1
 ·cases h1
theorem T9{x:Str}{fs:List Str}(hb:Uw K x fs=true):OexC K (He.ga K x)/\PySem.W.findIn K (.ref (He.ga K x)) "__init__"=some (some (.ref (He.ma K (He.ga K x) "__init__")))/\PySem.W.typeIn K (.ref (He.ma K (He.ga K x) "__init__"))=some (.type "function")/\XfC K (He.ga K x)/\∀f∈fs,PySem.W.findIn K (.ref (He.ga K x)) f=some none:=by obtain⟨h1,h2⟩:=He.ba hb;obtain⟨h2,h3⟩:=He.ba h2;obtain⟨h3,h4⟩:=He.ba h3;obtain⟨h4,h5⟩:=He.ba h4;exact⟨aia h1,He.eqO_ok h2,atp h3,xfB_ok h4,λf hf=>He.eqO_ok (asj.mp h5 f hf)⟩
theorem aft{a:Addr}{xs:List Str}(hb:XS K a xs=true)(H:Hp):SqT K H a (xs.map V.str):=by
 unfold XS at hb;split at hb
 ·next c d its n sl hl=>
  obtain⟨h1,h2⟩:=He.ba hb;obtain⟨h3,h4⟩:=He.ba h2;have q1:=atp h1;subst q1;exact .inr ⟨_,its,n,hl,rfl,rfl,atp h3,He.relAll_ok h4⟩
 ·cases hb
def zK(kvs:List (Str×List Str)):List (Str×Dat):=kvs.map λq=>(q.1,.tuple (q.2.map PyData.str))
theorem Wk{g:Gh}{H:Hp}:∀xs:List Str,aM K g H (xs.map V.str) (xs.map PyData.str)
 |[]=>.nil
 |x::xs=>.cons (.str x) (Wk xs)
theorem SN{y:Str}:∀{kvs:List (Str×List Str)},(zK kvs).lookup y=(kvs.lookup y).map λxs=>PyData.tuple (xs.map PyData.str)
 |[]=>rfl
 |(z,xs)::r=>by
  show List.lookup y ((z,PyData.tuple (xs.map PyData.str))::zK r)=_;rw[asp,asp];split
  ·rfl
  ·exact SN
theorem look_none{α:Type}{y:Str}:∀{kvs:List (Str×α)},kvs.lookup y=none->y∉kvs.map (·.1)
 |[],_=>by simp
 |(z,a)::r,h=>by
  rw[asp]at h;split at h
  ·cases h
  ·next hn=>
   rw[arT,ar4]
   rintro(e|e)
   ·subst e;simp at hn
   ·exact look_none h e
theorem aiN{x:Str}{kvs:List (Str×List Str)}(hb:ags K x kvs=true)(hk:∃es n,KDict K w (He.ga K x) es n):acU w K (He.ga K x) (zK kvs):=by
 obtain⟨h1,h2⟩:=He.ba hb;obtain⟨h2,h3⟩:=He.ba h2;obtain⟨es,n,D⟩:=hk;rw[D.at_]at h1;refine⟨es,n,D,?_,λy=>?_⟩
 ·unfold zK;rw[asr];exact atp h2
 ·rw[SN];cases hl:kvs.lookup y with
  |some xs=>
   have h4:=asj.mp h3 _ (qm hl);show ∃v u,PySem.W.nsIn K (He.ga K x) y=some (some u)/\RelV v u/\∀g H,Rep K g H v (.tuple (xs.map PyData.str));have h4:(match PySem.W.nsIn K (He.ga K x) y with
    |some (some (.ref a))=>XS K a xs
    |_=>false)=true:=h4
   split at h4
   ·next a he=>exact⟨.ref a,.ref a,he,rfl,λg H=>.tup (aft h4 H) (Wk xs)⟩
   ·cases h4
  |none=>
   show PySem.W.nsIn K (He.ga K x) y=some none;have ny:=look_none hl;unfold PySem.W.nsIn;rw[D.at_];have h1:es.toList.all (λe=>(match e.key with
    |.str y _=>(kvs.map (·.1)).contains y
    |_=>false)&&!e.refKey)=true:=h1
   have f1:es.toList.find? (·.key.isStr y)=none:=by
    rw[List.find?_eq_none];intro e he z;obtain⟨a1,a2⟩:=He.ba (asj.mp h1 e he);split at a1
    ·next y' tk hy=>
     rw[hy]at z;have z:(y'==y)=true:=z;have e':=eq_of_beq z;subst e';exact ny (by simpa using a1)
    ·cases a1
   have f2:es.toList.any (·.refKey)=false:=by rw[List.any_eq_false];intro e he z;obtain⟨a1,a2⟩:=He.ba (asj.mp h1 e he);rw[z]at a2;cases a2
   show(match es.toList.find? (·.key.isStr y) with
    |some e=>some (some e.val)
    |none=>if es.toList.any (·.refKey) then none else some none)=some none
   rw[f1,f2];rfl
end
section
variable{P:Program}{w:World}{K:arO}{mg:Str->Option Value}{base:Heap}{k:Nat}{xs:List Str}{ft:Ft}
def Yc(P:Program)(w:World)(K:arO)(mg:Str->Option Value)(base:Heap)(aj:aR)(k:Nat)(m:Str):List (Str×MV)->Prop
 |[]=>True
 |(c,v)::r=>bY P w K mg base aj k c m v/\Yc P w K mg base aj k m r
def FT(P:Program)(w:World)(K:arO)(mg:Str->Option Value)(base:Heap)(aj:aR)(k:Nat):List (Str×List (Str×MV))->Prop
 |[]=>True
 |(m,tb)::r=>Yc P w K mg base aj k m tb/\FT P w K mg base aj k r
theorem Yc.get{aj:aR}{m:Str}:∀{tb:List (Str×MV)},Yc P w K mg base aj k m tb->∀c v,tb.lookup c=some v->bY P w K mg base aj k c m v
 |[],_,c,v,h=>nomatch h
 |(y,u)::r,g,c,v,h=>by
  rw[asp]at h;split at h
  ·next e=>
   cases h;rw[eq_of_beq e];exact g.1
  ·exact g.2.get c v h
theorem FT.get{aj:aR}:∀{Ms:List (Str×List (Str×MV))},FT P w K mg base aj k Ms->∀m tb,Ms.lookup m=some tb->∀c v,tb.lookup c=some v->bY P w K mg base aj k c m v
 |[],_,m,tb,h=>nomatch h
 |(y,u)::r,g,m,tb,h=>by
  rw[asp]at h;split at h
  ·next e=>
   cases h;rw[eq_of_beq e];exact g.1.get
  ·exact g.2.get m tb h
theorem aof{aj:aR}{x:Str}{f:Addr}{fd:FuncData}{ps:List Str}{j:Nat}{m:Mo->List Dat->bx Dat}(hj:j<=k)(hg:mg x=some (.ref f))(hk:PySem.W.keepIn K (.ref f)=true)(hB:Binds K fd ps [])(F:FnOk P w K mg base (L2.CX P w) j f fd ps (J9 K aj ps.length m)):bf P w K mg base aj k x (.fg ps.length m):=
 ⟨f,hg,hk,fd,ps,j,hj,rfl,hB,F⟩
theorem iH{x:Str}(hn:xs.contains x=true)(hg:mg x=some (.ref (He.ga K x)))(he:(He.Fa.exc x).ok K=true):bf P w K mg base (oJ w K xs ft) k x .exc:=by obtain⟨h1,h2,h3,h4⟩:=He.exc_ok he;exact⟨_,hg,CG hn,h1,h2,h3,h4⟩
theorem aks{x:Str}{fd:FuncData}{ps:List Str}{j n:Nat}{m:Mo->List Dat->bx Dat}(hj:j+1<=k)(hn:xs.contains x=true)(hg:mg x=some (.ref (He.ga K x)))(hc:Cls K (He.ga K x))(hm:(He.Fa.mkr x).ok K=true)(hp:ps.length=n+1)(hB:Binds K fd ps [])
  (F:FnOk P w K mg base (L2.CX P w) j (He.ma K (He.ga K x) "__init__") fd ps (J9 K (oJ w K xs ft) ps.length m)):bf P w K mg base (oJ w K xs ft) k x (.cls n m):=
 ⟨_,_,fd,ps,j,hg,CG hn,hc,He.mkr_ok hm,hj,hp,hB,F⟩
theorem ako{aj:aR}{x:Str}{kvs:List (Str×List Str)}(hg:mg x=some (.ref (He.ga K x)))(hb:ags K x kvs=true)(hk:∃es n,KDict K w (He.ga K x) es n):bf P w K mg base aj k x (.dic (zK kvs)):=⟨_,hg,aiN hb hk⟩
theorem akE{x:Str}{fs:List Str}{fd:FuncData}{ps:List Str}(h2:2<=k)(hn:xs.contains x=true)(hg:mg x=some (.ref (He.ga K x)))(ho:Uw K x fs=true)(hp:ps.length=fs.length+1)(hB:Binds K fd ps [])(F:FnOk P w K mg base CX0 1 (He.ma K (He.ga K x) "__init__") fd ps (afs (He.ga K x) fs)):bf P w K mg base (oJ w K xs ft) k x (.exi fs):=by obtain⟨h1,h3,h4,_,_⟩:=T9 ho;exact⟨_,_,fd,ps,hg,CG hn,h1,h3,h4,h2,hp,hB,F⟩
theorem agY{m:Str}{l:List Str}(hf:l.contains m=false)(z:m∈l):False:=by rw[List.contains_iff_mem.mpr z]at hf;cases hf
theorem anU{c m:Str}{fd:FuncData}{ps:List Str}{j:Nat}{mm:Mo->List Dat->Out Dat}(hj:j<=k)(hn:xs.contains c=true)(hc:Cls K (He.ga K c))(hm:(He.Fa.meth c m).ok K=true)(hf:((ft.lookup c).getD []).contains m=false)(hB:Binds K fd ps [])(F:FnOk P w K mg base (L2.CX P w) j (He.ma K (He.ga K c) m) fd ps (W0 K (oJ w K xs ft) ps.length mm)):bY P w K mg base (oJ w K xs ft) k c m (.q ps.length mm):=
 ⟨_,_,CG hn,hc,He.meth_ok hm,(λz=>agY hf z),fd,ps,j,hj,rfl,hB,F⟩
theorem anq{c m:Str}{fd:FuncData}{ps:List Str}{j:Nat}{mm:Mo->List Dat->bx Dat}(hj:j<=k)(hn:xs.contains c=true)(hc:Cls K (He.ga K c))(hm:(He.Fa.meth c m).ok K=true)(hf:((ft.lookup c).getD []).contains m=false)(hB:Binds K fd ps [])(F:FnOk P w K mg base (L2.CX P w) j (He.ma K (He.ga K c) m) fd ps (J9 K (oJ w K xs ft) ps.length mm)):bY P w K mg base (oJ w K xs ft) k c m (.g ps.length mm):=
 ⟨_,_,CG hn,hc,He.meth_ok hm,(λz=>agY hf z),fd,ps,j,hj,rfl,hB,F⟩
theorem alQ{Ms:List (Str×List (Str×MV))}{xm:List (Str×List (Str×Bool))}{df:List (Str×Bool)}{xf:List (Str×List Str)}(hm:FT P w K mg base (oJ w K xs ft) k Ms)(hb:LK K ft=true)(hx:xmB K xm=true)(hn:xmN xs xm=true)(hf:(xf.all λp=>xs.contains p.1&&Uw K p.1 p.2)=true):Vj P w K mg base (oJ w K xs ft) k ⟨Ms,ft,xm,df,xf⟩ where
 ms:=hm.get
 fk:=afN
 co:=adM hb
 hw:=rfl
 xm:=ams hx hn
 xf:=λy fs hl=>by
  obtain⟨h1,h2⟩:=He.ba (asj.mp hf _ (qm hl));obtain⟨_,_,_,h3,h4⟩:=T9 h2;exact⟨_,CG h1,h3,h4⟩
end
abbrev lI(l:List Int):Dat:=.list (l.map PyData.int)
abbrev aJ(l:List Int):Dat:=.tuple (l.map PyData.int)
theorem gW{tg:fO}{body:SF}{d:Dat}{ds:List Dat}{M M2:Mo}{Z Z1 Z2:Env}(h1:tg d Z=some Z1)(h2:body M Z1=.next Z2 M2):eO tg body (d::ds) M Z=eO tg body ds M2 Z2:=by
 rw[eO,h1]
 show(match body M Z1 with
   |.next Z2 M2=>eO tg body ds M2 Z2
   |.cont Z2 M2=>eO tg body ds M2 Z2
   |.brk Z2 M2=>.next Z2 M2
   |.ret d M2=>.ret d M2
   |.exc x Z2 M2=>.exc x Z2 M2
   |.bad=>.bad)=_
 rw[h2]
theorem fP{α:Type}{tg:fO}{tt:QT}{te:QF}{M:Mo}{Z:Env}(ds:α->Dat)(p:α->Bool)(f:α->Dat):∀(xs:List α),(∀x∈xs,∃Z1,tg (ds x) Z=some Z1/\tt M Z1=.ok (p x)/\(p x=true->te M Z1=.ok (f x)))->dB tg tt te M Z (xs.map ds)=.ok ((xs.filter p).map f)
 |[],_=>rfl
 |x::xs,h=>by
  obtain⟨Z1,h1,h2,h3⟩:=h x arU;have ih:=fP ds p f xs λy hy=>h y (arS _ hy);rw[arT,dB,h1]
  show((yD (tt M Z1)).bind λb=>if b=true then(yD (te M Z1)).bind λy=>(dB tg tt te M Z (xs.map ds)).bind λr=>.ok (y::r) else dB tg tt te M Z (xs.map ds))=_
  rw[h2,ih];cases hp:p x with
  |true=>
   show(if true=true then(yD (te M Z1)).bind λy=>(Out.ok ((xs.filter p).map f)).bind λr=>.ok (y::r) else Out.ok ((xs.filter p).map f))=_
   rw[h3 hp,if_pos rfl,List.filter_cons_of_pos hp];rfl
  |false=>
   show(if false=true then(yD (te M Z1)).bind λy=>(Out.ok ((xs.filter p).map f)).bind λr=>.ok (y::r) else Out.ok ((xs.filter p).map f))=_
   rw[if_neg (by decide),List.filter_cons_of_neg (by rw[hp];decide)]
theorem eZ{α:Type}{tg:fO}{te:QF}{M:Mo}{Z:Env}(ds:α->Dat)(f:α->Dat)(xs:List α)(h:∀x∈xs,∃Z1,tg (ds x) Z=some Z1/\te M Z1=.ok (f x)):dB tg gY te M Z (xs.map ds)=.ok (xs.map f):=by
 have:=fP (tt:=gY) ds (λ_=>true) f xs λx hx=>by
  obtain⟨Z1,h1,h2⟩:=h x hx;exact⟨Z1,h1,rfl,λ_=>h2⟩
 rw[this,atc.mpr (λ_ _=>rfl)]
theorem agz{i j:Int}(h : -(2 ^ 64) < i/\i < 2 ^ 64):decide (CMul i j)=true:=decide_eq_true (.inl h)
theorem mul_r{i j:Int}(h : -(2 ^ 64) < j/\j < 2 ^ 64):decide (CMul i j)=true:=decide_eq_true (.inr h)
section
variable(M:Mo)(Z:Env)
@[simp]theorem akA (f k:SF):aD f k M Z=match f M Z with
 |.next Z' M'=>k M' Z'
 |o=>o:=rfl
@[simp]theorem aoZ:aW M Z=.next Z M:=rfl
@[simp]theorem aqX (tg:fO) (f:GF):aZ tg f M Z=(f M Z).then Z λd M'=>match tg d Z with
 |some Z'=>.next Z' M'
 |none=>.bad:=rfl
@[simp]theorem aoO (i j:Nat) (f:GF):Q9 i j f M Z=(f M Z).then Z λd M'=>.next ((Z.set i (some (.dat d))).set j (some (.dat d))) M':=rfl
@[simp]theorem ev_if (t:QT) (f k:SF):bQ t f k M Z=((t M (pF Z)).at M).then Z λc M'=>if c=true then f M' Z else k M' Z:=rfl
@[simp]theorem aqD (f:QF):aQ f M Z=((f M (pF Z)).at M).then Z λd M'=>.ret d M':=rfl
@[simp]theorem apk (it:IF) (tg:fO) (body:SF):qU it tg body M Z=((it M Z).at M).then Z λds M'=>eO tg body ds M' Z:=rfl
@[simp]theorem aqf (j:Nat) (f:IF):Dt j f M Z=((f M Z).at M).then Z λxs M'=>.next (Z.set j (some (.mut xs))) M':=rfl
@[simp]theorem aoL (f:GF):cH f M Z=(f M Z).then Z λ_ M'=>.next Z M':=rfl
@[simp]theorem apF (j:Nat) (f:QF):Jz j f M Z=match Z[j]? with
 |some (some (.mut xs))=>((f M Z).at M).then Z λd M'=>if xs.length < 100000 then .next (Z.set j (some (.mut (xs++[d])))) M' else .bad
 |_=>.bad:=rfl
@[simp]theorem aoR (j:Nat) (fi f:QF):al5 j fi f M Z=match Z[j]? with
 |some (some (.mut xs))=>((f M Z).at M).then Z λd M'=>((fi M' Z).at M').then Z λi M2=>match i with
  |.int k=>match ixN xs.length k with
   |some n=>.next (Z.set j (some (.mut (xs.set n d)))) M2
   |none=>.bad
  |_=>.bad
 |_=>.bad:=rfl
@[simp]theorem apG (j:Nat) (f:QF):O5 j f M Z=match Z[j]? with
 |some (some (.dat (.int i)))=>((f M Z).at M).then Z λd M'=>match d with
  |.int k=>.next (Z.set j (some (.dat (.int (i+k))))) M'
  |_=>.bad
 |_=>.bad:=rfl
@[simp]theorem ao9 (i j:Nat) (f:GF):X6 i j f M Z=(f M Z).then Z λd M'=>match d with
 |.list (d0::ds)=>if ds.length<=16000 then .next ((Z.set i (some (.dat d0))).set j (some (.dat (.list ds)))) M' else .bad
 |.tuple (d0::ds)=>if ds.length<=16000 then .next ((Z.set i (some (.dat d0))).set j (some (.dat (.list ds)))) M' else .bad
 |_=>.bad:=rfl
@[simp]theorem arq (js:List Nat) (as:QA):sPN js as M Z=((as M Z).at M).then Z λds M'=>match rJ js ds Z with
 |some Z'=>.next Z' M'
 |none=>.bad:=rfl
@[simp]theorem ap7 (f:QF):gOf f M Z=(f M Z).at M:=rfl
@[simp]theorem ev_op (o:Dat->Dat->Out Dat) (a b:QF):aA o a b M Z=(a M Z).bind λx=>(b M Z).bind λy=>o x y:=rfl
@[simp]theorem ev_un (o:Dat->Out Dat) (a:QF):eV o a M Z=(a M Z).bind o:=rfl
@[simp]theorem ev_c (d:Dat):qC d M Z=.ok d:=rfl
@[simp]theorem ev_var (i:Nat):aq i M Z=match Z[i]? with
 |some (some (.dat d))=>.ok d
 |_=>.bad:=rfl
@[simp]theorem aoY (i:Nat):ao i M Z=match Z[i]? with
 |some (some (.dat d))=>.ok d
 |some (some (.mut xs))=>.ok (.list xs)
 |_=>.bad:=rfl
@[simp]theorem aqI:au M Z=.ok []:=rfl
@[simp]theorem aoE (a:QF) (r:QA):ak a r M Z=(a M Z).bind λx=>(r M Z).bind λxs=>.ok (x::xs):=rfl
@[simp]theorem apR (r:QA):bB r M Z=(r M Z).bind λxs=>Out.when (decide (xs.length<=100000)) (.ok (.tuple xs)):=rfl
@[simp]theorem apZ (r:QA):vP r M Z=(r M Z).bind λxs=>Out.when (decide (xs.length<=100000)) (.ok (.list xs)):=rfl
@[simp]theorem apt (a:QF):jh a M Z=(a M Z).bind IV:=rfl
@[simp]theorem aru (a:QF):bh a M Z=(a M Z).bind Bx:=rfl
@[simp]theorem aop (a:QT):jZ a M Z=(a M Z).bind λb=>.ok (!b):=rfl
@[simp]theorem aoS (a b:QT):jK a b M Z=(a M Z).bind λx=>if x=true then b M Z else .ok false:=rfl
@[simp]theorem ap9 (a b:QT):JF a b M Z=(a M Z).bind λx=>if x=true then .ok true else b M Z:=rfl
@[simp]theorem arv (a:QT):Tn a M Z=(a M Z).bind λb=>.ok (.bool b):=rfl
@[simp]theorem aqk (t:QT) (a b:QF):S7 t a b M Z=(t M Z).bind λx=>if x=true then a M Z else b M Z:=rfl
@[simp]theorem ev_is (neg:Bool) (c:Dat) (a:QF):xK neg c a M Z=(a M Z).bind λd=>.ok (.bool (neg ^^ j9 c d)):=rfl
@[simp]theorem ev_notV (a:QF):Sh a M Z=((a M Z).bind Bx).bind λb=>.ok (.bool (!b)):=by
 show(((a M Z).bind Bx).bind λb=>Out.ok (!b)).bind (λb=>Out.ok (PyData.bool b))=_
 cases a M Z with
 |ok d=>cases h:Bx d<;>simp[Out.bind,h]
 |exc x=>rfl
 |bad=>rfl
@[simp]theorem ev_andV (a b:QF):yc a b M Z=(a M Z).bind λd=>(Bx d).bind λx=>if x=true then b M Z else .ok (.bool false):=rfl
@[simp]theorem ev_orV (a b:QF):af9 a b M Z=(a M Z).bind λd=>(Bx d).bind λx=>if x=true then .ok (.bool true) else b M Z:=rfl
@[simp]theorem aol (o o':Dat->Dat->Out Dat) (a b c:QF):lN o o' a b c M Z=(a M Z).bind λx=>(b M Z).bind λy=>(o x y).bind λz=>(Bx z).bind λk=>if k=true then(c M Z).bind λw=>(o' y w).bind Bx else .ok false:=rfl
@[simp]theorem ara (t:Ol) (a:QF):yg t a M Z=(a M Z).bind (yO t):=rfl
@[simp]theorem arx (a:QF) (lo hi:QO):OJ a lo hi M Z=(a M Z).bind λd=>(lo M Z).bind λl=>(hi M Z).bind λh=>slD d l h:=rfl
@[simp]theorem arw:Ah M Z=.ok none:=rfl
@[simp]theorem aro (a:QF):rC a M Z=(a M Z).bind λd=>(Bj d).bind λi=>.ok (some i):=rfl
@[simp]theorem ev_call (m:Mo->List Dat->Out Dat) (as:QA):aV m as M Z=(as M Z).bind λds=>m M ds:=rfl
@[simp]theorem an3 (a:QF):cR a M Z=(a M Z).bind oE:=rfl
@[simp]theorem anc (a:QF):Cj a M Z=(a M Z).bind λd=>(Bj d).bind λn=>Out.when (decide (n<=100000/\-100000<=n)) (.ok (jC 0 n.toNat)):=rfl
@[simp]theorem aoD (k₀:Int) (a:QF):wV k₀ a M Z=(a M Z).bind λd=>(oE d).bind λds=>.ok (pB k₀ ds):=rfl
@[simp]theorem aqh (a b:QF):Jk a b M Z=(a M Z).bind λd=>(b M Z).bind λe=>(oE d).bind λds=>(oE e).bind λes=>.ok (wN ds es):=rfl
@[simp]theorem apa (it:IF) (tg:fO) (vs:List Nat) (tt:QT) (te:QF):dY it tg vs tt te M Z=(it M Z).bind λds=>Out.when (decide (ds.length<=50000)) ((dB tg tt te M (cC Z vs) ds).bind λr=>.ok (.list r)):=rfl
@[simp]theorem anQ (it:IF) (tg:fO) (vs:List Nat) (tt:QT) (te:QF):zV it tg vs tt te M Z=(it M Z).bind λds=>Out.when (decide (ds.length<=50000)) (dB tg tt te M (cC Z vs) ds):=rfl
@[simp]theorem aqR (f:QA):O2 f M Z=(f M Z).bind λxs=>Out.when (decide (xs.length<=100000)) (.ok xs):=rfl
@[simp]theorem alM (f:QF):afI f M Z=(f M Z).bind X8:=rfl
@[simp]theorem am3 (j:Nat) (d:Dat):aF j d Z=some (Z.set j (some (.dat d))):=rfl
@[simp]theorem anI (js:List Nat) (ds:List Dat):bH js (.tuple ds) Z=rJ js ds Z:=rfl
@[simp]theorem arl (n:Nat) (b:SF) (ds:List Dat):mQ n b M ds=match b M (ini n ds) with
 |.ret d _=>.ok d
 |.next _ _=>.ok .none
 |.exc x _ _=>.exc x
 |_=>.bad:=rfl
@[simp]theorem ars (n:Nat) (b:SF) (ds:List Dat):mG n b M ds=match b M (ini n ds) with
 |.ret d M'=>.ok d M'
 |.next _ M'=>.ok .none M'
 |.exc x _ M'=>.exc x M'
 |_=>.bad:=rfl
end
section
variable(i j:Int)(ds es:List Dat)(b c:Bool)(x y:Str)
@[simp]theorem ao1:fu (.int i) (.int j)=.ok (.int (i+j)):=rfl
@[simp]theorem aoU:fu (.list ds) (.list es)=Out.when (decide (ds.length+es.length<=100000)) (.ok (.list (ds++es))):=rfl
@[simp]theorem ao4:fu (.tuple ds) (.tuple es)=Out.when (decide (ds.length+es.length<=100000)) (.ok (.tuple (ds++es))):=rfl
@[simp]theorem aq6:kY (.int i) (.int j)=.ok (.int (i - j)):=rfl
@[simp]theorem ap6:wZ (.int i) (.int j)=Out.when (decide (CMul i j)) (.ok (.int (i * j))):=rfl
@[simp]theorem aqz:Bc (.int i) (.int j)=Out.when (decide (CDiv i j)) (.ok (.int (i / j))):=rfl
@[simp]theorem apI:kh (.int i) (.int j)=Out.when (decide (0 < j)) (.ok (.int (i % j))):=rfl
@[simp]theorem aqn:O9 (.int i) (.int j)=Out.when (decide (CPow i j)) (.ok (.int (i ^ j.toNat))):=rfl
@[simp]theorem arD:Ox (.int i) (.int j)=.ok (.bool (decide (i < j))):=rfl
@[simp]theorem ari:sV (.int i) (.int j)=.ok (.bool (decide (i<=j))):=rfl
@[simp]theorem arz:Wv (.int i) (.int j)=.ok (.bool (decide (j < i))):=rfl
@[simp]theorem arj:geD (.int i) (.int j)=.ok (.bool (decide (j<=i))):=rfl
@[simp]theorem apf:bW (.int i) (.int j)=.ok (.bool (i==j)):=rfl
@[simp]theorem aqv:bW (.str x) (.str y)=.ok (.bool (x==y)):=rfl
@[simp]theorem ap1:bW (.bool b) (.bool c)=.ok (.bool (b==c)):=rfl
@[simp]theorem apA:uZ (.int i) (.int j)=.ok (.bool (!(i==j))):=rfl
@[simp]theorem aq0:uZ (.str x) (.str y)=.ok (.bool (!(x==y))):=rfl
@[simp]theorem aqt:Qx (.int i)=.ok (.int (-i)):=rfl
@[simp]theorem ao8:IV (.bool b)=.ok b:=rfl
@[simp]theorem aon:IV (.list ds)=.ok (!ds.isEmpty):=rfl
@[simp]theorem aoy:IV (.tuple ds)=.ok (!ds.isEmpty):=rfl
@[simp]theorem aqS:Bx (.bool b)=.ok b:=rfl
@[simp]theorem aou:oZ (.list ds)=.ok (.int ds.length):=rfl
@[simp]theorem aoX:oZ (.tuple ds)=.ok (.int ds.length):=rfl
@[simp]theorem apP:T8 (.int i)=.ok (.int (if i < 0 then -i else i)):=rfl
@[simp]theorem ev_max2:qL (.int i) (.int j)=.ok (.int (if j > i then j else i)):=rfl
@[simp]theorem ao3:Il (.int i) (.int j)=.ok (.int (if j < i then j else i)):=rfl
@[simp]theorem aqY:aP (.list ds) (.int i)=match atI ds i with
  |some d=>.ok d
  |none=>.bad:=rfl
@[simp]theorem apO:aP (.tuple ds) (.int i)=match atI ds i with
  |some d=>.ok d
  |none=>.bad:=rfl
@[simp]theorem aot:Bj (.int i)=.ok i:=rfl
@[simp]theorem aqG (lo hi:Option Int):slD (.list ds) lo hi=.ok (.list (cutD ds lo hi)):=rfl
@[simp]theorem aq1 (lo hi:Option Int):slD (.tuple ds) lo hi=.ok (.tuple (cutD ds lo hi)):=rfl
@[simp]theorem aom:m7 (.list ds)=.ok (.tuple ds):=rfl
@[simp]theorem aoP:m7 (.tuple ds)=.ok (.tuple ds):=rfl
@[simp]theorem anZ:N5 (.list ds)=.ok (.list ds):=rfl
@[simp]theorem anK:N5 (.tuple ds)=.ok (.list ds):=rfl
@[simp]theorem apw:X8 (.list ds)=.ok ds:=rfl
@[simp]theorem aq9:X8 (.tuple ds)=.ok ds:=rfl
@[simp]theorem aqd:oE (.list ds)=.ok ds:=rfl
@[simp]theorem aqK:oE (.tuple ds)=.ok ds:=rfl
@[simp]theorem aoq (o:Option Cell) (Z:Env):pF (o::Z)=o.map R3::pF Z:=rfl
@[simp]theorem anJ:pF []=[]:=rfl
@[simp]theorem aod (d:Dat):R3 (.dat d)=.dat d:=rfl
@[simp]theorem anx (ds:List Dat):R3 (.mut ds)=.dat (.list ds):=rfl
@[simp]theorem ao5 (Z:Env):rJ [] [] Z=some Z:=rfl
@[simp]theorem aoV (j:Nat) (js:List Nat) (d:Dat) (Z:Env):rJ (j::js) (d::ds) Z=rJ js ds (Z.set j (some (.dat d))):=rfl
@[simp]theorem an7 (Z:Env):cC Z []=Z:=rfl
@[simp]theorem aok (Z:Env) (j:Nat) (js:List Nat):cC Z (j::js)=(cC Z js).set j none:=rfl
@[simp]theorem am6 {α:Type} (a:α) (l:List α):atI (a::l) 0=some a:=atI_nat (j:=0) rfl
@[simp]theorem aor (n:Nat):ini n ds=ds.map (λd=>some (.dat d))++List.replicate (n - ds.length) none:=rfl
end
theorem abw{a b:String}:Str.ofString a=Str.ofString b↔a=b:=by
 constructor
 ·intro h;rw[Str.ofString_eq_toList,Str.ofString_eq_toList]at h;have h1:a.toList.map Char.toNat=b.toList.map Char.toNat:=by simpa using h
  have h2:a.toList=b.toList:=by
   refine List.map_inj_right (f:=Char.toNat) (λx y e=>?_) |>.mp h1
   exact Char.ext (UInt32.toNat_inj.mp e)
  exact String.toList_inj.mp h2
 ·rintro rfl;rfl
@[simp]theorem apl (a b:String):(Str.ofString a=Str.ofString b)=(a=b):=propext abw
@[simp]theorem aox (a b:String):(Str.ofString a==Str.ofString b)=decide (a=b):=by rw[asQ];simp[abw]
@[simp]theorem ark {α:Type} (a b:α) (l:List α):atI (a::b::l) 1=some b:=atI_nat (j:=1) rfl
@[simp]theorem arp {α:Type} (a b c:α) (l:List α):atI (a::b::c::l) 2=some c:=atI_nat (j:=2) rfl
@[simp]theorem arA {α:Type} (a b c d:α) (l:List α):atI (a::b::c::d::l) 3=some d:=atI_nat (j:=3) rfl
@[simp]theorem arn {α:Type} (a b c d e:α) (l:List α):atI (a::b::c::d::e::l) 4=some e:=atI_nat (j:=4) rfl
@[simp]theorem arE {α:Type} (a b c d e f:α) (l:List α):atI (a::b::c::d::e::f::l) 5=some f:=atI_nat (j:=5) rfl
@[simp]theorem arI {α:Type} (a b c d e f g:α) (l:List α):atI (a::b::c::d::e::f::g::l) 6=some g:=atI_nat (j:=6) rfl
@[simp]theorem ank (s:String):PyData.strOk (Str.ofString s)=true:=by
 rw[Str.ofString_eq_toList];unfold PyData.strOk;simp only[Array.all_eq_true,ato];intro i h;simp only[List.getElem_toArray,List.getElem_map];have:=s.toList[i]'(by simpa using h) |>.valid
 rcases this with z|⟨_,z⟩
 ·show(s.toList[i]'(by simpa using h)).val.toNat < _
  omega
 ·show(s.toList[i]'(by simpa using h)).val.toNat < _
  omega
section
variable(i j:Int)(x y:Str)(d e:Dat)(ds es:List Dat)(b c:Bool)
@[simp]theorem Yi:PyData.eqv (.int i) (.int j)=(i==j):=by simp[PyData.eqv]
@[simp]theorem aqx:PyData.eqv (.str x) (.str y)=(x==y):=by simp[PyData.eqv]
@[simp]theorem apS:PyData.eqv (.bool b) (.bool c)=(b==c):=by simp[PyData.eqv]
@[simp]theorem aqs:PyData.eqv .none .none=true:=by simp[PyData.eqv]
@[simp]theorem Yy:PyData.eqv (.tuple ds) (.tuple es)=PyData.eqvAll ds es:=by simp[PyData.eqv]
@[simp]theorem alK:PyData.eqv (.list ds) (.list es)=PyData.eqvAll ds es:=by simp[PyData.eqv]
@[simp]theorem apJ:PyData.eqv (.tuple ds) .none=false:=by simp[PyData.eqv]
@[simp]theorem aqN:PyData.eqv .none (.tuple ds)=false:=by simp[PyData.eqv]
@[simp]theorem aqJ:PyData.eqv (.str x) (.int i)=false:=by simp[PyData.eqv]
@[simp]theorem ap0:PyData.eqv (.int i) (.str x)=false:=by simp[PyData.eqv]
@[simp]theorem ahZ:PyData.eqvAll [] []=true:=by simp[PyData.eqvAll]
@[simp]theorem aos:PyData.eqvAll [] (d::ds)=false:=by simp[PyData.eqvAll]
@[simp]theorem ahJ:PyData.eqvAll (d::ds) []=false:=by simp[PyData.eqvAll]
@[simp]theorem abm:PyData.eqvAll (d::ds) (e::es)=(PyData.eqv d e&&PyData.eqvAll ds es):=by simp[PyData.eqvAll]
end
@[simp]theorem zR:∀l m:List Int,PyData.eqvAll (l.map PyData.int) (m.map PyData.int)=decide (l=m)
 |[],[]=>by simp
 |[],_::_=>by simp
 |_::_,[]=>by simp
 |a::l,b::m=>by
  rw[arT,arT,abm,zR l m,Yi];by_cases h:a=b<;>by_cases h2:l=m<;>simp[h,h2]
theorem Dh{n:Nat}:∀{ds:List Dat},lZ n ds=true↔∀d∈ds,okd n d=true
 |[]=>by simp[lZ]
 |d::ds=>by simp[lZ,Dh (ds:=ds)]
@[simp]theorem ahG (n:Nat) (i:Int):okd n (.int i)=true:=by simp[okd]
@[simp]theorem WR (n:Nat) (l:List Int):lZ n (l.map PyData.int)=true:=Dh.mpr λd h=>by
 obtain⟨i,_,rfl⟩:=arY.mp h;simp
def ob(h:Nat):Dat:=obj h
section
variable(M:Mo)(Z:Env)(h:Nat)(f:Str)
@[simp]theorem aoB:Lh M f (ob h)=(M[h]?).bind λi=>i.fs.lookup f:=rfl
@[simp]theorem aoj (tb:List (Str×MV)):Ey tb M (ob h)=(M[h]?).bind λi=>tb.lookup i.cls:=rfl
@[simp]theorem Yu:j6 M (ob h)=(M[h]?).bind λi=>match i.cls=="" with
 |true=>none
 |false=>some (h,i):=rfl
@[simp]theorem aqU (o:QF):gQ f o M Z=(o M Z).bind λd=>match Lh M f d with
 |some (.dat x)=>.ok x
 |_=>.bad:=rfl
@[simp]theorem aow (o:QF):bL f o M Z=(o M Z).bind λd=>match Lh M f d with
 |some (.dat x)=>.ok x
 |some (.lst _ xs)=>.ok (.list xs)
 |_=>.bad:=rfl
@[simp]theorem aoJ (tb:List (Str×MV)) (o:QF) (as:QA):aU tb o as M Z=(o M Z).bind λd=>match Ey tb M d with
 |some (.q _ m)=>(as M Z).bind λds=>m M (d::ds)
 |_=>.bad:=rfl
@[simp]theorem aoa (tb:List (Str×MV)) (o:QF) (as:QA):cO tb o as M Z=((o M Z).at M).bind λd _=>match Ey tb M d with
 |some (.q _ m)=>((as M Z).at M).bind λds _=>(m M (d::ds)).at M
 |some (.g _ m)=>((as M Z).at M).bind λds _=>m M (d::ds)
 |none=>.bad:=rfl
@[simp]theorem aoW (x:Str) (m:Mo->List Dat->bx Dat) (as:QA):Bh x m as M Z=((as M Z).at M).bind λds _=>match m (M++[⟨x,[]⟩]) (ob M.length::ds) with
 |.ok .none M'=>.ok (ob M.length) M'
 |_=>.bad:=rfl
@[simp]theorem anR (m:Mo->List Dat->bx Dat) (as:QA):Ec m as M Z=((as M Z).at M).bind λds _=>m M ds:=rfl
@[simp]theorem anj (m:Mo->List Dat->bx Dat) (as:GA):akV m as M Z=(as M Z).bind λds M1=>m M1 ds:=rfl
@[simp]theorem am7 (m:Mo->List Dat->Out Dat) (as:GA):alE m as M Z=(as M Z).bind λds M1=>(m M1 ds).at M1:=rfl
@[simp]theorem anm:alW M Z=.ok [] M:=rfl
@[simp]theorem am9 (a:GF) (r:GA):akf a r M Z=(a M Z).bind λd M1=>(r M1 Z).bind λds M2=>.ok (d::ds) M2:=rfl
@[simp]theorem apb (t:QT):agc t M Z=(t M Z).at M:=rfl
@[simp]theorem an1 (a:GT):alN a M Z=(a M Z).bind λb M1=>.ok (!b) M1:=rfl
@[simp]theorem anB (a b:GT):amw a b M Z=(a M Z).bind λx M1=>if x=true then b M1 Z else .ok false M1:=rfl
@[simp]theorem aoG (a b:GT):an8 a b M Z=(a M Z).bind λx M1=>if x=true then .ok true M1 else b M1 Z:=rfl
@[simp]theorem anD (a:GF):alX a M Z=(a M Z).bind λd M1=>(IV d).at M1:=rfl
@[simp]theorem anO (x:Str):eG x M Z=.exc ⟨x,[]⟩ Z M:=rfl
@[simp]theorem ang (x:Str) (fs:List Str) (as:QA):BZ x fs as M Z=((as M Z).at M).then Z λds M'=>.exc ⟨x,(fs.zip ds).reverse⟩ Z M':=rfl
@[simp]theorem aqp (b:SF) (hs:List Hd):U4 b hs M Z=match b M Z with
 |.exc x Z' M'=>hdl hs x Z' M'
 |o=>o:=rfl
@[simp]theorem aoM (x:dG):hdl [] x Z M=.exc x Z M:=rfl
@[simp]theorem ao2 (h:Hd) (r:List Hd) (x:dG):hdl (h::r) x Z M=match h.tk x.cls with
  |some true=>match acQ Z h.nm with
   |true=>match Fg h.y x h.st (Vl Z h.nm) with
    |some Z2=>.next (Vl Z2 h.nm) M
    |none=>.bad
   |false=>.bad
  |some false=>hdl r x Z M
  |none=>.bad:=rfl
@[simp]theorem aoF:Vl Z none=Z:=rfl
@[simp]theorem aoz (i:Nat):Vl Z (some i)=Z.set i none:=rfl
@[simp]theorem an6:acQ Z none=true:=rfl
@[simp]theorem aog (i:Nat):acQ Z (some i)=decide (i < Z.length):=rfl
@[simp]theorem aqC (y:Str) (x:dG):Fg y x [] Z=some Z:=rfl
@[simp]theorem aqL (y:Str) (x:dG) (j:Nat) (e:Eb) (r:List (Nat×Eb)):Fg y x ((j,e)::r) Z=(YB y x e).bind λd=>Fg y x r (Z.set j (some (.dat d))):=rfl
@[simp]theorem aqu (y:Str) (x:dG) (d:Dat):YB y x (.con d)=some d:=rfl
@[simp]theorem apd (g:GF):iw g M Z=(g M Z).then Z λd M'=>.ret d M':=rfl
@[simp]theorem ard (t:GT) (f k:SF):an5 t f k M Z=(t M Z).then Z λc M'=>if c=true then f M' Z else k M' Z:=rfl
@[simp]theorem ana (a b:QF):Ck a b M Z=(a M Z).bind λd=>(b M Z).bind λe=>(Bj d).bind λlo=>(Bj e).bind λn=>Out.when (decide (n<=100000/\-100000<=n/\lo<=100000/\-100000<=lo)) (.ok (jC lo (n - lo).toNat)):=rfl
@[simp]theorem aoQ (ft:Ft) (o:QF) (e:GF):uQ ft o f e M Z=(e M Z).then Z λd M1=>((o M1 Z).at M1).then Z λod M2=>match j6 M2 od with
 |some (h,i)=>match ft.has i.cls f&&decide (i.fs.length < 100) with
  |true=>.next Z (M2.set h (i.put f (.dat d)))
  |false=>.bad
 |none=>.bad:=rfl
@[simp]theorem aoN (ft:Ft) (o:QF) (e:IF):DG ft o f e M Z=((e M Z).at M).then Z λxs M0=>((o (M0++[⟨"",[]⟩]) Z).at (M0++[⟨"",[]⟩])).then Z λod M2=>match j6 M2 od with
 |some (h,i)=>match ft.has i.cls f&&decide (i.fs.length < 100) with
  |true=>.next Z (M2.set h (i.put f (.lst M0.length xs)))
  |false=>.bad
 |none=>.bad:=rfl
@[simp]theorem ao7 (ft:Ft) (o:QF) (b:Bool):NT ft o f b M Z=((o (M++[⟨"",[]⟩]) Z).at (M++[⟨"",[]⟩])).then Z λod M2=>match j6 M2 od with
 |some (h,i)=>match ft.has i.cls f&&decide (i.fs.length < 100) with
  |true=>.next Z (M2.set h (i.put f (.dic b [])))
  |false=>.bad
 |none=>.bad:=rfl
@[simp]theorem aoC (ft:Ft) (o:QF) (e:Mo->Env->Out (List (Dat×Dat))):SM ft o f e M Z=((e M Z).at M).then Z λkvs _=>((o (M++[⟨"",[]⟩]) Z).at (M++[⟨"",[]⟩])).then Z λod M2=>match j6 M2 od with
 |some (h,i)=>match ft.has i.cls f&&decide (i.fs.length < 100) with
  |true=>.next Z (M2.set h (i.put f (.dic true kvs)))
  |false=>.bad
 |none=>.bad:=rfl
@[simp]theorem ao0 (o:QF) (e:GF):DR f o e M Z=((o M Z).at M).then Z λod M0=>match FJ M0 f od with
 |some (_,_,n,_)=>(e M0 Z).then Z λd M1=>match FJ M1 f od with
  |some (h,i,n',xs)=>match n==n'&&decide (xs.length < 100000) with
   |true=>.next Z (M1.set h (i.put f (.lst n (xs++[d]))))
   |false=>.bad
  |none=>.bad
 |none=>.bad:=rfl
@[simp]theorem aoA (o fi e:QF):Tf f o fi e M Z=((e M Z).at M).then Z λd _=>((o M Z).at M).then Z λod _=>match FJ M f od with
 |some (h,i,n,xs)=>((fi M Z).at M).then Z λk _=>match k with
  |.int k=>match ixN xs.length k with
   |some j=>.next Z (M.set h (i.put f (.lst n (xs.set j d))))
   |none=>.bad
  |_=>.bad
 |none=>.bad:=rfl
@[simp]theorem aoH (ft:Ft) (o e:QF):SJ ft f o e M Z=((o M Z).at M).then Z λod _=>match j6 M od with
 |some (h,i)=>match i.fs.lookup f,ft.has i.cls f&&decide (i.fs.length < 100) with
  |some (.dat (.int a)),true=>((e M Z).at M).then Z λd _=>match d with
   |.int b=>.next Z (M.set h (i.put f (.dat (.int (a+b)))))
   |_=>.bad
  |_,_=>.bad
 |none=>.bad:=rfl
theorem ag8(d:Dat):FJ M f d=(j6 M d).bind λp=>match p.2.fs.lookup f with
 |some (.lst n xs)=>some (p.1,p.2,n,xs)
 |_=>none:=rfl
@[simp]theorem aoK:FJ M f (ob h)=(M[h]?).bind λi=>match i.cls=="" with
 |true=>none
 |false=>match i.fs.lookup f with
  |some (.lst n xs)=>some (h,i,n,xs)
  |_=>none:=by
 rw[ag8,Yu];cases M[h]? with
 |none=>rfl
 |some i=>
  show(match i.cls=="" with
   |true=>none
   |false=>some (h,i)).bind _=(match i.cls=="" with
   |true=>none
   |false=>_)
  cases i.cls==""<;>rfl
@[simp]theorem aov (i:Inst) (x:jc):i.put f x=⟨i.cls,putL f x i.fs⟩:=rfl
@[simp]theorem arG (x:jc):putL f x []=[(f,x)]:=rfl
@[simp]theorem arH (x y:jc) (g:Str) (r:List (Str×jc)):putL f x ((g,y)::r)=if g=f then(g,x)::r else(g,y)::putL f x r:=rfl
@[simp]theorem aoI (ft:Ft) (c:Str):Ft.has ft c f=match ft.lookup c with
 |some fs=>fs.contains f
 |none=>false:=rfl
@[simp]theorem aoT:zp M f (ob h)=(M[h]?).bind λi=>match i.cls=="" with
 |true=>none
 |false=>match i.fs.lookup f with
  |some (.dic b kvs)=>some (h,i,b,kvs)
  |_=>none:=by
 show(j6 M (ob h)).bind _=_
 rw[Yu];cases M[h]? with
 |none=>rfl
 |some i=>
  show(match i.cls=="" with
   |true=>none
   |false=>some (h,i)).bind _=(match i.cls=="" with
   |true=>none
   |false=>_)
  cases i.cls==""<;>rfl
@[simp]theorem aq7 (neg:Bool) (k o:QF):Qc neg f k o M Z=(k M Z).bind λd=>(o M Z).bind λod=>match zp M f od with
 |some (_,_,b,kvs)=>(dhas b kvs d).bind λr=>.ok (.bool (neg ^^ r))
 |none=>.bad:=rfl
@[simp]theorem apc (o k e:QF):Nb f o k e M Z=((e M Z).at M).then Z λv _=>((o M Z).at M).then Z λod _=>match zp M f od with
 |some (h,i,b,kvs)=>((k M Z).at M).then Z λd _=>match dhas b kvs d,decide (kvs.length < 100000) with
  |.ok false,true=>.next Z (M.set h (i.put f (.dic b (kvs++[(d,v)]))))
  |_,_=>.bad
 |none=>.bad:=rfl
@[simp]theorem ao6 (o k:QF):Nu f o k M Z=((o M Z).at M).then Z λod _=>match zp M f od with
 |some (h,i,b,kvs)=>((k M Z).at M).then Z λd _=>match dhas b kvs d,decide (kvs.length<=100000) with
  |.ok true,true=>.next Z (M.set h (i.put f (.dic b (kvs.filter λp=>!PyData.eqv p.1 d))))
  |_,_=>.bad
 |none=>.bad:=rfl
@[simp]theorem anv (o:QF):Dg f o M Z=(o M Z).bind λod=>match zp M f od with
 |some (_,_,true,kvs)=>.ok (kvs.map (·.1))
 |_=>.bad:=rfl
@[simp]theorem ano (o:QF):Du f o M Z=(o M Z).bind λod=>match zp M f od with
 |some (_,_,_,kvs)=>.ok (.list (kvs.map (·.1)))
 |none=>.bad:=rfl
@[simp]theorem arB (it:IF) (tg:fO) (vs:List Nat) (tk:QF):qDc it tg vs tk M Z=(it M Z).bind λds=>Out.when (decide (ds.length<=50000)) (Fd tg tk M (cC Z vs) ds []):=rfl
@[simp]theorem anA (kvs:List (Dat×Dat)) (i:Int):dhas false kvs (.int i)=.ok (kvs.any λp=>PyData.eqv p.1 (.int i)):=rfl
@[simp]theorem ap2 (neg:Bool) (kvs:List (Str×Dat)) (k:QF):Ud neg kvs k M Z=(k M Z).bind λd=>match d with
 |.str x=>.ok (.bool (neg ^^ (kvs.lookup x).isSome))
 |_=>.bad:=rfl
@[simp]theorem apY (kvs:List (Str×Dat)) (k:QF):acB kvs k M Z=(k M Z).bind λd=>match d with
 |.str x=>match kvs.lookup x with
  |some y=>.ok y
  |none=>.bad
 |_=>.bad:=rfl
@[simp]theorem anV (it:IF) (tg:fO) (vs:List Nat) (tt:QT) (it1:IF) (tg1:fO) (vs1:List Nat) (tt1:QT) (te:QF):Dy it tg vs tt it1 tg1 vs1 tt1 te M Z=((it M Z).bind λds=>(gU tg tt it1 tg1 vs1 tt1 te M (cC Z vs) ds).bind λr=>Out.when (decide (r.length<=50000)) (.ok r)).bind λr=>.ok (.list r):=rfl
@[simp]theorem am8 (it:IF) (tg:fO) (vs:List Nat) (tt:QT) (te:QF):aiD it tg vs tt te M Z=((it M Z).bind λds=>Out.when (decide (ds.length<=50000)) (dB tg tt te M (cC Z vs) ds)).bind λds=>match intsOf ds with
 |some l=>Out.when (decide (l.length<=4000)) (.ok (.list ((agM l).map PyData.int)))
 |none=>.bad:=rfl
@[simp]theorem am5 {α:Type} (k g:Str) (y:α) (r:List (Str×α)):List.lookup k ((g,y)::r)=if k=g then some y else List.lookup k r:=by
 rw[asp];by_cases e:k=g
 ·subst e;simp
 ·have:(k==g)=false:=by simpa using e
  rw[this,if_neg e]
end
end Rf
namespace Pr
open PySem PySem.Spec PyProof.Rows L2 Evl Rf
def yR:SF:=
 (aD (DG jY (ao 0) "allowances" (O2 au))
 (DG jY (ao 0) "circles" (O2 au)))
def uJ:=mG 1 yR
def Bf:SF:=
 (NT jY (ao 0) "held" true)
def vB:=mG 1 Bf
def Fv:SF:=
 (DG jY (ao 0) "beasts" (O2 au))
def zN:=mG 1 Fv
def zj:SF:=
 (aD (uQ jY (ao 0) "owner_count" (gOf (qC (.int 0))))
 (aD (NT jY (ao 0) "holders" false)
 (aD (uQ jY (ao 0) "grounds" (Bh "Grounds" uJ au))
 (aD (uQ jY (ao 0) "rights" (Bh "Rights" vB au))
 (uQ jY (ao 0) "herd" (Bh "Herd" zN au))))))
def mV:=mG 1 zj
def Az:SF:=
 (aQ (bB (ak (gQ "owner" (ao 0)) (ak (gQ "ground" (ao 0)) (ak (gQ "due" (ao 0)) (ak (gQ "ear" (ao 0)) (ak (gQ "alive" (ao 0)) au)))))))
def vN:=mQ 1 Az
def mU:List (Str×MV):=[("Beast",.q 1 vN)]
def CZ:SF:=
 (aQ (aA fu (aU mU (ao 0) au) (bB (ak (gQ "mother" (ao 0)) (ak (eV m7 (bL "story" (ao 0))) au)))))
def xJ:=mQ 1 CZ
def vU:SF:=
 (aQ (Du "holders" (ao 0)))
def qT:=mQ 1 vU
def uY:SF:=
 (aQ (Du "held" (ao 0)))
def pq:=mQ 1 uY
def uG:SF:=
 (aQ (eV oZ (bL "allowances" (ao 0))))
def pU:=mQ 1 uG
def eU:List (Str×MV):=[("Grounds",.q 1 pU)]
def Bq:SF:=
 (aQ (Tn (lN sV sV (qC (.int 1)) (ao 1) (aU eU (ao 0) au))))
def vM:=mQ 2 Bq
def zF:List (Str×MV):=[("Grounds",.q 2 vM)]
def yN:SF:=
 (bQ (jZ (jh (aU zF (ao 0) (ak (aq 1) au)))) (eG "NoGround") aW)
def uO:=mQ 2 yN
def aG:List (Str×MV):=[("Grounds",.q 2 uO)]
def nu:SF:=
 (aD (cH (gOf (aU aG (ao 0) (ak (aq 1) au))))
 (aQ (aA aP (bL "allowances" (ao 0)) (aA kY (ao 1) (qC (.int 1))))))
def jO:=mQ 2 nu
def ou:SF:=
 (aD (cH (gOf (aU aG (ao 0) (ak (aq 1) au))))
 (aQ (eV N5 (aA aP (bL "circles" (ao 0)) (aA kY (ao 1) (qC (.int 1)))))))
def kJ:=mQ 2 ou
def bD:List (Str×MV):=[("Grounds",.q 2 kJ)]
def oO:SF:=
 (aQ (aU bD (bL "grounds" (ao 0)) (ak (aq 1) au)))
def j8:=mQ 2 oO
def sY:List (Str×MV):=[("Rights",.q 1 pq)]
def uU:List (Str×MV):=[("Commons",.q 1 qT)]
def vL:List (Str×MV):=[("Beast",.q 1 xJ)]
def bR:List (Str×MV):=[("Commons",.q 2 j8)]
def dN:List (Str×MV):=[("Grounds",.q 2 jO)]
def yV:SF:=
 (aD (aZ (aF 1) (gOf (dY (Ck (qC (.int 1)) (aA fu (aU eU (bL "grounds" (ao 0)) au) (qC (.int 1)))) (aF 3) [3] gY (bB (ak (aU dN (bL "grounds" (ao 0)) (ak (aq 3) au)) (ak (eV m7 (aU bR (ao 0) (ak (aq 3) au))) au))))))
 (aD (aZ (aF 2) (gOf (dY (cR (bL "beasts" (bL "herd" (ao 0)))) (aF 4) [4] gY (aU vL (ao 4) au))))
 (aQ (bB (ak (aU uU (ao 0) au) (ak (aq 1) (ak (aU sY (bL "rights" (ao 0)) au) (ak (aq 2) au))))))))
def mJ:=mQ 5 yV
def Vv:SF:=
 (aD (aZ (aF 5) (gOf (aA kh (aA fu (aA fu (aA wZ (ao 5) (qC (.int 48271))) (aA wZ (qC (.int 9973)) (ao 4))) (qC (.int 11))) (qC (.int 2147483647)))))
 (Jz 3 (aA kh (aA Bc (ao 5) (qC (.int 1021))) (ao 2))))
def Vi:SF:=
 (aD (Jz 3 (aA kh (ao 0) (ao 2)))
 (aZ (aF 0) (gOf (aA Bc (ao 0) (ao 2)))))
def acR:SF:=
 (aD (Dt 3 (O2 au))
 (aD (aZ (aF 0) (gOf (eV T8 (ao 0))))
 (aD (bQ (bh (aA geD (ao 0) (aA O9 (qC (.int 10)) (qC (.int 18))))) (aD (qU (Cj (ao 1)) (aF 4) Vi)
 (aQ (aq 3))) aW)
 (aD (aZ (aF 5) (gOf (aA kh (aA wZ (aA fu (aA kh (ao 0) (qC (.int 1000003))) (qC (.int 17))) (qC (.int 69621))) (qC (.int 2147483647)))))
 (aD (qU (Cj (ao 1)) (aF 4) Vv)
 (aQ (aq 3)))))))
def vD:=mQ 6 acR
def Qg:SF:=
 (aD (bQ (bh (aA bW (aA kh (ao 1) (qC (.int 4))) (qC (.int 1)))) (aQ (eV m7 (dY (cR (ao 0)) (aF 2) [2] gY (aA qL (qC (.int 0)) (aA kY (ao 2) (qC (.int 7))))))) aW)
 (aD (bQ (bh (aA bW (aA kh (ao 1) (qC (.int 4))) (qC (.int 2)))) (aQ (eV m7 (dY (cR (ao 0)) (aF 2) [2] gY (aA kh (ao 2) (qC (.int 3)))))) aW)
 (aQ (eV m7 (ao 0)))))
def tM:=mQ 3 Qg
def ab3:SF:=
 (aD (aZ (aF 1) (gOf (aV vD (ak (aq 0) (ak (qC (.int 7)) (ak (qC (.int 10)) au))))))
 (aQ (aV tM (ak (OJ (ao 1) Ah (rC (qC (.int 6)))) (ak (aA aP (ao 1) (qC (.int 6))) au)))))
def JB:=mQ 2 ab3
def Fj:SF:=
 (aD (bQ (bh (aA bW (aA kh (ao 0) (qC (.int 8))) (qC (.int 7)))) (aQ (vP au)) aW)
 (aD (aZ (aF 1) (gOf (vP (ak (bB (ak (qC (.str "ground")) (ak (qC (.int 0)) (ak (qC (.int 0)) au)))) (ak (bB (ak (qC (.str "owner")) (ak (qC (.int 0)) (ak (qC (.int 0)) au)))) (ak (bB (ak (qC (.str "owner")) (ak (qC (.int 0)) (ak (qC (.int 0)) au)))) (ak (bB (ak (qC (.str "enrol")) (ak (qC (.int 0)) (ak (qC (.int 0)) au)))) (ak (bB (ak (qC (.str "enrol")) (ak (qC (.int 1)) (ak (qC (.int 0)) au)))) au))))))))
 (aD (aZ (aF 1) (gOf (aA fu (ao 1) (vP (ak (bB (ak (qC (.str "bring")) (ak (qC (.int 0)) (ak (qC (.int 0)) au)))) (ak (bB (ak (qC (.str "cut")) (ak (qC (.int 0)) (ak (qC (.int 0)) au)))) (ak (bB (ak (qC (.str "bring")) (ak (qC (.int 1)) (ak (qC (.int 0)) au)))) (ak (bB (ak (qC (.str "cut")) (ak (qC (.int 1)) (ak (qC (.int 0)) au)))) (ak (bB (ak (qC (.str "ground")) (ak (qC (.int 0)) (ak (qC (.int 0)) au)))) (ak (bB (ak (qC (.str "enrol")) (ak (qC (.int 0)) (ak (qC (.int 1)) au)))) au))))))))))
 (aQ (aq 1)))))
def vo:=mQ 2 Fj
def MK:SF:=
 (aD (aZ (aF 1) (gOf (vP (ak (qC (.str "tear")) (ak (qC (.str "cut")) (ak (qC (.str "bring")) (ak (qC (.str "sell")) (ak (qC (.str "move")) (ak (qC (.str "enrol")) (ak (qC (.str "bear")) (ak (qC (.str "tear")) (ak (qC (.str "cut")) (ak (qC (.str "sell")) (ak (qC (.str "move")) (ak (qC (.str "unite")) (ak (qC (.str "part")) au))))))))))))))))
 (aD (aZ (aF 1) (gOf (aA fu (ao 1) (vP (ak (qC (.str "heir")) (ak (qC (.str "pass")) (ak (qC (.str "die")) (ak (qC (.str "leave")) (ak (qC (.str "ground")) (ak (qC (.str "owner")) (ak (qC (.str "enrol")) (ak (qC (.str "tear")) (ak (qC (.str "sell")) (ak (qC (.str "bring")) (ak (qC (.str "bear")) (ak (qC (.str "cut")) au))))))))))))))))
 (aQ (aA aP (ao 1) (aA kh (ao 0) (qC (.int 25)))))))
def Aq:=mQ 2 MK
def lY:SF:=
 (bQ (bh (Qc true "holders" (aq 1) (ao 0))) (eG "NoOwner") aW)
def ju:=mQ 2 lY
def za:SF:=
 (aQ (dY (Dg "held" (ao 0)) (bH [3,4,5]) [3,4,5] (jK (bh (aA bW (ao 3) (ao 1))) (bh (aA bW (ao 4) (ao 2)))) (aq 5)))
def uz:=mQ 6 za
def cI:List (Str×MV):=[("Rights",.q 3 uz)]
def tZ:SF:=
 (aQ (aA Wv (eV oZ (aU cI (ao 0) (ak (aq 1) (ak (aq 2) au)))) (qC (.int 0))))
def oH:=mQ 3 tZ
def rP:List (Str×MV):=[("Rights",.q 3 oH)]
def qG:SF:=
 (bQ (jZ (jh (aU rP (bL "rights" (ao 0)) (ak (aq 1) (ak (aq 2) au))))) (eG "NoRight") aW)
def mj:=mQ 3 qG
def rO:SF:=
 (aD (SJ jY "owner_count" (ao 0) (qC (.int 1)))
 (aD (Nb "holders" (ao 0) (gQ "owner_count" (ao 0)) (qC (.bool true)))
 (aQ (gQ "owner_count" (ao 0)))))
def iD:=mG 1 rO
def oG:SF:=
 (aD (aZ (aF 4) (gOf (bB (ak (aq 1) (ak (aq 2) (ak (aq 3) au))))))
 (aD (bQ (bh (Qc false "held" (aq 4) (ao 0))) (eG "HasRight") aW)
 (Nb "held" (ao 0) (aq 4) (qC (.bool true)))))
def iZ:=mG 5 oG
def CJ:SF:=
 (aZ (aF 2) (gOf (Dy (cR (ao 2)) (bH [4,5]) [4,5,6] gY (Ck (ao 3) (aA fu (aA Il (aA fu (ao 3) (ao 5)) (qC cQ)) (qC (.int 1)))) (aF 6) [6] gY (bB (ak (aA fu (ao 4) (bB (ak (aq 6) au))) (ak (aA kY (ao 5) (aA kY (ao 6) (ao 3))) au))))))
def Y7:SF:=
 (aD (aZ (aF 2) (gOf (vP (ak (bB (ak (bB au) (ak (aq 1) au))) au))))
 (aD (qU (cR (aq 0)) (aF 3) CJ)
 (aQ (dY (cR (ao 2)) (bH [4,5]) [4,5] gY (aq 4)))))
def Ks:=mQ 7 Y7
def Vc:SF:=
 (aQ (eV Vd (dY (Jk (ao 0) (ao 1)) (bH [2,3]) [2,3] (bh (aA Wv (ao 3) (ao 2))) (aA kY (ao 3) (ao 2)))))
def ux:=mQ 4 Vc
def Fl:SF:=
 (aQ (dY (cR (aV Ks (ak (aq 0) (ak (aq 1) au)))) (aF 2) [2] (bh (aA bW (aV ux (ak (aq 0) (ak (aq 2) au))) (ao 1))) (aq 2)))
def oX:=mQ 3 Fl
def Vr:SF:=
 (aQ (aA qL (aV ux (ak (aq 0) (ak (aq 1) au))) (aV ux (ak (aq 1) (ak (aq 0) au)))))
def Hj:=mQ 2 Vr
def Zw:SF:=
 (aQ (aA sV (aV Hj (ak (aq 0) (ak (aq 1) au))) (ao 2)))
def rH:=mQ 3 Zw
def jX:SF:=
 (bQ (jZ (jh (eV Py (dY (cR (ao 2)) (bH [5,6]) [5,6] gY (aV rH (ak (aq 4) (ak (aq 6) (ak (aq 3) au)))))))) (aQ (aq 4)) aW)
def wY:SF:=
 (aD (qU (cR (aV oX (ak (aq 0) (ak (aq 1) au)))) (aF 4) jX)
 (eG "NoneFree"))
def pY:=mQ 7 wY
def qM:SF:=
 (aQ (aA aP (aU cI (bL "rights" (ao 0)) (ak (aq 1) (ak (aq 2) au))) (qC (.int 0))))
def lU:=mQ 3 qM
def Pg:SF:=
 (aQ (eV RB (ao 0)))
def qw:=mQ 1 Pg
def uV:SF:=
 (aQ (dY (wV 1 (bL "beasts" (ao 0))) (bH [1,2]) [1,2] (jh (bL "alive" (ao 2))) (bB (ak (aq 1) (ak (aq 2) au)))))
def pC:=mQ 3 uV
def dW:List (Str×MV):=[("Herd",.q 1 pC)]
def yM:SF:=
 (aQ (dY (cR (aU dW (ao 0) au)) (bH [2,3]) [2,3] (bh (aA (inD false) (bL "ground" (ao 3)) (ao 1))) (bB (ak (aq 2) (ak (aq 3) au)))))
def pG:=mQ 4 yM
def sE:SF:=
 (aQ (dY (Dg "held" (ao 0)) (bH [2,3,4]) [2,3,4] (bh (aA (inD false) (ao 3) (ao 1))) (bB (ak (aq 2) (ak (aq 4) au)))))
def nJ:=mQ 5 sE
def qQ:List (Str×MV):=[("Rights",.q 2 nJ)]
def jr:List (Str×MV):=[("Herd",.q 2 pG)]
def j5:SF:=
 (aD (aZ (aF 3) (gOf (aU bR (ao 0) (ak (aq 2) au))))
 (aD (aZ (aF 4) (gOf (dY (cR (aU jr (bL "herd" (ao 0)) (ak (aq 3) au))) (bH [5,6]) [5,6] (jK (bh (xK true .none (bL "due" (ao 6)))) (bh (aA uZ (ao 5) (ao 1)))) (bB (ak (gQ "owner" (ao 6)) (ak (gQ "due" (ao 6)) au))))))
 (aQ (aV qw (ak (aA fu (aU qQ (bL "rights" (ao 0)) (ak (aq 3) au)) (ao 4)) au)))))
def iJ:=mQ 7 j5
def cZ:List (Str×MV):=[("Commons",.q 3 iJ)]
def oR:SF:=
 (aQ (aU cZ (ao 0) (ak (qC (.int 0)) (ak (aq 1) au))))
def lg:=mQ 2 oR
def uM:SF:=
 (aQ (eV maxD (dY (cR (aU bD (ao 0) (ak (aq 1) au))) (aF 2) [2] gY (aU dN (ao 0) (ak (aq 2) au)))))
def pO:=mQ 3 uM
def sO:List (Str×MV):=[("Grounds",.q 2 pO)]
def uI:SF:=
 (aQ (aU sO (bL "grounds" (ao 0)) (ak (aq 1) au)))
def pQ:=mQ 2 uI
def iy:List (Str×MV):=[("Rights",.g 4 iZ)]
def gR:List (Str×MV):=[("Commons",.g 1 iD)]
def cA:List (Str×MV):=[("Commons",.q 2 pQ)]
def cD:List (Str×MV):=[("Commons",.q 2 lg)]
def bV:List (Str×MV):=[("Commons",.q 3 lU)]
def aN:List (Str×MV):=[("Commons",.q 3 mj)]
def aC:List (Str×MV):=[("Commons",.q 2 ju)]
def dO:SF:=
 (aD (cH (gOf (aU aC (ao 0) (ak (aq 1) au))))
 (aD (cH (gOf (aU aG (bL "grounds" (ao 0)) (ak (aq 2) au))))
 (aD (bQ (jZ (lN sV sV (qC jg) (ao 3) (qC lu))) (eG "BadExtra") aW)
 (aD (cH (gOf (aU aN (ao 0) (ak (aq 1) (ak (aq 2) au)))))
 (aD (aZ (aF 4) (gOf (aV pY (ak (aU bV (ao 0) (ak (aq 1) (ak (aq 2) au))) (ak (aq 3) (ak (aU cD (ao 0) (ak (aq 2) au)) (ak (aU cA (ao 0) (ak (aq 2) au)) au)))))))
 (aD (aZ (aF 5) (cO gR (ao 0) au))
 (aD (cH (cO iy (bL "rights" (ao 0)) (ak (aq 5) (ak (aq 2) (ak (aq 4) au)))))
 (aQ (bB (ak (aq 5) (ak (aq 4) au)))))))))))
def cV:=mG 6 dO
def ji:SF:=
 (aD (bQ (jZ (lN sV sV (qC (.int 0)) (ao 1) (qC gK))) (eG "BadAllowance") aW)
 (aD (DR "allowances" (ao 0) (gOf (aq 1)))
 (aD (DR "circles" (ao 0) (gOf (bB (ak (aU eU (ao 0) au) au))))
 (aQ (aU eU (ao 0) au)))))
def fj:=mG 2 ji
def lC:List (Str×MV):=[("Grounds",.g 2 fj)]
def lX:SF:=
 (iw (cO lC (bL "grounds" (ao 0)) (ak (aq 1) au)))
def gM:=mG 2 lX
def Le:SF:=
 (aQ (dY (cR (aV qw (ak (aq 2) au))) (bH [4,5]) [4,5] (jK (bh (aA uZ (ao 4) (ao 0))) (jh (aV rH (ak (aq 1) (ak (aq 5) (ak (aq 3) au)))))) (bB (ak (aq 4) (ak (aq 5) au)))))
def Am:=mQ 6 Le
def Vh:SF:=
 (aQ (eV m7 (dY (Jk (ao 0) (ao 1)) (bH [2,3]) [2,3] gY (aA qL (ao 2) (ao 3)))))
def qj:=mQ 4 Vh
def BW:SF:=
 (aD (aZ (aF 4) (gOf (aV Am (ak (aq 0) (ak (aq 1) (ak (aq 2) (ak (aq 3) au)))))))
 (bQ (jh (ao 4)) (aD (aZ (bH [5,6]) (gOf (aA aP (ao 4) (qC (.int 0)))))
 (BZ "Clash" ["ones","others","ear"] (ak (bB (ak (aq 0) (ak (aq 1) au))) (ak (bB (ak (aq 5) (ak (aq 6) au))) (ak (aV qj (ak (aq 1) (ak (aq 6) au))) au))))) aW))
def oU:=mQ 7 BW
def lV:SF:=
 (cH (gOf (aV oU (ak (aq 1) (ak (aq 2) (ak (aU cD (ao 0) (ak (aq 3) au)) (ak (aU cA (ao 0) (ak (aq 3) au)) au)))))))
def gJ:=mQ 4 lV
def Jf:SF:=
 (aQ (yc (aA bW (eV oZ (ao 0)) (eV oZ (qC iU))) (eV Qn (dY (cR (ao 0)) (aF 1) [1] gY (Tn (lN sV sV (qC (.int 0)) (ao 1) (qC cQ)))))))
def ug:=mQ 2 Jf
def JG:SF:=
 (bQ (jZ (jh (aV ug (ak (aq 0) au)))) (eG "BadEar") aW)
def qJ:=mQ 1 JG
def bU:List (Str×MV):=[("Commons",.q 4 gJ)]
def fW:SF:=
 (aD (cH (gOf (aU aC (ao 0) (ak (aq 1) au))))
 (aD (cH (gOf (aU aG (bL "grounds" (ao 0)) (ak (aq 2) au))))
 (aD (cH (gOf (aV qJ (ak (aq 3) au))))
 (aD (bQ (bh (aA bW (ao 3) (qC jk))) (eG "Bare") aW)
 (aD (bQ (bh (aA (inD false) (ao 3) (aU cI (bL "rights" (ao 0)) (ak (aq 1) (ak (aq 2) au))))) (eG "HasRight") aW)
 (aD (cH (gOf (aU bU (ao 0) (ak (aq 1) (ak (aq 3) (ak (aq 2) au))))))
 (cH (cO iy (bL "rights" (ao 0)) (ak (aq 1) (ak (aq 2) (ak (aq 3) au)))))))))))
def dR:=mG 4 fW
def wU:SF:=
 (Nu "held" (ao 0) (bB (ak (aq 1) (ak (aq 2) (ak (aq 4) au)))))
def vJ:SF:=
 (aD (aZ (aF 3) (gOf (aU cI (ao 0) (ak (aq 1) (ak (aq 2) au)))))
 (aD (bQ (jZ (jh (ao 3))) (eG "NoRight") aW)
 (aD (qU (cR (aq 3)) (aF 4) wU)
 (aQ (aq 3)))))
def nR:=mG 5 vJ
def yP:List (Str×MV):=[("Rights",.g 3 nR)]
def jA:SF:=
 (aD (cH (gOf (aU aC (ao 0) (ak (aq 1) au))))
 (aD (cH (gOf (aU aG (bL "grounds" (ao 0)) (ak (aq 2) au))))
 (aD (cH (gOf (aU aN (ao 0) (ak (aq 1) (ak (aq 2) au)))))
 (aD (bQ (jh (eV Py (dY (cR (aU jr (bL "herd" (ao 0)) (ak (vP (ak (aq 2) au)) au))) (bH [3,4]) [3,4] gY (aA bW (bL "owner" (ao 4)) (ao 1))))) (eG "StillThere") aW)
 (iw (cO yP (bL "rights" (ao 0)) (ak (aq 1) (ak (aq 2) au))))))))
def fX:=mG 5 jA
def qR:SF:=
 (aD (aZ (bH [2,3,4,5,6]) (gOf (aq 1)))
 (aD (uQ jY (ao 0) "owner" (gOf (aq 2)))
 (aD (uQ jY (ao 0) "ground" (gOf (aq 3)))
 (aD (uQ jY (ao 0) "due" (gOf (aq 4)))
 (aD (uQ jY (ao 0) "ear" (gOf (aq 5)))
 (uQ jY (ao 0) "alive" (gOf (aq 6))))))))
def mX:=mG 7 qR
def M8:SF:=
 (aD (bQ (bh (aA bW (aA aP (ao 0) (qC (.int 0))) (qC (.str "born")))) (aD (aZ (bH [1,2,3,4]) (gOf (aq 0)))
 (aQ (bB (ak (aq 3) (ak (aq 4) (ak (qC .none) (ak (qC jk) (ak (qC (.bool true)) au)))))))) aW)
 (aD (aZ (bH [1,3,4,5]) (gOf (aq 0)))
 (aQ (bB (ak (aq 3) (ak (aq 4) (ak (qC .none) (ak (aq 5) (ak (qC (.bool true)) au)))))))))
def Cd:=mQ 6 M8
def jF:List (Str×MV):=[("Beast",.g 2 mX)]
def CQ:SF:=
 (aD (DG jY (ao 0) "story" (O2 (ak (aq 1) au)))
 (aD (uQ jY (ao 0) "mother" (gOf (S7 (bh (aA bW (aA aP (ao 1) (qC (.int 0))) (qC (.str "born")))) (aA aP (ao 1) (qC (.int 1))) (qC (.int 0)))))
 (cH (cO jF (ao 0) (ak (aV Cd (ak (aq 1) au)) au)))))
def tO:=mG 2 CQ
def wj:SF:=
 (aD (DR "beasts" (ao 0) (Bh "Beast" tO (ak (aq 1) au)))
 (aQ (eV oZ (bL "beasts" (ao 0)))))
def qI:=mG 2 wj
def jE:List (Str×MV):=[("Herd",.g 2 qI)]
def jw:SF:=
 (aD (cH (gOf (aU aC (ao 0) (ak (aq 1) au))))
 (aD (cH (gOf (aU aG (bL "grounds" (ao 0)) (ak (aq 2) au))))
 (aD (cH (gOf (aV qJ (ak (aq 3) au))))
 (aD (cH (gOf (aU aN (ao 0) (ak (aq 1) (ak (aq 2) au)))))
 (iw (cO jE (bL "herd" (ao 0)) (ak (bB (ak (qC (.str "brought")) (ak (aq 1) (ak (aq 2) (ak (aq 3) au))))) au)))))))
def fY:=mG 4 jw
def tD:SF:=
 (aD (bQ (jZ (lN sV sV (qC (.int 1)) (ao 1) (eV oZ (bL "beasts" (ao 0))))) (eG "NoBeast") aW)
 (aQ (aA aP (bL "beasts" (ao 0)) (aA kY (ao 1) (qC (.int 1))))))
def kW:=mQ 2 tD
def fJ:List (Str×MV):=[("Herd",.q 2 kW)]
def vH:SF:=
 (aD (aZ (aF 2) (gOf (aU fJ (ao 0) (ak (aq 1) au))))
 (aD (bQ (jZ (jh (bL "alive" (ao 2)))) (eG "Dead") aW)
 (aQ (aq 2))))
def rE:=mQ 3 vH
def bJ:List (Str×MV):=[("Herd",.q 2 rE)]
def qX:SF:=
 (aD (aZ (aF 2) (gOf (aU bJ (ao 0) (ak (aq 1) au))))
 (aD (bQ (bh (xK false .none (bL "due" (ao 2)))) (eG "Unmarked") aW)
 (aQ (aq 2))))
def nQ:=mQ 3 qX
def bA:List (Str×MV):=[("Herd",.q 2 nQ)]
def mK:SF:=
 (aD (aZ (aF 2) (gOf (aU bA (bL "herd" (ao 0)) (ak (aq 1) au))))
 (iw (cO jE (bL "herd" (ao 0)) (ak (bB (ak (qC (.str "born")) (ak (aq 1) (ak (gQ "owner" (ao 2)) (ak (gQ "ground" (ao 2)) au))))) au))))
def iY:=mG 3 mK
def JL:SF:=
 (aQ (eV m7 (dY (wV 0 (ao 0)) (bH [2,3]) [2,3] gY (S7 (bh (aA bW (ao 2) (ao 1))) (aA fu (ao 3) (qC (.int 1))) (aq 3)))))
def yq:=mQ 4 JL
def KR:SF:=
 (aD (aZ (bH [2,3,4,5,6]) (gOf (aq 0)))
 (aD (aZ (aF 7) (gOf (aA aP (ao 1) (qC (.int 0)))))
 (aD (bQ (bh (aA bW (ao 7) (qC (.str "cut")))) (Q9 4 5 (gOf (aA aP (ao 1) (qC (.int 1))))) (bQ (bh (aA bW (ao 7) (qC (.str "torn")))) (aZ (aF 5) (gOf (aV yq (ak (aq 5) (ak (aA aP (ao 1) (qC (.int 1))) au))))) (bQ (bh (aA bW (ao 7) (qC (.str "sold")))) (aD (aZ (aF 2) (gOf (aA aP (ao 1) (qC (.int 1)))))
 (Q9 4 5 (gOf (aA aP (ao 1) (qC (.int 2)))))) (bQ (bh (aA bW (ao 7) (qC (.str "moved")))) (aZ (aF 3) (gOf (aA aP (ao 1) (qC (.int 1))))) (bQ (bh (aA bW (ao 7) (qC (.str "followed")))) (aD (aZ (aF 2) (gOf (aA aP (ao 1) (qC (.int 1)))))
 (aZ (aF 3) (gOf (aA aP (ao 1) (qC (.int 2)))))) (bQ (bh (aA bW (ao 7) (qC (.str "passed")))) (aZ (aF 2) (gOf (aA aP (ao 1) (qC (.int 1))))) (bQ (bh (aA bW (ao 7) (qC (.str "died")))) (aZ (aF 6) (gOf (qC (.bool false)))) aW)))))))
 (aQ (bB (ak (aq 2) (ak (aq 3) (ak (aq 4) (ak (aq 5) (ak (aq 6) au))))))))))
def Ae:=mQ 8 KR
def yL:SF:=
 (aD (DR "story" (ao 0) (gOf (aq 1)))
 (cH (cO jF (ao 0) (ak (aV Ae (ak (aU mU (ao 0) au) (ak (aq 1) au))) au))))
def mH:=mG 2 yL
def bO:List (Str×MV):=[("Beast",.g 2 mH)]
def nY:SF:=
 (aD (aZ (aF 2) (gOf (aU bJ (bL "herd" (ao 0)) (ak (aq 1) au))))
 (aD (aZ (aF 3) (gOf (aV qj (ak (gQ "ear" (ao 2)) (ak (aU bV (ao 0) (ak (gQ "owner" (ao 2)) (ak (gQ "ground" (ao 2)) au))) au)))))
 (aD (cH (gOf (aU bU (ao 0) (ak (gQ "owner" (ao 2)) (ak (aq 3) (ak (gQ "ground" (ao 2)) au))))))
 (aD (cH (cO bO (ao 2) (ak (bB (ak (qC (.str "cut")) (ak (aq 3) au))) au)))
 (aQ (aq 3))))))
def jH:=mG 4 nY
def jf:SF:=
 (aD (aZ (aF 3) (gOf (aU bJ (bL "herd" (ao 0)) (ak (aq 1) au))))
 (aD (bQ (jZ (lN sV Ox (qC (.int 0)) (ao 2) (eV oZ (qC iU)))) (eG "NoPlace") aW)
 (aD (bQ (bh (aA geD (aA aP (bL "ear" (ao 3)) (ao 2)) (qC cQ))) (eG "Deepest") aW)
 (aD (cH (cO bO (ao 3) (ak (bB (ak (qC (.str "torn")) (ak (aq 2) au))) au)))
 (aQ (gQ "ear" (ao 3)))))))
def fL:=mG 4 jf
def vK:SF:=
 (aD (cH (gOf (aU fJ (ao 0) (ak (aq 1) au))))
 (aQ (dY (cR (aU dW (ao 0) au)) (bH [2,3]) [2,3] (jK (bh (aA bW (bL "mother" (ao 3)) (ao 1))) (bh (xK false .none (bL "due" (ao 3))))) (bB (ak (aq 2) (ak (aq 3) au))))))
def rB:=mQ 4 vK
def zB:List (Str×MV):=[("Herd",.q 2 rB)]
def qN:SF:=
 (cH (cO bO (ao 4) (ak (bB (ak (qC (.str "followed")) (ak (gQ "owner" (ao 2)) (ak (gQ "ground" (ao 2)) au)))) au)))
def tV:SF:=
 (aD (aZ (aF 2) (gOf (aU fJ (ao 0) (ak (aq 1) au))))
 (qU (cR (aU zB (ao 0) (ak (aq 1) au))) (bH [3,4]) qN))
def oA:=mG 5 tV
def iz:List (Str×MV):=[("Herd",.g 2 oA)]
def fM:SF:=
 (aD (aZ (aF 3) (gOf (aU bA (bL "herd" (ao 0)) (ak (aq 1) au))))
 (aD (cH (gOf (aU aC (ao 0) (ak (aq 2) au))))
 (aD (bQ (bh (aA bW (bL "owner" (ao 3)) (ao 2))) (eG "SameOwner") aW)
 (aD (cH (gOf (aU aN (ao 0) (ak (aq 2) (ak (gQ "ground" (ao 3)) au)))))
 (aD (aZ (aF 4) (gOf (aV qj (ak (gQ "ear" (ao 3)) (ak (aU bV (ao 0) (ak (aq 2) (ak (gQ "ground" (ao 3)) au))) au)))))
 (aD (cH (gOf (aV oU (ak (aq 2) (ak (aq 4) (ak (aU cZ (ao 0) (ak (aq 1) (ak (gQ "ground" (ao 3)) au))) (ak (aU cA (ao 0) (ak (gQ "ground" (ao 3)) au)) au)))))))
 (aD (cH (cO bO (ao 3) (ak (bB (ak (qC (.str "sold")) (ak (aq 2) (ak (aq 4) au)))) au)))
 (aD (cH (cO iz (bL "herd" (ao 0)) (ak (aq 1) au)))
 (aQ (aq 4))))))))))
def dJ:=mG 5 fM
def fK:SF:=
 (aD (aZ (aF 3) (gOf (aU bA (bL "herd" (ao 0)) (ak (aq 1) au))))
 (aD (cH (gOf (aU aG (bL "grounds" (ao 0)) (ak (aq 2) au))))
 (aD (aZ (aF 4) (gOf (gQ "ground" (ao 3))))
 (aD (bQ (bh (aA bW (ao 4) (ao 2))) (eG "SameGround") aW)
 (aD (cH (gOf (aU aN (ao 0) (ak (gQ "owner" (ao 3)) (ak (aq 2) au)))))
 (aD (cH (gOf (aU bU (ao 0) (ak (gQ "owner" (ao 3)) (ak (gQ "due" (ao 3)) (ak (aq 2) au))))))
 (aD (cH (cO bO (ao 3) (ak (bB (ak (qC (.str "moved")) (ak (aq 2) au))) au)))
 (aD (cH (cO iz (bL "herd" (ao 0)) (ak (aq 1) au)))
 (aQ (aq 4))))))))))
def dI:=mG 5 fK
def rF:SF:=
 (cH (cO bO (aU bJ (bL "herd" (ao 0)) (ak (aq 1) au)) (ak (bB (ak (qC (.str "died")) au)) au)))
def lG:=mG 2 rF
def Jd:SF:=
 (aD (aZ (aF 2) (gOf (aV qw (ak (aq 0) au))))
 (aQ (Dy (wV 0 (ao 2)) (bH [3,4]) [3,4,5] gY (cR (OJ (ao 2) (rC (aA fu (ao 3) (qC (.int 1)))) Ah)) (aF 5) [5] (jK (bh (aA uZ (aA aP (ao 4) (qC (.int 0))) (aA aP (ao 5) (qC (.int 0))))) (jh (aV rH (ak (aA aP (ao 4) (qC (.int 1))) (ak (aA aP (ao 5) (qC (.int 1))) (ak (aq 1) au)))))) (bB (ak (aq 4) (ak (aq 5) au))))))
def uD:=mQ 6 Jd
def uw:SF:=
 (aD (aZ (aF 3) (gOf (aA qL (aU cA (ao 0) (ak (aq 1) au)) (aU cA (ao 0) (ak (aq 2) au)))))
 (aQ (aV uD (ak (aA fu (aU cD (ao 0) (ak (aq 1) au)) (aU cD (ao 0) (ak (aq 2) au))) (ak (aq 3) au)))))
def kE:=mQ 4 uw
def rR:SF:=
 (Tf "circles" (ao 0) (aA kY (ao 3) (qC (.int 1))) (aq 2))
def uW:SF:=
 (aD (aZ (aF 2) (gOf (eV m7 (ao 1))))
 (aD (qU (cR (aq 1)) (aF 3) rR)
 (aQ (aq 1))))
def lQ:=mG 4 uW
def gG:List (Str×MV):=[("Grounds",.g 2 lQ)]
def sS:SF:=
 (aD (aZ (aF 3) (gOf (aU bD (ao 0) (ak (aq 1) au))))
 (aD (aZ (aF 4) (gOf (aU bD (ao 0) (ak (aq 2) au))))
 (aD (bQ (bh (aA (inD false) (ao 2) (ao 3))) (eG "Together") aW)
 (iw (cO gG (ao 0) (ak (eV zQ (aA fu (ao 3) (ao 4))) au))))))
def lB:=mG 5 sS
def vR:List (Str×MV):=[("Grounds",.g 3 lB)]
def ni:List (Str×MV):=[("Commons",.q 3 kE)]
def jo:SF:=
 (aD (cH (gOf (aU aG (bL "grounds" (ao 0)) (ak (aq 2) au))))
 (aD (bQ (bh (aA (inD false) (ao 2) (aU bR (ao 0) (ak (aq 1) au)))) (eG "Together") aW)
 (aD (aZ (aF 3) (gOf (aU ni (ao 0) (ak (aq 1) (ak (aq 2) au)))))
 (aD (bQ (jh (ao 3)) (aD (aZ (bH [4,5]) (gOf (aA aP (ao 3) (qC (.int 0)))))
 (BZ "Clash" ["ones","others","ear"] (ak (aq 4) (ak (aq 5) (ak (aV qj (ak (aA aP (ao 4) (qC (.int 1))) (ak (aA aP (ao 5) (qC (.int 1))) au))) au))))) aW)
 (iw (cO vR (bL "grounds" (ao 0)) (ak (aq 1) (ak (aq 2) au))))))))
def gj:=mG 6 jo
def qd:SF:=
 (aD (aZ (aF 2) (gOf (dY (cR (aU bD (ao 0) (ak (aq 1) au))) (aF 3) [3] (bh (aA uZ (ao 3) (ao 1))) (aq 3))))
 (aD (bQ (jZ (jh (ao 2))) (eG "Alone") aW)
 (aD (cH (cO gG (ao 0) (ak (vP (ak (aq 1) au)) au)))
 (iw (cO gG (ao 0) (ak (aq 2) au))))))
def jd:=mG 4 qd
def oV:List (Str×MV):=[("Grounds",.g 2 jd)]
def pN:SF:=
 (iw (cO oV (bL "grounds" (ao 0)) (ak (aq 1) au)))
def jU:=mG 2 pN
def tL:SF:=
 (SM jY (ao 0) "held" (qDc (Dg "held" (ao 0)) (bH [3,4,5]) [3,4,5] (bB (ak (S7 (bh (aA bW (ao 3) (ao 1))) (aq 2) (aq 3)) (ak (aq 4) (ak (aq 5) au))))))
def oK:=mG 6 tL
def CP:SF:=
 (aQ (dY (cR (aU dW (ao 0) au)) (bH [2,3]) [2,3] (bh (aA bW (bL "owner" (ao 3)) (ao 1))) (bB (ak (aq 2) (ak (aq 3) au)))))
def wM:=mQ 4 CP
def Ay:List (Str×MV):=[("Herd",.q 2 wM)]
def rW:List (Str×MV):=[("Rights",.g 3 oK)]
def sG:SF:=
 (cH (cO bO (ao 5) (ak (bB (ak (qC (.str "passed")) (ak (aq 2) au))) au)))
def jD:SF:=
 (aD (cH (gOf (aU aC (ao 0) (ak (aq 1) au))))
 (aD (cH (gOf (aU aC (ao 0) (ak (aq 2) au))))
 (aD (bQ (bh (aA bW (ao 1) (ao 2))) (eG "SameOwner") aW)
 (aD (cH (cO rW (bL "rights" (ao 0)) (ak (aq 1) (ak (aq 2) au))))
 (aD (aZ (aF 3) (gOf (aU Ay (bL "herd" (ao 0)) (ak (aq 1) au))))
 (aD (qU (cR (aq 3)) (bH [4,5]) sG)
 (aD (Nu "holders" (ao 0) (aq 1))
 (aQ (dY (cR (ao 3)) (bH [4,5]) [4,5] gY (aq 4))))))))))
def fQ:=mG 6 jD
def vq:SF:=
 (aD (bQ (bh (aA bW (ao 0) (qC (.str "ear")))) (aQ (yc (yg .tuple (ao 1)) (aV ug (ak (aq 1) au)))) aW)
 (aD (aZ (aF 2) (gOf (S7 (bh (aA bW (ao 0) (qC (.str "place")))) (aA kY (eV oZ (qC iU)) (qC (.int 1))) (qC oF))))
 (aQ (yc (yg .int (ao 1)) (Tn (lN sV sV (qC (.int 0)) (ao 1) (ao 2)))))))
def iI:=mQ 3 vq
def Zd:SF:=
 (aD (bQ (JF (bh (aA bW (eV oZ (ao 0)) (qC (.int 0)))) (bh (Ud true (zK yI) (aA aP (ao 0) (qC (.int 0)))))) (aQ (qC (.bool false))) aW)
 (aD (aZ (aF 1) (gOf (acB (zK yI) (aA aP (ao 0) (qC (.int 0))))))
 (aD (aZ (aF 2) (gOf (OJ (ao 0) (rC (qC (.int 1))) Ah)))
 (aQ (yc (aA bW (eV oZ (ao 2)) (eV oZ (ao 1))) (eV Qn (dY (Jk (ao 1) (ao 2)) (bH [3,4]) [3,4] gY (aV iI (ak (aq 3) (ak (aq 4) au))))))))))
def Hh:=mQ 5 Zd
def fU:List (Str×MV):=[("Commons",.g 4 cV)]
def tH:List (Str×MV):=[("Commons",.g 3 fQ)]
def xY:List (Str×MV):=[("Commons",.g 2 jU)]
def v8:List (Str×MV):=[("Commons",.g 3 gj)]
def yQ:List (Str×MV):=[("Commons",.g 2 lG)]
def yu:List (Str×MV):=[("Commons",.g 3 dI)]
def yt:List (Str×MV):=[("Commons",.g 3 dJ)]
def xQ:List (Str×MV):=[("Commons",.g 3 fL)]
def yZ:List (Str×MV):=[("Commons",.g 2 jH)]
def xR:List (Str×MV):=[("Commons",.g 2 iY)]
def v7:List (Str×MV):=[("Commons",.g 4 fY)]
def vW:List (Str×MV):=[("Commons",.g 3 fX)]
def vX:List (Str×MV):=[("Commons",.g 4 dR)]
def pK:List (Str×MV):=[("Commons",.g 2 gM)]
def cU:SF:=
 (aD (bQ (jZ (jh (aV Hh (ak (aq 1) au)))) (eG "BadDeed") aW)
 (aD (X6 2 3 (gOf (aq 1)))
 (aD (bQ (bh (aA bW (ao 2) (qC (.str "owner")))) (iw (cO gR (ao 0) au)) aW)
 (aD (bQ (bh (aA bW (ao 2) (qC (.str "ground")))) (iw (cO pK (ao 0) (ak (aA aP (ao 3) (qC (.int 0))) au))) aW)
 (aD (bQ (bh (aA bW (ao 2) (qC (.str "enrol")))) (iw (cO vX (ao 0) (ak (aA aP (ao 3) (qC (.int 0))) (ak (aA aP (ao 3) (qC (.int 1))) (ak (aA aP (ao 3) (qC (.int 2))) au))))) aW)
 (aD (bQ (bh (aA bW (ao 2) (qC (.str "leave")))) (iw (cO vW (ao 0) (ak (aA aP (ao 3) (qC (.int 0))) (ak (aA aP (ao 3) (qC (.int 1))) au)))) aW)
 (aD (bQ (bh (aA bW (ao 2) (qC (.str "bring")))) (iw (cO v7 (ao 0) (ak (aA aP (ao 3) (qC (.int 0))) (ak (aA aP (ao 3) (qC (.int 1))) (ak (aA aP (ao 3) (qC (.int 2))) au))))) aW)
 (aD (bQ (bh (aA bW (ao 2) (qC (.str "bear")))) (iw (cO xR (ao 0) (ak (aA aP (ao 3) (qC (.int 0))) au))) aW)
 (aD (bQ (bh (aA bW (ao 2) (qC (.str "cut")))) (iw (cO yZ (ao 0) (ak (aA aP (ao 3) (qC (.int 0))) au))) aW)
 (aD (bQ (bh (aA bW (ao 2) (qC (.str "tear")))) (iw (cO xQ (ao 0) (ak (aA aP (ao 3) (qC (.int 0))) (ak (aA aP (ao 3) (qC (.int 1))) au)))) aW)
 (aD (bQ (bh (aA bW (ao 2) (qC (.str "sell")))) (iw (cO yt (ao 0) (ak (aA aP (ao 3) (qC (.int 0))) (ak (aA aP (ao 3) (qC (.int 1))) au)))) aW)
 (aD (bQ (bh (aA bW (ao 2) (qC (.str "move")))) (iw (cO yu (ao 0) (ak (aA aP (ao 3) (qC (.int 0))) (ak (aA aP (ao 3) (qC (.int 1))) au)))) aW)
 (aD (bQ (bh (aA bW (ao 2) (qC (.str "die")))) (iw (cO yQ (ao 0) (ak (aA aP (ao 3) (qC (.int 0))) au))) aW)
 (aD (bQ (bh (aA bW (ao 2) (qC (.str "unite")))) (iw (cO v8 (ao 0) (ak (aA aP (ao 3) (qC (.int 0))) (ak (aA aP (ao 3) (qC (.int 1))) au)))) aW)
 (aD (bQ (bh (aA bW (ao 2) (qC (.str "part")))) (iw (cO xY (ao 0) (ak (aA aP (ao 3) (qC (.int 0))) au))) aW)
 (aD (bQ (bh (aA bW (ao 2) (qC (.str "pass")))) (iw (cO tH (ao 0) (ak (aA aP (ao 3) (qC (.int 0))) (ak (aA aP (ao 3) (qC (.int 1))) au)))) aW)
 (iw (cO fU (ao 0) (ak (aA aP (ao 3) (qC (.int 0))) (ak (aA aP (ao 3) (qC (.int 1))) (ak (aA aP (ao 3) (qC (.int 2))) au)))))))))))))))))))))
def cP:=mG 4 cU
def qZ:List (Str×MV):=[("Commons",.g 2 cP)]
def Lj:SF:=
 (aD (aZ (aF 3) (gOf (qC .none)))
 (aD (U4 (aZ (aF 3) (cO qZ (ao 0) (ak (aq 1) au))) [⟨"CommonError",λx=>uF.lookup x,none,[(3,(.con .none))]⟩])
 (aD (bQ (bh (xK false .none (ao 3))) (aQ (aq 2)) aW)
 (aD (aZ (bH [4,5,6]) (gOf (aq 2)))
 (aD (bQ (JF (bh (aA bW (aA aP (ao 1) (qC (.int 0))) (qC (.str "owner")))) (bh (aA bW (aA aP (ao 1) (qC (.int 0))) (qC (.str "heir"))))) (O5 4 (qC (.int 1))) aW)
 (aD (bQ (bh (aA bW (aA aP (ao 1) (qC (.int 0))) (qC (.str "ground")))) (O5 5 (qC (.int 1))) aW)
 (aD (bQ (JF (bh (aA bW (aA aP (ao 1) (qC (.int 0))) (qC (.str "bring")))) (bh (aA bW (aA aP (ao 1) (qC (.int 0))) (qC (.str "bear"))))) (O5 6 (qC (.int 1))) aW)
 (aQ (bB (ak (aq 4) (ak (aq 5) (ak (aq 6) au))))))))))))
def qW:=mG 7 Lj
def O7:SF:=
 (aD (aZ (aF 5) (gOf (aA aP (bB (ak (qC (.int 0)) (ak (qC (.int 0)) (ak (qC (.int 0)) (ak (qC (.int 0)) (ak (qC (.int 0)) (ak (qC (.int 1)) (ak (qC (.int 1)) (ak (qC (.int 2)) (ak (qC (.int 3)) (ak (eV Qx (qC (.int 1))) au))))))))))) (ao 4))))
 (Jz 2 (aA qL (qC (.int 0)) (aA Il (qC (.int 9)) (aA fu (ao 3) (ao 5))))))
def aad:SF:=
 (aD (Dt 2 (O2 au))
 (aD (qU (Jk (aq 0) (aq 1)) (bH [3,4]) O7)
 (aQ (eV m7 (ao 2)))))
def MJ:=mQ 6 aad
def LC:SF:=
 (aD (bQ (bh (aA Ox (ao 1) (qC (.int 4)))) (aQ (aV MJ (ak (aq 2) (ak (aq 0) au)))) aW)
 (aQ (aV tM (ak (aq 0) (ak (aq 1) au)))))
def wA:=mQ 3 LC
def XM:SF:=
 (aD (bQ (jh (ao 2)) (aQ (aA fu (qC (.int 1)) (aA kh (ao 0) (aA qL (qC (.int 1)) (ao 1))))) aW)
 (aQ (aA kh (ao 0) (aA fu (ao 1) (qC (.int 2))))))
def jJ:=mQ 3 XM
def jN:SF:=
 (aD (aZ (aF 6) (gOf (aA uZ (aA aP (ao 3) (qC (.int 6))) (qC (.int 9)))))
 (aD (aZ (aF 7) (gOf (aV wA (ak (OJ (ao 3) (rC (qC (.int 8))) (rC (qC (.int 14)))) (ak (aA aP (ao 3) (qC (.int 7))) (ak (aq 5) au))))))
 (aD (bQ (bh (aA bW (ao 0) (qC (.str "owner")))) (aQ (bB (ak (qC (.str "owner")) au))) aW)
 (aD (bQ (bh (aA bW (ao 0) (qC (.str "ground")))) (aQ (bB (ak (qC (.str "ground")) (ak (aA fu (aA aP (bB (ak (qC (.int 0)) (ak (qC (.int 1)) (ak (qC (.int 2)) (ak (qC (.int 3)) (ak (qC (.int 0)) (ak (qC (.int 1)) (ak (qC (.int 5)) (ak (qC (.int 6)) (ak (qC (.int 7)) (ak (qC (.int 8)) au))))))))))) (aA aP (ao 3) (qC (.int 7)))) (aA wZ (qC (.int 4)) (eV intD (Sh (ao 6))))) au)))) aW)
 (aD (bQ (jK (bh (aA bW (ao 0) (qC (.str "bring")))) (bh (aA Ox (aA aP (ao 3) (qC (.int 7))) (qC (.int 6))))) (aZ (aF 7) (gOf (bB (ak (qC (.int 0)) (ak (qC (.int 0)) (ak (qC (.int 0)) (ak (qC (.int 0)) (ak (qC (.int 0)) (ak (qC (.int 0)) au))))))))) aW)
 (aD (bQ (JF (bh (aA bW (ao 0) (qC (.str "enrol")))) (bh (aA bW (ao 0) (qC (.str "bring"))))) (aQ (bB (ak (aq 0) (ak (aV jJ (ak (aq 1) (ak (aA aP (ao 4) (qC (.int 0))) (ak (aq 6) au)))) (ak (aV jJ (ak (aq 2) (ak (aA aP (ao 4) (qC (.int 1))) (ak (aq 6) au)))) (ak (aq 7) au)))))) aW)
 (aD (bQ (bh (aA bW (ao 0) (qC (.str "leave")))) (aQ (bB (ak (aq 0) (ak (aV jJ (ak (aq 1) (ak (aA aP (ao 4) (qC (.int 0))) (ak (aq 6) au)))) (ak (aV jJ (ak (aq 2) (ak (aA aP (ao 4) (qC (.int 1))) (ak (aq 6) au)))) au))))) aW)
 (aD (bQ (bh (aA bW (ao 0) (qC (.str "heir")))) (aQ (bB (ak (aq 0) (ak (aV jJ (ak (aq 1) (ak (aA aP (ao 4) (qC (.int 0))) (ak (aq 6) au)))) (ak (aV jJ (ak (aq 2) (ak (aA aP (ao 4) (qC (.int 1))) (ak (aq 6) au)))) (ak (aA kh (aA aP (ao 3) (qC (.int 7))) (qC (.int 4))) au)))))) aW)
 (aD (bQ (bh (aA bW (ao 0) (qC (.str "pass")))) (aQ (bB (ak (aq 0) (ak (aV jJ (ak (aq 1) (ak (aA aP (ao 4) (qC (.int 0))) (ak (aq 6) au)))) (ak (aV jJ (ak (aq 2) (ak (aA aP (ao 4) (qC (.int 0))) (ak (aq 6) au)))) au))))) aW)
 (aD (bQ (bh (aA bW (ao 0) (qC (.str "unite")))) (aQ (bB (ak (aq 0) (ak (aV jJ (ak (aq 1) (ak (aA aP (ao 4) (qC (.int 1))) (ak (aq 6) au)))) (ak (aV jJ (ak (aq 2) (ak (aA aP (ao 4) (qC (.int 1))) (ak (aq 6) au)))) au))))) aW)
 (aD (bQ (bh (aA bW (ao 0) (qC (.str "part")))) (aQ (bB (ak (aq 0) (ak (aV jJ (ak (aq 1) (ak (aA aP (ao 4) (qC (.int 1))) (ak (aq 6) au)))) au)))) aW)
 (aD (bQ (bh (aA bW (ao 0) (qC (.str "tear")))) (aQ (bB (ak (aq 0) (ak (aV jJ (ak (aq 1) (ak (aA aP (ao 4) (qC (.int 2))) (ak (aq 6) au)))) (ak (aA kh (aA aP (ao 3) (qC (.int 7))) (qC (.int 6))) au))))) aW)
 (aD (bQ (bh (aA bW (ao 0) (qC (.str "sell")))) (aQ (bB (ak (aq 0) (ak (aV jJ (ak (aq 1) (ak (aA aP (ao 4) (qC (.int 2))) (ak (aq 6) au)))) (ak (aV jJ (ak (aq 2) (ak (aA aP (ao 4) (qC (.int 0))) (ak (aq 6) au)))) au))))) aW)
 (aD (bQ (bh (aA bW (ao 0) (qC (.str "move")))) (aQ (bB (ak (aq 0) (ak (aV jJ (ak (aq 1) (ak (aA aP (ao 4) (qC (.int 2))) (ak (aq 6) au)))) (ak (aV jJ (ak (aq 2) (ak (aA aP (ao 4) (qC (.int 1))) (ak (aq 6) au)))) au))))) aW)
 (aQ (bB (ak (aq 0) (ak (aV jJ (ak (aq 1) (ak (aA aP (ao 4) (qC (.int 2))) (ak (aq 6) au)))) au))))))))))))))))))
def fG:=mQ 8 jN
def Jw:SF:=
 (aD (aZ (aF 3) (Ec qW (ak (aq 0) (ak (bB (ak (qC (.str "bring")) (ak (qC (.int 1)) (ak (qC (.int 1)) (ak (bB (ak (qC (.int 0)) (ak (qC (.int 0)) (ak (qC (.int 0)) (ak (qC (.int 0)) (ak (qC (.int 0)) (ak (qC (.int 0)) au))))))) au))))) (ak (aq 3) au)))))
 (aZ (aF 3) (Ec qW (ak (aq 0) (ak (bB (ak (qC (.str "cut")) (ak (aA aP (ao 3) (qC (.int 2))) au))) (ak (aq 3) au))))))
def Dz:SF:=
 (aD (aZ (aF 8) (gOf (aV vD (ak (aq 7) (ak (qC (.int 14)) (ak (qC (.int 10)) au))))))
 (aD (aZ (aF 9) (gOf (aV Aq (ak (aA fu (aA wZ (aA aP (ao 8) (qC (.int 0))) (qC (.int 10))) (aA aP (ao 8) (qC (.int 1)))) au))))
 (aD (aZ (aF 10) (gOf (aA fu (aA wZ (aA aP (ao 8) (qC (.int 2))) (qC (.int 10))) (aA aP (ao 8) (qC (.int 3))))))
 (aD (aZ (aF 11) (gOf (aA fu (aA wZ (aA aP (ao 8) (qC (.int 4))) (qC (.int 10))) (aA aP (ao 8) (qC (.int 5))))))
 (aD (bQ (bh (aA Ox (ao 6) (eV oZ (ao 5)))) (aZ (bH [9,10,11]) (gOf (aA aP (ao 5) (ao 6)))) aW)
 (aZ (aF 3) (Ec qW (ak (aq 0) (ak (aV fG (ak (aq 9) (ak (aq 10) (ak (aq 11) (ak (aq 8) (ak (aq 3) (ak (aq 4) au))))))) (ak (aq 3) au))))))))))
def Ro:SF:=
 (aD (aZ (aF 3) (gOf (bB (ak (qC (.int 0)) (ak (qC (.int 0)) (ak (qC (.int 0)) au))))))
 (aD (aZ (aF 4) (gOf (aV JB (ak (aA Bc (ao 2) (qC (.int 512))) au))))
 (aD (aZ (aF 5) (gOf (aV vo (ak (aq 2) au))))
 (aD (qU (wV 0 (aq 1)) (bH [6,7]) Dz)
 (aD (bQ (bh (aA bW (aA kh (aA Bc (ao 2) (qC (.int 8))) (qC (.int 8))) (qC (.int 1)))) (qU (Cj (aA wZ (aA kh (aA Bc (ao 2) (qC (.int 64))) (qC (.int 8))) (qC (.int 4)))) (aF 12) Jw) aW)
 (aQ (aq 3)))))))
def CV:=mG 13 Ro
def Zt:SF:=
 (aD (bQ (bh (aA Ox (ao 1) (eV oZ (ao 0)))) (aQ (aA aP (ao 0) (ao 1))) aW)
 (aQ (qC (.int 0))))
def u5:=mQ 2 Zt
def Uj:SF:=
 (aD (aZ (aF 4) (gOf (aV vD (ak (aq 1) (ak (qC (.int 14)) (ak (qC (.int 10)) au))))))
 (aQ (aV fG (ak (aq 0) (ak (aA fu (aA wZ (aA aP (ao 4) (qC (.int 2))) (qC (.int 10))) (aA aP (ao 4) (qC (.int 3)))) (ak (aA fu (aA wZ (aA aP (ao 4) (qC (.int 4))) (qC (.int 10))) (aA aP (ao 4) (qC (.int 5)))) (ak (aq 4) (ak (aq 2) (ak (aV JB (ak (aA Bc (ao 3) (qC (.int 512))) au)) au)))))))))
def Cy:=mQ 5 Uj
def XR:SF:=
 (aD (bQ (bh (aA Ox (ao 0) (qC (.int 0)))) (aQ (aA kY (qC (.int 0)) (aA kh (aA kY (qC (.int 0)) (ao 0)) (aA O9 (qC (.int 10)) (qC (.int 30)))))) aW)
 (aQ (aA kh (ao 0) (aA O9 (qC (.int 10)) (qC (.int 30))))))
def Nr:=mQ 1 XR
def X3:SF:=
 (aD (bQ (bh (aA bW (aA kh (ao 1) (qC (.int 13))) (ao 2))) (aQ (aV Nr (ak (aA Bc (ao 1) (qC (.int 13))) au))) aW)
 (aQ (aq 0)))
def Ea:=mQ 3 X3
def yK:SF:=
 (bQ (JF (bh (aA bW (ao 1) (vP au))) (bh (aA uZ (aA aP (ao 1) (eV Qx (qC (.int 1)))) (ao 2)))) (Jz 1 (aq 2)) aW)
def aav:SF:=
 (aD (Dt 1 (O2 au))
 (aD (qU (cR (eV zQ (ao 0))) (aF 2) yK)
 (aQ (aq 1))))
def KZ:=mQ 3 aav
def mD:SF:=
 (bQ (jK (jh (aA aP (ao 5) (qC (.int 4)))) (jK (bh (xK true .none (aA aP (ao 5) (qC (.int 2))))) (jK (bh (aA (inD false) (aA aP (ao 5) (qC (.int 1))) (ao 1))) (bh (aA uZ (aA fu (ao 4) (qC (.int 1))) (ao 2)))))) (Jz 3 (bB (ak (aA aP (ao 5) (qC (.int 0))) (ak (aA aP (ao 5) (qC (.int 2))) au)))) aW)
def Ml:SF:=
 (aD (Dt 3 (zV (cR (aA aP (ao 0) (qC (.int 2)))) (bH [6,7,8]) [6,7,8] (bh (aA (inD false) (ao 7) (ao 1))) (bB (ak (aq 6) (ak (aq 8) au)))))
 (aD (qU (wV 0 (aA aP (ao 0) (qC (.int 3)))) (bH [4,5]) mD)
 (aQ (aV KZ (ak (aq 3) au)))))
def Ar:=mQ 9 Ml
def M5:SF:=
 (aQ (eV maxD (dY (cR (aA aP (aA aP (aA aP (ao 0) (qC (.int 1))) (aA kY (ao 1) (qC (.int 1)))) (qC (.int 1)))) (aF 2) [2] gY (aA aP (aA aP (aA aP (ao 0) (qC (.int 1))) (aA kY (ao 2) (qC (.int 1)))) (qC (.int 0))))))
def zY:=mQ 3 M5
def Us:SF:=
 (aQ (eV Vd (dY (Jk (ao 0) (ao 1)) (bH [2,3]) [2,3] gY (aA qL (qC (.int 0)) (aA kY (ao 3) (ao 2))))))
def Cm:=mQ 4 Us
def acY:SF:=
 (aQ (aA qL (aV Cm (ak (aq 0) (ak (aq 1) au))) (aV Cm (ak (aq 1) (ak (aq 0) au)))))
def NQ:=mQ 2 acY
def qu:SF:=
 (bQ (bh (aA Wv (aA N8 (dY (cR (ao 4)) (aF 7) [7] gY (aV NQ (ak (aA aP (ao 7) (qC (.int 1))) (ak (aq 6) au)))) (qC (.int 99))) (ao 5))) (aQ (aq 6)) aW)
def Nt:SF:=
 (aD (aZ (aF 4) (gOf (aV Ar (ak (aq 0) (ak (aA aP (aA aP (aA aP (ao 0) (qC (.int 1))) (aA kY (ao 1) (qC (.int 1)))) (qC (.int 1))) (ak (qC (.int 0)) au))))))
 (aD (aZ (aF 5) (gOf (aV zY (ak (aq 0) (ak (aq 1) au)))))
 (aD (qU (cR (aV oX (ak (aq 2) (ak (aq 3) au)))) (aF 6) qu)
 (aQ (qC .none)))))
def Cg:=mQ 8 Nt
def yX:SF:=
 (aQ (Tn (lN sV sV (qC (.int 1)) (ao 1) (eV oZ (aA aP (ao 0) (qC (.int 1)))))))
def pW:=mQ 2 yX
def Ju:SF:=
 (aQ (dY (cR (aA aP (ao 0) (qC (.int 2)))) (aF 3) [3] (jK (bh (aA bW (aA aP (ao 3) (qC (.int 0))) (ao 1))) (bh (aA bW (aA aP (ao 3) (qC (.int 1))) (ao 2)))) (aA aP (ao 3) (qC (.int 2)))))
def uH:=mQ 4 Ju
def BR:SF:=
 (aD (aZ (aF 5) (gOf (qC (.str ""))))
 (aD (bQ (bh (aA (inD true) (ao 1) (aA aP (ao 0) (qC (.int 0))))) (aZ (aF 5) (gOf (qC (.str "NoOwner")))) (bQ (jZ (jh (aV pW (ak (aq 0) (ak (aq 2) au))))) (aZ (aF 5) (gOf (qC (.str "NoGround")))) (bQ (jZ (lN sV sV (qC (.int 1)) (ao 3) (qC (.int 3)))) (aZ (aF 5) (gOf (qC (.str "BadExtra")))) (bQ (bh (aA bW (aV uH (ak (aq 0) (ak (aq 1) (ak (aq 2) au)))) (vP au))) (aZ (aF 5) (gOf (qC (.str "NoRight")))) aW))))
 (aD (bQ (bh (aA uZ (ao 5) (qC (.str "")))) (aQ (bB (ak (aq 5) (ak (qC .none) (ak (aq 0) au))))) aW)
 (aD (aZ (aF 6) (gOf (aV Cg (ak (aq 0) (ak (aq 2) (ak (aA aP (aV uH (ak (aq 0) (ak (aq 1) (ak (aq 2) au)))) (qC (.int 0))) (ak (aq 3) au)))))))
 (aD (bQ (bh (xK false .none (ao 6))) (aQ (bB (ak (qC (.str "NoneFree")) (ak (qC .none) (ak (aq 0) au))))) aW)
 (aQ (bB (ak (qC (.str "")) (ak (bB (ak (aq 4) (ak (aq 6) au))) (ak (bB (ak (aA fu (aA aP (ao 0) (qC (.int 0))) (vP (ak (aq 4) au))) (ak (aA aP (ao 0) (qC (.int 1))) (ak (aA fu (aA aP (ao 0) (qC (.int 2))) (vP (ak (bB (ak (aq 4) (ak (aq 2) (ak (aq 6) au)))) au))) (ak (aA aP (ao 0) (qC (.int 3))) au))))) au))))))))))
def w6:=mQ 7 BR
def Tq:SF:=
 (aD (aZ (aF 4) (gOf (qC (.str ""))))
 (aD (aZ (aF 5) (gOf (qC .none)))
 (aD (U4 (aZ (aF 5) (cO fU (ao 0) (ak (aq 1) (ak (aq 2) (ak (aq 3) au))))) [⟨"NoOwner",λx=>Jb.lookup x,none,[(4,(.con (.str "NoOwner")))]⟩,⟨"NoGround",λx=>Fo.lookup x,none,[(4,(.con (.str "NoGround")))]⟩,⟨"BadExtra",λx=>Fw.lookup x,none,[(4,(.con (.str "BadExtra")))]⟩,⟨"NoRight",λx=>JH.lookup x,none,[(4,(.con (.str "NoRight")))]⟩,⟨"NoneFree",λx=>FP.lookup x,none,[(4,(.con (.str "NoneFree")))]⟩])
 (aQ (bB (ak (aq 4) (ak (aq 5) au)))))))
def Gy:=mG 6 Tq
def Um:SF:=
 (aQ (yc (yg .int (ao 0)) (Sh (yg .bool (ao 0)))))
def Ge:=mQ 1 Um
def Qu(r:Mo->List Dat->Out Dat):SF:=
 (bQ (jZ (jh (aV r (ak (aq 2) (ak (aq 3) au))))) (aQ (qC (.bool false))) aW)
def HD(r:Mo->List Dat->Out Dat):SF:=
 (aD (bQ (bh (xK false .none (ao 1))) (aQ (xK false .none (ao 0))) aW)
 (aD (bQ (bh (xK false (.bool true) (ao 1))) (aQ (xK false (.bool true) (ao 0))) aW)
 (aD (bQ (bh (xK false (.bool false) (ao 1))) (aQ (xK false (.bool false) (ao 0))) aW)
 (aD (bQ (jh (yg .int (ao 1))) (aQ (yc (aV Ge (ak (aq 0) au)) (aA bW (ao 0) (ao 1)))) aW)
 (aD (bQ (jh (yg .str (ao 1))) (aQ (yc (yg .str (ao 0)) (aA bW (ao 0) (ao 1)))) aW)
 (aD (bQ (jK (jh (yg .tuple (ao 1))) (jZ (jh (yg .tuple (ao 0))))) (aQ (qC (.bool false))) aW)
 (aD (bQ (jK (jh (yg .list (ao 1))) (jZ (jh (yg .list (ao 0))))) (aQ (qC (.bool false))) aW)
 (aD (bQ (bh (aA uZ (eV oZ (ao 0)) (eV oZ (ao 1)))) (aQ (qC (.bool false))) aW)
 (aD (qU (Jk (aq 0) (aq 1)) (bH [2,3]) (Qu r))
 (aQ (qC (.bool true))))))))))))
def lJ:Nat->Mo->List Dat->Out Dat
 |0=>λ_ _=>.bad
 |n+1=>mQ 4 (HD (lJ n))
def jx:List (Str×MV):=[("Commons",.q 1 mJ)]
def M9:SF:=
 (aD (aZ (aF 1) (Bh "Commons" mV au))
 (aD (aZ (aF 2) (gOf (eV T8 (aV u5 (ak (aq 0) (ak (qC (.int 0)) au))))))
 (aD (aZ (aF 3) (Ec CV (ak (aq 1) (ak (OJ (ao 0) (rC (qC (.int 2))) (rC (qC (.int 44)))) (ak (aq 2) au)))))
 (aD (aZ (aF 4) (gOf (aV u5 (ak (aq 0) (ak (qC (.int 1)) au)))))
 (aD (aZ (aF 5) (gOf (aV Cy (ak (qC (.str "heir")) (ak (aq 4) (ak (aq 3) (ak (aq 2) au)))))))
 (aD (sPN [6,7,8] (ak (aV Ea (ak (aA aP (ao 5) (qC (.int 1))) (ak (aq 4) (ak (qC (.int 3)) au)))) (ak (aV Ea (ak (aA aP (ao 5) (qC (.int 2))) (ak (aq 4) (ak (qC (.int 4)) au)))) (ak (aA aP (ao 5) (qC (.int 3))) au))))
 (aD (bQ (bh (aA bW (aA kh (ao 4) (qC (.int 5))) (qC (.int 1)))) (aZ (aF 8) (gOf (aA kY (aA kh (aA Bc (ao 4) (qC (.int 5))) (qC (.int 7))) (qC (.int 1))))) aW)
 (aD (aZ (aF 8) (gOf (aV Ea (ak (aq 8) (ak (aq 4) (ak (qC (.int 5)) au))))))
 (aD (aZ (aF 9) (gOf (aU jx (ao 1) au)))
 (aD (aZ (aF 10) (gOf (aV w6 (ak (aq 9) (ak (aq 6) (ak (aq 7) (ak (aq 8) (ak (aA fu (aA aP (ao 3) (qC (.int 0))) (qC (.int 1))) au))))))))
 (aD (aZ (aF 11) (Ec Gy (ak (aq 1) (ak (aq 6) (ak (aq 7) (ak (aq 8) au))))))
 (aQ (yc (aV (lJ 10) (ak (aq 11) (ak (OJ (ao 10) Ah (rC (qC (.int 2)))) au))) (aV (lJ 10) (ak (aU jx (ao 1) au) (ak (aA aP (ao 10) (qC (.int 2))) au))))))))))))))))
def Je:=mG 12 M9
theorem Xy:FnScope ["self","ones","others","ear"] ["self","ones","others","ear"] (defScope Mz):=⟨rfl,rfl,rfl,by decide +kernel,rfl,by decide +kernel,by decide +kernel⟩
abbrev rX(N:List Str)(s:Stmt)(G:List (Str×GV))(B:List Str)(Ms:List (Str×List (Str×MV)))(ml:List Str):Option SF:=rd ⟨N,defScope s,G,B,⟨Ms,jY,xmH,dfH,VN⟩,ml,true⟩ (defBody s)
abbrev rY(N:List Str)(s:Stmt)(G:List (Str×GV))(B:List Str)(Ms:List (Str×List (Str×MV)))(ml:List Str):Option SF:=rdG ⟨N,defScope s,G,B,⟨Ms,jY,xmH,dfH,VN⟩,ml,true⟩ (defBody s)
theorem ais:FnScope ["_law_found","_law_due_here","_law_one","_law_other"] ["_law_found","_law_due_here"] (defScope Tt):=⟨rfl,rfl,rfl,by decide +kernel,rfl,by decide +kernel,by decide +kernel⟩
theorem alL:FnScope ["_law_script","_law_house","_law_head","_law_counts","_law_cell_here","_law_deed_here","_law_elder","_law_ground","_law_extra","_law_stand","_law_due_here","_law_told"] ["_law_script"] (defScope NK):=⟨rfl,rfl,rfl,by decide +kernel,rfl,by decide +kernel,by decide +kernel⟩
theorem T5:rY ["self"] Gf [] [] [] []=some yR:=by kernel_rfl
theorem Xl:rY ["self"] JR [] [] [] []=some Bf:=by kernel_rfl
theorem aay:rY ["self"] Oo [] [] [] []=some Fv:=by kernel_rfl
theorem Vp:rY ["self"] Gq [("Herd",.cls 0 zN),("Rights",.cls 0 vB),("Grounds",.cls 0 uJ)] [] [] []=some zj:=by kernel_rfl
theorem Xj:rX ["self"] JZ [] [] [] []=some Az:=by kernel_rfl
theorem Yx:rX ["self"] LQ [] ["tuple"] [("stand",mU)] []=some CZ:=by kernel_rfl
theorem Pn:rX ["self"] CT [] ["list"] [] []=some vU:=by kernel_rfl
theorem Od:rX ["self"] Bw [] ["list"] [] []=some uY:=by kernel_rfl
theorem UG:rX ["self"] HS [] ["len"] [] []=some uG:=by kernel_rfl
theorem Xf:rX ["self","ground"] JV [] [] [("many",eU)] []=some Bq:=by kernel_rfl
theorem Uk:rX ["self","ground"] GJ [("NoGround",.exc)] [] [("has",zF)] []=some yN:=by kernel_rfl
theorem Kl:rX ["self","ground"] yF [] [] [("need",aG)] []=some nu:=by kernel_rfl
theorem Kv:rX ["self","ground"] Ax [] ["list"] [("need",aG)] []=some ou:=by kernel_rfl
theorem Mf:rX ["self","ground"] Af [] [] [("together",bD)] []=some oO:=by kernel_rfl
theorem Vs:rX ["self","grounds","beasts","ground","beast"] HW [] ["range","tuple"] [("all_rows",sY),("owners",uU),("told",vL),("many",eU),("together",bR),("allowance",dN)] []=some yV:=by kernel_rfl
theorem amM:rX ["_law_cell_here","_law_many","_law_base","_law_found","_law_k","_law_turn"] s_row [] ["range","abs"] [] ["_law_found"]=some acR:=by kernel_rfl
theorem afL:rX ["_law_figures","_law_mode","_law_figure"] ZQ [] ["tuple","max"] [] []=some Qg:=by kernel_rfl
theorem amY:rX ["_law_cell_here","_law_figures"] ag0 [("_law_ear_by",.fq 2 tM),("_law_row",.fq 3 vD)] [] [] []=some ab3:=by kernel_rfl
theorem aaE:rX ["_law_head","_law_rows"] Oz [] [] [] []=some Fj:=by kernel_rfl
theorem adR:rX ["_law_figure","_law_some"] VB [] [] [] []=some MK:=by kernel_rfl
theorem Jv:rX ["self","owner"] yd [("NoOwner",.exc)] [] [] []=some lY:=by kernel_rfl
theorem U8:rX ["self","owner","ground","holder","where","mark"] HX [] [] [] []=some za:=by kernel_rfl
theorem K6:rX ["self","owner","ground"] Ao [] ["len"] [("marks",cI)] []=some tZ:=by kernel_rfl
theorem JC:rX ["self","owner","ground"] xg [("NoRight",.exc)] [] [("has_right",rP)] []=some qG:=by kernel_rfl
theorem Ke:rY ["self"] yE [] [] [] []=some rO:=by kernel_rfl
theorem MP:rY ["self","owner","ground","mark","row"] Aa [("HasRight",.exc)] [] [] []=some oG:=by kernel_rfl
theorem ajP:rX ["ear","many","heads","depth","head","left","cut"] aeP [("GREATEST_DEPTH",.con cQ)] ["range","min"] [] []=some Y7:=by kernel_rfl
theorem ahn:rX ["one","other","here","there"] abg [] ["sum","zip"] [] []=some Vc:=by kernel_rfl
theorem aaM:rX ["mark","extra","ear"] O4 [("lacks",.fq 2 ux),("torn",.fq 2 Ks)] [] [] []=some Fl:=by kernel_rfl
theorem aht:rX ["one","other"] aa1 [("lacks",.fq 2 ux)] ["max"] [] []=some Vr:=by kernel_rfl
theorem aj4:rX ["one","other","room"] aed [("apart",.fq 2 Hj)] [] [] []=some Zw:=by kernel_rfl
theorem YL:rX ["mark","extra","rows","room","ear","owner","taken"] MF [("NoneFree",.exc),("offspring",.fq 2 oX),("meet",.fq 3 rH)] ["any"] [] []=some wY:=by kernel_rfl
theorem JD:rX ["self","owner","ground"] yr [] [] [("marks",cI)] []=some qM:=by kernel_rfl
theorem afS:rX ["rows"] Yd [] ["sorted","set"] [] []=some Pg:=by kernel_rfl
theorem Oa:rX ["self","number","beast"] Bt [] ["enumerate"] [] []=some uV:=by kernel_rfl
theorem TX:rX ["self","grounds","number","beast"] Gv [] [] [("all_living",dW)] []=some yM:=by kernel_rfl
theorem Kg:rX ["self","grounds","owner","ground","mark"] yG [] [] [] []=some sE:=by kernel_rfl
theorem Fy:rX ["self","left_out","ground","near","due","number","beast"] u9 [("tidied",.fq 1 qw)] [] [("in_grounds",qQ),("grazing",jr),("together",bR)] []=some j5:=by kernel_rfl
theorem MN:rX ["self","ground"] zW [] [] [("standing_but",cZ)] []=some oR:=by kernel_rfl
theorem Ut:rX ["self","ground","near"] Hv [] ["max"] [("together",bD),("allowance",dN)] []=some uM:=by kernel_rfl
theorem Ui:rX ["self","ground"] Hq [] [] [("room",sO)] []=some uI:=by kernel_rfl
theorem Mq:rY ["self","elder","ground","extra","mark","heir"] Ag [("first_free",.fq 4 pY),("BadExtra",.exc),("FEWEST_EXTRA",.con jg),("MOST_EXTRA",.con lu)] [] [("add_right",iy),("new_owner",gR),("room",cA),("standing",cD),("first_mark",bV),("need_right",aN),("need",aG),("need_owner",aC)] []=some dO:=by kernel_rfl
theorem IW:rY ["self","allowance"] xM [("BadAllowance",.exc),("GREATEST_ALLOWANCE",.con gK)] [] [("many",eU)] []=some ji:=by kernel_rfl
theorem IK:rY ["self","allowance"] yh [] [] [("add_ground",lC)] []=some lX:=by kernel_rfl
theorem adp:rX ["owner","ear","rows","room","holder","mark"] VJ [("meet",.fq 3 rH),("tidied",.fq 1 qw)] [] [] []=some Le:=by kernel_rfl
theorem ahR:rX ["one","other","here","there"] abo [] ["tuple","zip","max"] [] []=some Vh:=by kernel_rfl
theorem acO:rX ["owner","ear","rows","room","bars","holder","mark"] Q6 [("Clash",.exi ["ones","others","ear"]),("joint",.fq 2 qj),("barring",.fq 4 Am)] [] [] []=some BW:=by kernel_rfl
theorem Jg:rX ["self","owner","ear","ground"] xO [("ask_room",.fq 4 oU)] [] [("room",cA),("standing",cD)] []=some lV:=by kernel_rfl
theorem afX:rX ["parts","depth"] aac [("GREATEST_DEPTH",.con cQ),("PLACES",.con iU)] ["all","len"] [] []=some Jf:=by kernel_rfl
theorem acG:rX ["parts"] RG [("BadEar",.exc),("is_ear",.fq 1 ug)] [] [] []=some JG:=by kernel_rfl
theorem Rg:rY ["self","owner","ground","mark"] Fe [("HasRight",.exc),("Bare",.exc),("BARE_EAR",.con jk),("need_ear",.fq 1 qJ)] [] [("add_right",iy),("ask_ground",bU),("marks",cI),("need",aG),("need_owner",aC)] []=some fW:=by kernel_rfl
theorem XC:rY ["self","owner","ground","gone","mark"] JT [("NoRight",.exc)] [] [("marks",cI)] []=some vJ:=by kernel_rfl
theorem RN:rY ["self","owner","ground","number","beast"] El [("StillThere",.exc)] ["any"] [("drop",yP),("grazing",jr),("need_right",aN),("need",aG),("need_owner",aC)] []=some jA:=by kernel_rfl
theorem Ql:rY ["self","stand","owner","ground","due","ear","alive"] Dd [] [] [] []=some qR:=by kernel_rfl
theorem ait:rX ["first","word","mother","owner","ground","ear"] abT [("BARE_EAR",.con jk)] [] [] []=some M8:=by kernel_rfl
theorem aah:rY ["self","first"] Mw [("begun",.fq 1 Cd)] [] [("stand_so",jF)] []=some CQ:=by kernel_rfl
theorem Qw:rY ["self","first"] CK [("Beast",.cls 1 tO)] ["len"] [] []=some wj:=by kernel_rfl
theorem Sy:rY ["self","owner","ground","ear"] DW [("need_ear",.fq 1 qJ)] [] [("add_beast",jE),("need_right",aN),("need",aG),("need_owner",aC)] []=some jw:=by kernel_rfl
theorem YG:rX ["self","number"] Ky [("NoBeast",.exc)] ["len"] [] []=some tD:=by kernel_rfl
theorem Xd:rX ["self","number","beast"] JQ [("Dead",.exc)] [] [("known",fJ)] []=some vH:=by kernel_rfl
theorem Xh:rX ["self","number","beast"] JW [("Unmarked",.exc)] [] [("living",bJ)] []=some qX:=by kernel_rfl
theorem U7:rY ["self","mother","cow"] Hg [] [] [("add_beast",jE),("marked",bA)] []=some mK:=by kernel_rfl
theorem acv:rX ["ear","place","at","depth"] Rv [] ["tuple","enumerate"] [] []=some JL:=by kernel_rfl
theorem adb:rX ["stand","event","owner","ground","due","ear","alive","word"] Wj [("deepened",.fq 2 yq)] [] [] []=some KR:=by kernel_rfl
theorem TY:rY ["self","event"] Hz [("gone_on",.fq 2 Ae)] [] [("stand_so",jF),("stand",mU)] []=some yL:=by kernel_rfl
theorem Xn:rY ["self","beast","found","due"] J5 [("joint",.fq 2 qj)] [] [("befall",bO),("ask_ground",bU),("first_mark",bV),("living",bJ)] []=some nY:=by kernel_rfl
theorem Uu:rY ["self","beast","place","found"] Gp [("Deepest",.exc),("GREATEST_DEPTH",.con cQ),("NoPlace",.exc),("PLACES",.con iU)] ["len"] [("befall",bO),("living",bJ)] []=some jf:=by kernel_rfl
theorem XH:rX ["self","mother","number","beast"] Kc [] [] [("all_living",dW),("known",fJ)] []=some vK:=by kernel_rfl
theorem Lf:rY ["self","mother","beast","number","calf"] zU [] [] [("calves",zB),("befall",bO),("known",fJ)] []=some tV:=by kernel_rfl
theorem U9:rY ["self","beast","buyer","found","due"] Gk [("ask_room",.fq 4 oU),("joint",.fq 2 qj),("SameOwner",.exc)] [] [("lead_calves",iz),("befall",bO),("room",cA),("standing_but",cZ),("first_mark",bV),("need_right",aN),("need_owner",aC),("marked",bA)] []=some fM:=by kernel_rfl
theorem Vy:rY ["self","beast","ground","found","left"] Ht [("SameGround",.exc)] [] [("lead_calves",iz),("befall",bO),("ask_ground",bU),("need_right",aN),("need",aG),("marked",bA)] []=some fK:=by kernel_rfl
theorem Xm:rY ["self","beast"] Ka [] [] [("befall",bO),("living",bJ)] []=some rF:=by kernel_rfl
theorem acs:rX ["rows","room","tidy","at","row","greater"] Rm [("meet",.fq 3 rH),("tidied",.fq 1 qw)] ["enumerate"] [] []=some Jd:=by kernel_rfl
theorem M4:rX ["self","ground","other","room"] Ab [("clashing",.fq 2 uD)] ["max"] [("standing",cD),("room",cA)] []=some uw:=by kernel_rfl
theorem Oh:rY ["self","grounds","circle","ground"] Br [] ["tuple"] [] []=some uW:=by kernel_rfl
theorem R7:rY ["self","ground","other","ones","others"] DN [("Together",.exc)] ["sorted"] [("enclose",gG),("together",bD)] []=some sS:=by kernel_rfl
theorem Rq:rY ["self","ground","other","pairs","row","greater"] Et [("Clash",.exi ["ones","others","ear"]),("joint",.fq 2 qj),("Together",.exc)] [] [("unite",vR),("quarrels",ni),("together",bR),("need",aG)] []=some jo:=by kernel_rfl
theorem Vb:rY ["self","ground","left","near"] Gg [("Alone",.exc)] [] [("enclose",gG),("together",bD)] []=some qd:=by kernel_rfl
theorem T7:rY ["self","ground"] Gu [] [] [("part",oV)] []=some pN:=by kernel_rfl
theorem Ln:rY ["self","elder","heir","owner","ground","mark"] Ac [] [] [] []=some tL:=by kernel_rfl
theorem ZV:rX ["self","owner","number","beast"] LR [] [] [("all_living",dW)] []=some CP:=by kernel_rfl
theorem Oi:rY ["self","elder","heir","passed","number","beast"] Bu [("SameOwner",.exc)] [] [("befall",bO),("owned",Ay),("hand_over",rW),("need_owner",aC)] []=some jD:=by kernel_rfl
theorem aaK:rX ["kind","part","greatest"] Ot [("PLACES",.con iU),("GREATEST_PART",.con oF),("is_ear",.fq 1 ug)] ["isinstance","int","len","tuple"] [] []=some vq:=by kernel_rfl
theorem akZ:rX ["deed","shape","parts","kind","part"] ada [("part_fits",.fq 2 iI),("SHAPES",.dic (zK yI))] ["all","zip","len"] [] []=some Zd:=by kernel_rfl
theorem ZK:rY ["self","deed","word","parts"] La [("BadDeed",.exc),("fits",.fq 1 Hh)] [] [("new_heir",fU),("pass_on",tH),("part",xY),("unite",v8),("die",yQ),("move",yu),("sell",yt),("tear",xQ),("cut",yZ),("bear",xR),("bring",v7),("leave",vW),("enrol",vX),("new_ground",pK),("new_owner",gR)] []=some cU:=by kernel_rfl
theorem alq:rY ["_law_house","_law_deed_here","_law_counts","_law_told","_law_owners","_law_grounds","_law_beasts"] aeM [("CommonError",.exc)] [] [("do",qZ)] []=some Lj:=by kernel_rfl
theorem aj3:rX ["_law_ear_here","_law_figures","_law_found","_law_depth","_law_figure","_law_more"] ae5 [] ["tuple","zip","max","min"] [] ["_law_found"]=some aad:=by kernel_rfl
theorem aef:rX ["_law_figures","_law_mode","_law_base"] V4 [("_law_ear_by",.fq 2 tM),("_law_near",.fq 2 MJ)] [] [] []=some LC:=by kernel_rfl
theorem amB:rX ["_law_figure","_law_many","_law_sure"] agE [] ["max"] [] []=some XM:=by kernel_rfl
theorem ajr:rX ["_law_word","_law_one","_law_two","_law_parts","_law_counts","_law_base","_law_sure","_law_mark"] adL [("_law_ref",.fq 3 jJ),("_law_mark_by",.fq 3 wA)] ["int"] [] []=some jN:=by kernel_rfl
theorem ajd:rY ["_law_house","_law_cells","_law_head","_law_counts","_law_base","_law_begun_here","_law_at","_law_cell_here","_law_parts","_law_word","_law_one","_law_two","_law_k"] aei [("_law_done",.fg 3 qW),("_law_deed",.fq 6 fG),("_law_word_by",.fq 1 Aq),("_law_row",.fq 3 vD),("_law_begun",.fq 1 vo),("_law_ear",.fq 1 JB)] ["range","enumerate","len"] [] []=some Ro:=by kernel_rfl
theorem aj9:rX ["_law_script","_law_k"] aeV [] ["len"] [] []=some Zt:=by kernel_rfl
theorem ahz:rX ["_law_word","_law_cell_here","_law_counts","_law_head","_law_parts"] abO [("_law_deed",.fq 6 fG),("_law_ear",.fq 1 JB),("_law_row",.fq 3 vD)] [] [] []=some Uj:=by kernel_rfl
theorem alT:rX ["_law_cell_here"] agy [] [] [] []=some XR:=by kernel_rfl
theorem amk:rX ["_law_value","_law_cell_here","_law_turn"] agK [("_law_cut",.fq 1 Nr)] [] [] []=some X3:=by kernel_rfl
theorem aja:rX ["_law_rows","_law_found","_law_row_here"] aee [] ["sorted"] [] ["_law_found"]=some aav:=by kernel_rfl
theorem adJ:rX ["_law_stand","_law_grounds","_law_but","_law_rows","_law_at","_law_beast","_law_owner","_law_ground","_law_mark"] V5 [("_law_once",.fq 1 KZ)] ["enumerate"] [] ["_law_rows"]=some Ml:=by kernel_rfl
theorem adU:rX ["_law_stand","_law_ground","_law_one"] W4 [] ["max"] [] []=some M5:=by kernel_rfl
theorem aiz:rX ["_law_one","_law_other","_law_a","_law_b"] abk [] ["sum","zip","max"] [] []=some Us:=by kernel_rfl
theorem alS:rX ["_law_one","_law_other"] agD [("_law_tears",.fq 2 Cm)] ["max"] [] []=some acY:=by kernel_rfl
theorem ahb:rX ["_law_stand","_law_ground","_law_mark","_law_extra","_law_rows","_law_space","_law_ear_here","_law_row_here"] abB [("offspring",.fq 2 oX),("_law_far",.fq 2 NQ),("_law_room_of",.fq 2 zY),("_law_rows_of",.fq 3 Ar)] ["min"] [] []=some Nt:=by kernel_rfl
theorem Vt:rX ["_law_stand","_law_ground"] Hf [] ["len"] [] []=some yX:=by kernel_rfl
theorem acP:rX ["_law_stand","_law_owner","_law_ground","_law_row_here"] Q5 [] [] [] []=some Ju:=by kernel_rfl
theorem alR:rX ["_law_stand","_law_elder","_law_ground","_law_extra","_law_heir","_law_word","_law_mark"] agF [("_law_least",.fq 4 Cg),("_law_marks_of",.fq 3 uH),("_law_ground_there",.fq 2 pW)] [] [] []=some BR:=by kernel_rfl
theorem ak4:rY ["_law_house","_law_elder","_law_ground","_law_extra","_law_word","_law_told"] aeN [("NoOwner",.exc),("NoGround",.exc),("BadExtra",.exc),("NoRight",.exc),("NoneFree",.exc)] [] [("new_heir",fU)] []=some Tq:=by kernel_rfl
theorem ahe:rX ["_law_found"] aa4 [] ["isinstance","bool","int"] [] []=some Um:=by kernel_rfl
theorem akP(r:Mo->List Dat->Out Dat):rd ⟨["_law_found","_law_due_here","_law_one","_law_other"],defScope Tt,[("_law_like",.fq 2 r),("_law_whole",.fq 1 Ge)],["zip","len","isinstance","list","tuple","str","int"],⟨[],jY,xmH,dfH,VN⟩,[],true⟩ (defBody Tt)=some (HD r):=by kernel_rfl
theorem amS:rY ["_law_script","_law_house","_law_head","_law_counts","_law_cell_here","_law_deed_here","_law_elder","_law_ground","_law_extra","_law_stand","_law_due_here","_law_told"] NK [("_law_like",.fq 2 (lJ 10)),("_law_tell",.fg 4 Gy),("_law_due",.fq 5 w6),("_law_raw",.fq 3 Ea),("_law_asked",.fq 4 Cy),("_law_cell",.fq 2 u5),("_law_play",.fg 3 CV),("Commons",.cls 0 mV)] ["abs"] [("look",jx)] []=some M9:=by kernel_rfl
structure Top(w:World)(K:arO)(mg:Str->Option Value):Prop where
 ex:∃h:Heap,K.In h/\h.Ns mainGlobals mg
 c:Np fa fn tbs exB w K
abbrev aj(w:World)(K:arO):aR:=oJ w K xsH jY
section
variable{P:Program}{w:World}{K:arO}{mg:Str->Option Value}{base:Heap}{k:Nat}(T:Top w K mg)
include T
theorem Top.glo(i:Nat){x:Str}(h:fa[i]?=some (.glo x):=by rfl):mg x=some (.ref (He.ga K x)):=by obtain⟨_,X,G⟩:=T.ex;exact He.glo_ok X G (T.c.o7 i h)
theorem Top.free(i:Nat){x:Str}(h:fa[i]?=some (.free x):=by rfl):mg x=none:=by obtain⟨_,X,G⟩:=T.ex;exact He.free_ok X G (T.c.o7 i h)
theorem Top.int(i:Nat){x:Str}{j:Int}(h:fa[i]?=some (.int x j):=by rfl):∃t,mg x=some (.int j t):=by obtain⟨_,X,G⟩:=T.ex;exact He.int_ok X G (T.c.o7 i h)
theorem Top.str(i:Nat){x j:Str}(h:fa[i]?=some (.str x j):=by rfl):∃t,mg x=some (.str j t):=by obtain⟨_,X,G⟩:=T.ex;exact He.str_ok X G (T.c.o7 i h)
theorem vY:bf P w K mg base (aj w K) k "GREATEST_DEPTH" (.con cQ):=by obtain⟨t,h⟩:=T.int 157;exact KJ h
theorem UL:bf P w K mg base (aj w K) k "FEWEST_EXTRA" (.con jg):=by obtain⟨t,h⟩:=T.int 158;exact KJ h
theorem Ym:bf P w K mg base (aj w K) k "MOST_EXTRA" (.con lu):=by obtain⟨t,h⟩:=T.int 159;exact KJ h
theorem Ja:bf P w K mg base (aj w K) k "GREATEST_ALLOWANCE" (.con gK):=by obtain⟨t,h⟩:=T.int 160;exact KJ h
theorem QD:bf P w K mg base (aj w K) k "PLACES" (.con iU):=adI (T.glo 161) (λH=>He.tupB_ok (He.ba (He.ba T.c.more).1).2 H) rfl rfl
theorem Tw:bf P w K mg base (aj w K) k "BARE_EAR" (.con jk):=adI (T.glo 162) (λH=>He.tupB_ok (He.ba T.c.more).2 H) rfl rfl
theorem QX:bf P w K mg base (aj w K) k "GREATEST_PART" (.con oF):=by obtain⟨t,h⟩:=T.int 163;exact KJ h
theorem afG:bf P w K mg base (aj w K) k "SHAPES" (.dic (zK yI)):=ako (T.glo 156) (He.ba (He.ba (He.ba T.c.more).1).1).2 (T.c.t.tab 0)
theorem R6:bf P w K mg base (aj w K) k "NoGround" .exc:=iH (by rfl) (T.glo 113) (T.c.o7 114)
theorem V3:bf P w K mg base (aj w K) k "NoOwner" .exc:=iH (by rfl) (T.glo 115) (T.c.o7 116)
theorem KH:bf P w K mg base (aj w K) k "NoRight" .exc:=iH (by rfl) (T.glo 117) (T.c.o7 118)
theorem Rp:bf P w K mg base (aj w K) k "HasRight" .exc:=iH (by rfl) (T.glo 119) (T.c.o7 120)
theorem QZ:bf P w K mg base (aj w K) k "NoneFree" .exc:=iH (by rfl) (T.glo 121) (T.c.o7 122)
theorem QS:bf P w K mg base (aj w K) k "BadExtra" .exc:=iH (by rfl) (T.glo 123) (T.c.o7 124)
theorem Vq:bf P w K mg base (aj w K) k "BadAllowance" .exc:=iH (by rfl) (T.glo 125) (T.c.o7 126)
theorem afZ:bf P w K mg base (aj w K) k "BadEar" .exc:=iH (by rfl) (T.glo 128) (T.c.o7 129)
theorem akg:bf P w K mg base (aj w K) k "Bare" .exc:=iH (by rfl) (T.glo 130) (T.c.o7 131)
theorem YK:bf P w K mg base (aj w K) k "StillThere" .exc:=iH (by rfl) (T.glo 132) (T.c.o7 133)
theorem ael:bf P w K mg base (aj w K) k "NoBeast" .exc:=iH (by rfl) (T.glo 134) (T.c.o7 135)
theorem ajN:bf P w K mg base (aj w K) k "Dead" .exc:=iH (by rfl) (T.glo 136) (T.c.o7 137)
theorem acC:bf P w K mg base (aj w K) k "Unmarked" .exc:=iH (by rfl) (T.glo 138) (T.c.o7 139)
theorem aej:bf P w K mg base (aj w K) k "Deepest" .exc:=iH (by rfl) (T.glo 140) (T.c.o7 141)
theorem ac5:bf P w K mg base (aj w K) k "NoPlace" .exc:=iH (by rfl) (T.glo 142) (T.c.o7 143)
theorem Oj:bf P w K mg base (aj w K) k "SameOwner" .exc:=iH (by rfl) (T.glo 144) (T.c.o7 145)
theorem Z6:bf P w K mg base (aj w K) k "SameGround" .exc:=iH (by rfl) (T.glo 146) (T.c.o7 147)
theorem SQ:bf P w K mg base (aj w K) k "Together" .exc:=iH (by rfl) (T.glo 148) (T.c.o7 149)
theorem ahc:bf P w K mg base (aj w K) k "Alone" .exc:=iH (by rfl) (T.glo 150) (T.c.o7 151)
theorem adq:bf P w K mg base (aj w K) k "BadDeed" .exc:=iH (by rfl) (T.glo 152) (T.c.o7 153)
theorem Xv:bf P w K mg base (aj w K) k "CommonError" .exc:=iH (by rfl) (T.glo 154) (T.c.o7 155)
theorem Top.agH:LK K jY=true:=(He.ba (He.ba (He.ba (He.ba (He.ba (He.ba T.c.more).1).1).1).1).1).2
theorem Top.xf:(VN.all λp=>xsH.contains p.1&&Uw K p.1 p.2)=true:=(He.ba (He.ba (He.ba (He.ba T.c.more).1).1).1).2
theorem Top.hs{Ms:List (Str×List (Str×MV))}(h:FT P w K mg base (aj w K) k Ms):Vj P w K mg base (aj w K) k ⟨Ms,jY,xmH,dfH,VN⟩:=alQ h T.agH (He.ba (He.ba (He.ba (He.ba (He.ba T.c.more).1).1).1).1).2 (by rfl) T.xf
theorem Top.cls{c:Str}{fs:List Str}(h:jY.lookup c=some fs:=by rfl):Cls K (He.ga K c):=(Zj T.agH h).1
local macro_rules | `(tactic| nofun)=>`(tactic| first | (exact λ_ _ _ _ _ _ us hl=>match us,hl with | [_],_=>rfl) | (exact λ_ _ _ _ _ _ us hl=>match us,hl with | [_,_],_=>rfl) | (exact λ_ _ _ _ _ _ us hl=>match us,hl with | [_,_,_],_=>rfl) | (exact λ_ _ _ _ _ _ us hl=>match us,hl with | [_,_,_,_],_=>rfl) | (exact λ_ _ _ _ _ _ us hl=>match us,hl with | [_,_,_,_,_],_=>rfl) | (exact λ_ _ _ _ _ _ us hl=>match us,hl with | [_,_,_,_,_,_],_=>rfl) | (exact λ_ _ _ _ _ _ us hl=>match us,hl with | [_,_,_,_,_,_,_],_=>rfl) | (exact λ_ _ _ _ _ _ us hl=>match us,hl with | [_,_,_,_,_,_,_,_],_=>rfl))
theorem vQ(i j:Nat){x:Str}{k0:Nat}(hk:k0+1<=k){st:Stmt}{N ps ml B:List Str}{G:List (Str×GV)}{Ms:List (Str×List (Str×MV))}{body:SF}(h:rX N st G B Ms ml=some body)(g:Dk P w K mg base (aj w K) k0 G)(b:Df mg B)(ms:FT P w K mg base (aj w K) k0 Ms)(hi:fn[i]?=some (dF x st):=by rfl)(hj:fa[j]?=some (.glo x):=by rfl)(S:FnScope N ps (defScope st):=by exact⟨rfl,rfl,rfl,by decide +kernel,rfl,by decide +kernel,by decide +kernel⟩)(hb:∀(kV doc pm:Value) (an:Option Addr) (cdv ct:Value) (us:List Value),us.length=ps.length->bindArgs (PySem.W.fnOf x x (defArgs st) (defBody st) (defScope st) .none kV doc pm an cdv ct) ⟨us,[]⟩=pure (ps.zip us):=by nofun):bf P w K mg base (aj w K) k x (.fq ps.length (mQ N.length body)):=by obtain⟨fd,F⟩:=T.c.WD i hi;exact afB hk (T.glo j hj) F.kp (FunD.bindsN (ps:=ps) F hb) (YS (EY F) S g b (T.hs ms) h)
theorem wQ(i j:Nat){c m q:Str}{k0:Nat}(hk:k0+1<=k){st:Stmt}{N ps ml B:List Str}{G:List (Str×GV)}{Ms:List (Str×List (Str×MV))}{body:SF}(h:rX N st G B Ms ml=some body)(g:Dk P w K mg base (aj w K) k0 G)(b:Df mg B)(ms:FT P w K mg base (aj w K) k0 Ms)(hi:fn[i]?=some (dM c m q st):=by rfl)(hj:fa[j]?=some (.meth c m):=by rfl)(hx:xsH.contains c=true:=by rfl){fs:List Str}(hc:jY.lookup c=some fs:=by rfl)(hf:((jY.lookup c).getD []).contains m=false:=by rfl)(S:FnScope N ps (defScope st):=by exact⟨rfl,rfl,rfl,by decide +kernel,rfl,by decide +kernel,by decide +kernel⟩)(hb:∀(kV doc pm:Value) (an:Option Addr) (cdv ct:Value) (us:List Value),us.length=ps.length->bindArgs (PySem.W.fnOf m q (defArgs st) (defBody st) (defScope st) .none kV doc pm an cdv ct) ⟨us,[]⟩=pure (ps.zip us):=by nofun):bY P w K mg base (aj w K) k c m (.q ps.length (mQ N.length body)):=by obtain⟨fd,F⟩:=T.c.WD i hi;exact anU hk hx (T.cls hc) (T.c.o7 j hj) hf (FunD.bindsN (ps:=ps) F hb) (YS (EY F) S g b (T.hs ms) h)
theorem vG(i j:Nat){x:Str}{k0:Nat}(hk:k0+1<=k){st:Stmt}{N ps ml B:List Str}{G:List (Str×GV)}{Ms:List (Str×List (Str×MV))}{body:SF}(h:rY N st G B Ms ml=some body)(g:Dk P w K mg base (aj w K) k0 G)(b:Df mg B)(ms:FT P w K mg base (aj w K) k0 Ms)(hi:fn[i]?=some (dF x st):=by rfl)(hj:fa[j]?=some (.glo x):=by rfl)(S:FnScope N ps (defScope st):=by exact⟨rfl,rfl,rfl,by decide +kernel,rfl,by decide +kernel,by decide +kernel⟩)(hb:∀(kV doc pm:Value) (an:Option Addr) (cdv ct:Value) (us:List Value),us.length=ps.length->bindArgs (PySem.W.fnOf x x (defArgs st) (defBody st) (defScope st) .none kV doc pm an cdv ct) ⟨us,[]⟩=pure (ps.zip us):=by nofun):bf P w K mg base (aj w K) k x (.fg ps.length (mG N.length body)):=by obtain⟨fd,F⟩:=T.c.WD i hi;exact aof hk (T.glo j hj) F.kp (FunD.bindsN (ps:=ps) F hb) (QH (EY F) S g b (T.hs ms) h)
theorem wG(i j:Nat){c m q:Str}{k0:Nat}(hk:k0+1<=k){st:Stmt}{N ps ml B:List Str}{G:List (Str×GV)}{Ms:List (Str×List (Str×MV))}{body:SF}(h:rY N st G B Ms ml=some body)(g:Dk P w K mg base (aj w K) k0 G)(b:Df mg B)(ms:FT P w K mg base (aj w K) k0 Ms)(hi:fn[i]?=some (dM c m q st):=by rfl)(hj:fa[j]?=some (.meth c m):=by rfl)(hx:xsH.contains c=true:=by rfl){fs:List Str}(hc:jY.lookup c=some fs:=by rfl)(hf:((jY.lookup c).getD []).contains m=false:=by rfl)(S:FnScope N ps (defScope st):=by exact⟨rfl,rfl,rfl,by decide +kernel,rfl,by decide +kernel,by decide +kernel⟩)(hb:∀(kV doc pm:Value) (an:Option Addr) (cdv ct:Value) (us:List Value),us.length=ps.length->bindArgs (PySem.W.fnOf m q (defArgs st) (defBody st) (defScope st) .none kV doc pm an cdv ct) ⟨us,[]⟩=pure (ps.zip us):=by nofun):bY P w K mg base (aj w K) k c m (.g ps.length (mG N.length body)):=by obtain⟨fd,F⟩:=T.c.WD i hi;exact anq hk hx (T.cls hc) (T.c.o7 j hj) hf (FunD.bindsN (ps:=ps) F hb) (QH (EY F) S g b (T.hs ms) h)
theorem vI(i j l:Nat){c q:Str}{n:Nat}{k0:Nat}{st:Stmt}{N ps ml B:List Str}{G:List (Str×GV)}{Ms:List (Str×List (Str×MV))}{body:SF}(h:rY N st G B Ms ml=some body)(g:Dk P w K mg base (aj w K) k0 G)(b:Df mg B)(ms:FT P w K mg base (aj w K) k0 Ms)(hk:k0+1+1<=k)(hi:fn[i]?=some (dM c "__init__" q st):=by rfl)(hj:fa[j]?=some (.mkr c):=by rfl)(hg:fa[l]?=some (.glo c):=by rfl)(hx:xsH.contains c=true:=by rfl){fs:List Str}(hc:jY.lookup c=some fs:=by rfl)(hp:ps.length=n+1:=by rfl)(S:FnScope N ps (defScope st):=by exact⟨rfl,rfl,rfl,by decide +kernel,rfl,by decide +kernel,by decide +kernel⟩)(hb:∀(kV doc pm:Value) (an:Option Addr) (cdv ct:Value) (us:List Value),us.length=ps.length->bindArgs (PySem.W.fnOf "__init__" q (defArgs st) (defBody st) (defScope st) .none kV doc pm an cdv ct) ⟨us,[]⟩=pure (ps.zip us):=by nofun):bf P w K mg base (aj w K) k c (.cls n (mG N.length body)):=by obtain⟨fd,F⟩:=T.c.WD i hi;exact aks hk hx (T.glo l hg) (T.cls hc) (T.c.o7 j hj) hp (FunD.bindsN (ps:=ps) F hb) (QH (EY F) S g b (T.hs ms) h)
theorem aaZ(hk:2<=k):bf P w K mg base (aj w K) k "Clash" (.exi ["ones","others","ear"]):=by
 have ho:Uw K "Clash" ["ones","others","ear"]=true:=(He.ba (asj.mp T.xf _ (show(("Clash" : Str),(["ones","others","ear"]:List Str))∈VN by simp[VN]))).2
 obtain⟨o1,o2,o3,o4,o5⟩:=T9 ho;obtain⟨fd,F⟩:=T.c.WD 108;have b:=FunD.bindsN (ps:=["self","ones","others","ear"]) F λ_ _ _ _ _ _ us hl=>match us,hl with|[_,_,_,_],_=>rfl
 exact akE hk (by rfl) (T.glo 127) ho rfl b (adx (EY F) Xy o1 (by rfl) (by decide) (o5 _ (by decide)) (o5 _ (by decide)) (o5 _ (by decide)))
theorem aeS(hk:2<=k:=by omega):bf P w K mg base (aj w K) k "Grounds" (.cls 0 uJ):=vI T 0 0 108 (ps:=["self"]) T5 trivial trivial trivial hk
theorem afF(hk:2<=k:=by omega):bf P w K mg base (aj w K) k "Rights" (.cls 0 vB):=vI T 1 1 109 (ps:=["self"]) Xl trivial trivial trivial hk
theorem alG(hk:2<=k:=by omega):bf P w K mg base (aj w K) k "Herd" (.cls 0 zN):=vI T 2 2 110 (ps:=["self"]) aay trivial trivial trivial hk
theorem aeK(hk:4<=k:=by omega):bf P w K mg base (aj w K) k "Commons" (.cls 0 mV):=vI T 3 3 111 (ps:=["self"]) Vp ⟨alG T,afF T,aeS T,atm⟩ trivial trivial hk
theorem Gn(hk:1<=k:=by omega):bY P w K mg base (aj w K) k "Beast" "stand" (.q 1 vN):=wQ T 4 4 hk (ps:=["self"]) Xj trivial trivial trivial
theorem Xk(hk:2<=k:=by omega):bY P w K mg base (aj w K) k "Beast" "told" (.q 1 xJ):=wQ T 5 5 hk (ps:=["self"]) Yx trivial ⟨T.free 164,atm⟩ ⟨⟨Gn T,atm⟩,atm⟩
theorem Oc(hk:1<=k:=by omega):bY P w K mg base (aj w K) k "Commons" "owners" (.q 1 qT):=wQ T 6 6 hk (ps:=["self"]) Pn trivial ⟨T.free 165,atm⟩ trivial
theorem Ma(hk:1<=k:=by omega):bY P w K mg base (aj w K) k "Rights" "all_rows" (.q 1 pq):=wQ T 7 7 hk (ps:=["self"]) Od trivial ⟨T.free 165,atm⟩ trivial
theorem xH(hk:1<=k:=by omega):bY P w K mg base (aj w K) k "Grounds" "many" (.q 1 pU):=wQ T 8 8 hk (ps:=["self"]) UG trivial ⟨T.free 166,atm⟩ trivial
theorem Uv(hk:2<=k:=by omega):bY P w K mg base (aj w K) k "Grounds" "has" (.q 2 vM):=wQ T 9 9 hk (ps:=["self","ground"]) Xf trivial trivial ⟨⟨xH T,atm⟩,atm⟩
theorem ig(hk:3<=k:=by omega):bY P w K mg base (aj w K) k "Grounds" "need" (.q 2 uO):=wQ T 10 10 hk (ps:=["self","ground"]) Uk ⟨R6 T,atm⟩ trivial ⟨⟨Uv T,atm⟩,atm⟩
theorem wX(hk:4<=k:=by omega):bY P w K mg base (aj w K) k "Grounds" "allowance" (.q 2 jO):=wQ T 11 11 hk (ps:=["self","ground"]) Kl trivial trivial ⟨⟨ig T,atm⟩,atm⟩
theorem nH(hk:4<=k:=by omega):bY P w K mg base (aj w K) k "Grounds" "together" (.q 2 kJ):=wQ T 12 12 hk (ps:=["self","ground"]) Kv trivial ⟨T.free 165,atm⟩ ⟨⟨ig T,atm⟩,atm⟩
theorem rQ(hk:5<=k:=by omega):bY P w K mg base (aj w K) k "Commons" "together" (.q 2 j8):=wQ T 13 13 hk (ps:=["self","ground"]) Mf trivial trivial ⟨⟨nH T,atm⟩,atm⟩
theorem Ra(hk:6<=k:=by omega):bY P w K mg base (aj w K) k "Commons" "look" (.q 1 mJ):=wQ T 14 14 hk (ps:=["self"]) Vs trivial ⟨T.free 167,T.free 164,atm⟩ ⟨⟨Ma T,atm⟩,⟨Oc T,atm⟩,⟨Xk T,atm⟩,⟨xH T,atm⟩,⟨rQ T,atm⟩,⟨wX T,atm⟩,atm⟩
theorem acE(hk:1<=k:=by omega):bf P w K mg base (aj w K) k "_law_row" (.fq 3 vD):=vQ T 15 15 hk (ps:=["_law_cell_here","_law_many","_law_base"]) amM trivial ⟨T.free 167,T.free 168,atm⟩ trivial
theorem ZL(hk:1<=k:=by omega):bf P w K mg base (aj w K) k "_law_ear_by" (.fq 2 tM):=vQ T 16 16 hk (ps:=["_law_figures","_law_mode"]) afL trivial ⟨T.free 164,T.free 169,atm⟩ trivial
theorem agJ(hk:2<=k:=by omega):bf P w K mg base (aj w K) k "_law_ear" (.fq 1 JB):=vQ T 17 17 hk (ps:=["_law_cell_here"]) amY ⟨ZL T,acE T,atm⟩ trivial trivial
theorem aaY(hk:1<=k:=by omega):bf P w K mg base (aj w K) k "_law_begun" (.fq 1 vo):=vQ T 18 18 hk (ps:=["_law_head"]) aaE trivial trivial trivial
theorem adk(hk:1<=k:=by omega):bf P w K mg base (aj w K) k "_law_word_by" (.fq 1 Aq):=vQ T 19 19 hk (ps:=["_law_figure"]) adR trivial trivial trivial
theorem gA(hk:1<=k:=by omega):bY P w K mg base (aj w K) k "Commons" "need_owner" (.q 2 ju):=wQ T 20 20 hk (ps:=["self","owner"]) Jv ⟨V3 T,atm⟩ trivial trivial
theorem sJ(hk:1<=k:=by omega):bY P w K mg base (aj w K) k "Rights" "marks" (.q 3 uz):=wQ T 21 21 hk (ps:=["self","owner","ground"]) U8 trivial trivial trivial
theorem Km(hk:2<=k:=by omega):bY P w K mg base (aj w K) k "Rights" "has_right" (.q 3 oH):=wQ T 22 22 hk (ps:=["self","owner","ground"]) K6 trivial ⟨T.free 166,atm⟩ ⟨⟨sJ T,atm⟩,atm⟩
theorem iW(hk:3<=k:=by omega):bY P w K mg base (aj w K) k "Commons" "need_right" (.q 3 mj):=wQ T 23 23 hk (ps:=["self","owner","ground"]) JC ⟨KH T,atm⟩ trivial ⟨⟨Km T,atm⟩,atm⟩
theorem yj(hk:1<=k:=by omega):bY P w K mg base (aj w K) k "Commons" "new_owner" (.g 1 iD):=wG T 24 24 hk (ps:=["self"]) Ke trivial trivial trivial
theorem yC(hk:1<=k:=by omega):bY P w K mg base (aj w K) k "Rights" "add_right" (.g 4 iZ):=wG T 25 25 hk (ps:=["self","owner","ground","mark"]) MP ⟨Rp T,atm⟩ trivial trivial
theorem ajf(hk:1<=k:=by omega):bf P w K mg base (aj w K) k "torn" (.fq 2 Ks):=vQ T 26 26 hk (ps:=["ear","many"]) ajP ⟨vY T,atm⟩ ⟨T.free 167,T.free 170,atm⟩ trivial
theorem abv(hk:1<=k:=by omega):bf P w K mg base (aj w K) k "lacks" (.fq 2 ux):=vQ T 27 27 hk (ps:=["one","other"]) ahn trivial ⟨T.free 171,T.free 172,atm⟩ trivial
theorem Ou(hk:2<=k:=by omega):bf P w K mg base (aj w K) k "offspring" (.fq 2 oX):=vQ T 28 28 hk (ps:=["mark","extra"]) aaM ⟨abv T,ajf T,atm⟩ trivial trivial
theorem aic(hk:2<=k:=by omega):bf P w K mg base (aj w K) k "apart" (.fq 2 Hj):=vQ T 29 29 hk (ps:=["one","other"]) aht ⟨abv T,atm⟩ ⟨T.free 169,atm⟩ trivial
theorem Yv(hk:3<=k:=by omega):bf P w K mg base (aj w K) k "meet" (.fq 3 rH):=vQ T 30 30 hk (ps:=["one","other","room"]) aj4 ⟨aic T,atm⟩ trivial trivial
theorem Yg(hk:4<=k:=by omega):bf P w K mg base (aj w K) k "first_free" (.fq 4 pY):=vQ T 31 31 hk (ps:=["mark","extra","rows","room"]) YL ⟨QZ T,Ou T,Yv T,trivial⟩ ⟨T.free 173,trivial⟩ trivial
theorem pZ(hk:2<=k:=by omega):bY P w K mg base (aj w K) k "Commons" "first_mark" (.q 3 lU):=wQ T 32 32 hk (ps:=["self","owner","ground"]) JD trivial trivial ⟨⟨sJ T,trivial⟩,trivial⟩
theorem Qo(hk:1<=k:=by omega):bf P w K mg base (aj w K) k "tidied" (.fq 1 qw):=vQ T 33 33 hk (ps:=["rows"]) afS trivial ⟨T.free 174,T.free 175,atm⟩ trivial
theorem tY(hk:1<=k:=by omega):bY P w K mg base (aj w K) k "Herd" "all_living" (.q 1 pC):=wQ T 34 34 hk (ps:=["self"]) Oa trivial ⟨T.free 176,atm⟩ trivial
theorem Ew(hk:2<=k:=by omega):bY P w K mg base (aj w K) k "Herd" "grazing" (.q 2 pG):=wQ T 35 35 hk (ps:=["self","grounds"]) TX trivial trivial ⟨⟨tY T,atm⟩,atm⟩
theorem Im(hk:1<=k:=by omega):bY P w K mg base (aj w K) k "Rights" "in_grounds" (.q 2 nJ):=wQ T 36 36 hk (ps:=["self","grounds"]) Kg trivial trivial trivial
theorem uR(hk:6<=k:=by omega):bY P w K mg base (aj w K) k "Commons" "standing_but" (.q 3 iJ):=wQ T 37 37 hk (ps:=["self","left_out","ground"]) Fy ⟨Qo T,atm⟩ trivial ⟨⟨Im T,atm⟩,⟨Ew T,atm⟩,⟨rQ T,atm⟩,atm⟩
theorem rZ(hk:7<=k:=by omega):bY P w K mg base (aj w K) k "Commons" "standing" (.q 2 lg):=wQ T 38 38 hk (ps:=["self","ground"]) MN trivial trivial ⟨⟨uR T,atm⟩,atm⟩
theorem RD(hk:5<=k:=by omega):bY P w K mg base (aj w K) k "Grounds" "room" (.q 2 pO):=wQ T 39 39 hk (ps:=["self","ground"]) Ut trivial ⟨T.free 169,atm⟩ ⟨⟨nH T,atm⟩,⟨wX T,atm⟩,atm⟩
theorem sH(hk:6<=k:=by omega):bY P w K mg base (aj w K) k "Commons" "room" (.q 2 pQ):=wQ T 40 40 hk (ps:=["self","ground"]) Ui trivial trivial ⟨⟨RD T,atm⟩,atm⟩
theorem yx(hk:8<=k:=by omega):bY P w K mg base (aj w K) k "Commons" "new_heir" (.g 4 cV):=wG T 41 41 hk (ps:=["self","elder","ground","extra"]) Mq ⟨Yg T,QS T,UL T,Ym T,atm⟩ trivial ⟨⟨yC T,atm⟩,⟨yj T,atm⟩,⟨sH T,atm⟩,⟨rZ T,atm⟩,⟨pZ T,atm⟩,⟨iW T,atm⟩,⟨ig T,atm⟩,⟨gA T,atm⟩,atm⟩
theorem GD(hk:2<=k:=by omega):bY P w K mg base (aj w K) k "Grounds" "add_ground" (.g 2 fj):=wG T 42 42 hk (ps:=["self","allowance"]) IW ⟨Vq T,Ja T,atm⟩ trivial ⟨⟨xH T,atm⟩,atm⟩
theorem Hr(hk:3<=k:=by omega):bY P w K mg base (aj w K) k "Commons" "new_ground" (.g 2 gM):=wG T 43 43 hk (ps:=["self","allowance"]) IK trivial trivial ⟨⟨GD T,atm⟩,atm⟩
theorem aeR(hk:4<=k:=by omega):bf P w K mg base (aj w K) k "barring" (.fq 4 Am):=vQ T 44 44 hk (ps:=["owner","ear","rows","room"]) adp ⟨Yv T,Qo T,atm⟩ trivial trivial
theorem Nh(hk:1<=k:=by omega):bf P w K mg base (aj w K) k "joint" (.fq 2 qj):=vQ T 45 45 hk (ps:=["one","other"]) ahR trivial ⟨T.free 164,T.free 172,T.free 169,atm⟩ trivial
theorem QK(hk:5<=k:=by omega):bf P w K mg base (aj w K) k "ask_room" (.fq 4 oU):=vQ T 46 46 hk (ps:=["owner","ear","rows","room"]) acO ⟨aaZ T (by decide),Nh T,aeR T,atm⟩ trivial trivial
theorem pP(hk:8<=k:=by omega):bY P w K mg base (aj w K) k "Commons" "ask_ground" (.q 4 gJ):=wQ T 47 47 hk (ps:=["self","owner","ear","ground"]) Jg ⟨QK T,atm⟩ trivial ⟨⟨sH T,atm⟩,⟨rZ T,atm⟩,atm⟩
theorem aau(hk:1<=k:=by omega):bf P w K mg base (aj w K) k "is_ear" (.fq 1 ug):=vQ T 48 48 hk (ps:=["parts"]) afX ⟨vY T,QD T,atm⟩ ⟨T.free 177,T.free 166,atm⟩ trivial
theorem QL(hk:2<=k:=by omega):bf P w K mg base (aj w K) k "need_ear" (.fq 1 qJ):=vQ T 49 49 hk (ps:=["parts"]) acG ⟨afZ T,aau T,atm⟩ trivial trivial
theorem Qh(hk:9<=k:=by omega):bY P w K mg base (aj w K) k "Commons" "enrol" (.g 4 dR):=wG T 50 50 hk (ps:=["self","owner","ground","mark"]) Rg ⟨Rp T,akg T,Tw T,QL T,atm⟩ trivial ⟨⟨yC T,atm⟩,⟨pP T,atm⟩,⟨sJ T,atm⟩,⟨ig T,atm⟩,⟨gA T,atm⟩,atm⟩
theorem TF(hk:2<=k:=by omega):bY P w K mg base (aj w K) k "Rights" "drop" (.g 3 nR):=wG T 51 51 hk (ps:=["self","owner","ground"]) XC ⟨KH T,atm⟩ trivial ⟨⟨sJ T,atm⟩,atm⟩
theorem Qt(hk:4<=k:=by omega):bY P w K mg base (aj w K) k "Commons" "leave" (.g 3 fX):=wG T 52 52 hk (ps:=["self","owner","ground"]) RN ⟨YK T,atm⟩ ⟨T.free 173,atm⟩ ⟨⟨TF T,atm⟩,⟨Ew T,atm⟩,⟨iW T,atm⟩,⟨ig T,atm⟩,⟨gA T,atm⟩,atm⟩
theorem Bs(hk:1<=k:=by omega):bY P w K mg base (aj w K) k "Beast" "stand_so" (.g 2 mX):=wG T 53 53 hk (ps:=["self","stand"]) Ql trivial trivial trivial
theorem ahM(hk:1<=k:=by omega):bf P w K mg base (aj w K) k "begun" (.fq 1 Cd):=vQ T 54 54 hk (ps:=["first"]) ait ⟨Tw T,trivial⟩ trivial trivial
theorem ah2(hk:3<=k:=by omega):bf P w K mg base (aj w K) k "Beast" (.cls 1 tO):=vI T 55 55 112 (ps:=["self","first"]) aah ⟨ahM T,trivial⟩ trivial ⟨⟨Bs T,trivial⟩,trivial⟩ hk
theorem Bv(hk:4<=k:=by omega):bY P w K mg base (aj w K) k "Herd" "add_beast" (.g 2 qI):=wG T 56 56 hk (ps:=["self","first"]) Qw ⟨ah2 T,trivial⟩ ⟨T.free 166,trivial⟩ trivial
theorem Pa(hk:5<=k:=by omega):bY P w K mg base (aj w K) k "Commons" "bring" (.g 4 fY):=wG T 57 57 hk (ps:=["self","owner","ground","ear"]) Sy ⟨QL T,atm⟩ trivial ⟨⟨Bv T,atm⟩,⟨iW T,atm⟩,⟨ig T,atm⟩,⟨gA T,atm⟩,atm⟩
theorem Bg(hk:1<=k:=by omega):bY P w K mg base (aj w K) k "Herd" "known" (.q 2 kW):=wQ T 58 58 hk (ps:=["self","number"]) YG ⟨ael T,atm⟩ ⟨T.free 166,atm⟩ trivial
theorem uK(hk:2<=k:=by omega):bY P w K mg base (aj w K) k "Herd" "living" (.q 2 rE):=wQ T 59 59 hk (ps:=["self","number"]) Xd ⟨ajN T,atm⟩ trivial ⟨⟨Bg T,atm⟩,atm⟩
theorem yH(hk:3<=k:=by omega):bY P w K mg base (aj w K) k "Herd" "marked" (.q 2 nQ):=wQ T 60 60 hk (ps:=["self","number"]) Xh ⟨acC T,atm⟩ trivial ⟨⟨uK T,atm⟩,atm⟩
theorem Rk(hk:5<=k:=by omega):bY P w K mg base (aj w K) k "Commons" "bear" (.g 2 iY):=wG T 61 61 hk (ps:=["self","mother"]) U7 trivial trivial ⟨⟨Bv T,atm⟩,⟨yH T,atm⟩,atm⟩
theorem acA(hk:1<=k:=by omega):bf P w K mg base (aj w K) k "deepened" (.fq 2 yq):=vQ T 62 62 hk (ps:=["ear","place"]) acv trivial ⟨T.free 164,T.free 176,atm⟩ trivial
theorem aeY(hk:2<=k:=by omega):bf P w K mg base (aj w K) k "gone_on" (.fq 2 Ae):=vQ T 63 63 hk (ps:=["stand","event"]) adb ⟨acA T,atm⟩ trivial trivial
theorem jB(hk:3<=k:=by omega):bY P w K mg base (aj w K) k "Beast" "befall" (.g 2 mH):=wG T 64 64 hk (ps:=["self","event"]) TY ⟨aeY T,atm⟩ trivial ⟨⟨Bs T,atm⟩,⟨Gn T,atm⟩,atm⟩
theorem T6(hk:9<=k:=by omega):bY P w K mg base (aj w K) k "Commons" "cut" (.g 2 jH):=wG T 65 65 hk (ps:=["self","beast"]) Xn ⟨Nh T,atm⟩ trivial ⟨⟨jB T,atm⟩,⟨pP T,atm⟩,⟨pZ T,atm⟩,⟨uK T,atm⟩,atm⟩
theorem Rx(hk:4<=k:=by omega):bY P w K mg base (aj w K) k "Commons" "tear" (.g 3 fL):=wG T 66 66 hk (ps:=["self","beast","place"]) Uu ⟨aej T,vY T,ac5 T,QD T,atm⟩ ⟨T.free 166,atm⟩ ⟨⟨jB T,atm⟩,⟨uK T,atm⟩,atm⟩
theorem Ul(hk:2<=k:=by omega):bY P w K mg base (aj w K) k "Herd" "calves" (.q 2 rB):=wQ T 67 67 hk (ps:=["self","mother"]) XH trivial trivial ⟨⟨tY T,atm⟩,⟨Bg T,atm⟩,atm⟩
theorem yw(hk:4<=k:=by omega):bY P w K mg base (aj w K) k "Herd" "lead_calves" (.g 2 oA):=wG T 68 68 hk (ps:=["self","mother"]) Lf trivial trivial ⟨⟨Ul T,atm⟩,⟨jB T,atm⟩,⟨Bg T,atm⟩,atm⟩
theorem RQ(hk:7<=k:=by omega):bY P w K mg base (aj w K) k "Commons" "sell" (.g 3 dJ):=wG T 69 69 hk (ps:=["self","beast","buyer"]) U9 ⟨QK T,Nh T,Oj T,atm⟩ trivial ⟨⟨yw T,atm⟩,⟨jB T,atm⟩,⟨sH T,atm⟩,⟨uR T,atm⟩,⟨pZ T,atm⟩,⟨iW T,atm⟩,⟨gA T,atm⟩,⟨yH T,atm⟩,atm⟩
theorem Td(hk:9<=k:=by omega):bY P w K mg base (aj w K) k "Commons" "move" (.g 3 dI):=wG T 70 70 hk (ps:=["self","beast","ground"]) Vy ⟨Z6 T,atm⟩ trivial ⟨⟨yw T,atm⟩,⟨jB T,atm⟩,⟨pP T,atm⟩,⟨iW T,atm⟩,⟨ig T,atm⟩,⟨yH T,atm⟩,atm⟩
theorem Ur(hk:4<=k:=by omega):bY P w K mg base (aj w K) k "Commons" "die" (.g 2 lG):=wG T 71 71 hk (ps:=["self","beast"]) Xm trivial trivial ⟨⟨jB T,atm⟩,⟨uK T,atm⟩,atm⟩
theorem acu(hk:4<=k:=by omega):bf P w K mg base (aj w K) k "clashing" (.fq 2 uD):=vQ T 72 72 hk (ps:=["rows","room"]) acs ⟨Yv T,Qo T,atm⟩ ⟨T.free 176,atm⟩ trivial
theorem Ko(hk:8<=k:=by omega):bY P w K mg base (aj w K) k "Commons" "quarrels" (.q 3 kE):=wQ T 73 73 hk (ps:=["self","ground","other"]) M4 ⟨acu T,atm⟩ ⟨T.free 169,atm⟩ ⟨⟨rZ T,atm⟩,⟨sH T,atm⟩,atm⟩
theorem Ai(hk:1<=k:=by omega):bY P w K mg base (aj w K) k "Grounds" "enclose" (.g 2 lQ):=wG T 74 74 hk (ps:=["self","grounds"]) Oh trivial ⟨T.free 164,atm⟩ trivial
theorem Qq(hk:5<=k:=by omega):bY P w K mg base (aj w K) k "Grounds" "unite" (.g 3 lB):=wG T 75 75 hk (ps:=["self","ground","other"]) R7 ⟨SQ T,atm⟩ ⟨T.free 174,atm⟩ ⟨⟨Ai T,atm⟩,⟨nH T,atm⟩,atm⟩
theorem Qv(hk:9<=k:=by omega):bY P w K mg base (aj w K) k "Commons" "unite" (.g 3 gj):=wG T 76 76 hk (ps:=["self","ground","other"]) Rq ⟨aaZ T (by decide),Nh T,SQ T,atm⟩ trivial ⟨⟨Qq T,atm⟩,⟨Ko T,atm⟩,⟨rQ T,atm⟩,⟨ig T,atm⟩,atm⟩
theorem Q7(hk:5<=k:=by omega):bY P w K mg base (aj w K) k "Grounds" "part" (.g 2 jd):=wG T 77 77 hk (ps:=["self","ground"]) Vb ⟨ahc T,atm⟩ trivial ⟨⟨Ai T,atm⟩,⟨nH T,atm⟩,atm⟩
theorem Ri(hk:6<=k:=by omega):bY P w K mg base (aj w K) k "Commons" "part" (.g 2 jU):=wG T 78 78 hk (ps:=["self","ground"]) T7 trivial trivial ⟨⟨Q7 T,atm⟩,atm⟩
theorem Kf(hk:1<=k:=by omega):bY P w K mg base (aj w K) k "Rights" "hand_over" (.g 3 oK):=wG T 79 79 hk (ps:=["self","elder","heir"]) Ln trivial trivial trivial
theorem Xz(hk:2<=k:=by omega):bY P w K mg base (aj w K) k "Herd" "owned" (.q 2 wM):=wQ T 80 80 hk (ps:=["self","owner"]) ZV trivial trivial ⟨⟨tY T,atm⟩,atm⟩
theorem Mu(hk:4<=k:=by omega):bY P w K mg base (aj w K) k "Commons" "pass_on" (.g 3 fQ):=wG T 81 81 hk (ps:=["self","elder","heir"]) Oi ⟨Oj T,atm⟩ trivial ⟨⟨jB T,atm⟩,⟨Xz T,atm⟩,⟨Kf T,atm⟩,⟨gA T,atm⟩,atm⟩
theorem aaA(hk:2<=k:=by omega):bf P w K mg base (aj w K) k "part_fits" (.fq 2 iI):=vQ T 82 82 hk (ps:=["kind","part"]) aaK ⟨QD T,QX T,aau T,atm⟩ ⟨T.free 178,T.free 179,T.free 166,T.free 164,atm⟩ trivial
theorem ajA(hk:3<=k:=by omega):bf P w K mg base (aj w K) k "fits" (.fq 1 Hh):=vQ T 83 83 hk (ps:=["deed"]) akZ ⟨aaA T,afG T,atm⟩ ⟨T.free 177,T.free 172,T.free 166,atm⟩ trivial
theorem XF(hk:10<=k:=by omega):bY P w K mg base (aj w K) k "Commons" "do" (.g 2 cP):=wG T 84 84 hk (ps:=["self","deed"]) ZK ⟨adq T,ajA T,atm⟩ trivial ⟨⟨yx T,atm⟩,⟨Mu T,atm⟩,⟨Ri T,atm⟩,⟨Qv T,atm⟩,⟨Ur T,atm⟩,⟨Td T,atm⟩,⟨RQ T,atm⟩,⟨Rx T,atm⟩,⟨T6 T,atm⟩,⟨Rk T,atm⟩,⟨Pa T,atm⟩,⟨Qt T,atm⟩,⟨Qh T,atm⟩,⟨Hr T,atm⟩,⟨yj T,atm⟩,atm⟩
theorem ajk(hk:11<=k:=by omega):bf P w K mg base (aj w K) k "_law_done" (.fg 3 qW):=vG T 85 85 hk (ps:=["_law_house","_law_deed_here","_law_counts"]) alq ⟨Xv T,atm⟩ trivial ⟨⟨XF T,atm⟩,atm⟩
theorem alc(hk:1<=k:=by omega):bf P w K mg base (aj w K) k "_law_near" (.fq 2 MJ):=vQ T 86 86 hk (ps:=["_law_ear_here","_law_figures"]) aj3 trivial ⟨T.free 164,T.free 172,T.free 169,T.free 170,atm⟩ trivial
theorem ac3(hk:2<=k:=by omega):bf P w K mg base (aj w K) k "_law_mark_by" (.fq 3 wA):=vQ T 87 87 hk (ps:=["_law_figures","_law_mode","_law_base"]) aef ⟨ZL T,alc T,atm⟩ trivial trivial
theorem amA(hk:1<=k:=by omega):bf P w K mg base (aj w K) k "_law_ref" (.fq 3 jJ):=vQ T 88 88 hk (ps:=["_law_figure","_law_many","_law_sure"]) amB trivial ⟨T.free 169,atm⟩ trivial
theorem ae4(hk:3<=k:=by omega):bf P w K mg base (aj w K) k "_law_deed" (.fq 6 fG):=vQ T 89 89 hk (ps:=["_law_word","_law_one","_law_two","_law_parts","_law_counts","_law_base"]) ajr ⟨amA T,ac3 T,atm⟩ ⟨T.free 179,atm⟩ trivial
theorem ajj(hk:12<=k:=by omega):bf P w K mg base (aj w K) k "_law_play" (.fg 3 CV):=vG T 90 90 hk (ps:=["_law_house","_law_cells","_law_head"]) ajd ⟨ajk T,ae4 T,adk T,acE T,aaY T,agJ T,atm⟩ ⟨T.free 167,T.free 176,T.free 166,atm⟩ trivial
theorem ajc(hk:1<=k:=by omega):bf P w K mg base (aj w K) k "_law_cell" (.fq 2 u5):=vQ T 91 91 hk (ps:=["_law_script","_law_k"]) aj9 trivial ⟨T.free 166,atm⟩ trivial
theorem aie(hk:4<=k:=by omega):bf P w K mg base (aj w K) k "_law_asked" (.fq 4 Cy):=vQ T 92 92 hk (ps:=["_law_word","_law_cell_here","_law_counts","_law_head"]) ahz ⟨ae4 T,agJ T,acE T,atm⟩ trivial trivial
theorem v_cut(hk:1<=k:=by omega):bf P w K mg base (aj w K) k "_law_cut" (.fq 1 Nr):=vQ T 93 93 hk (ps:=["_law_cell_here"]) alT trivial trivial trivial
theorem am2(hk:2<=k:=by omega):bf P w K mg base (aj w K) k "_law_raw" (.fq 3 Ea):=vQ T 94 94 hk (ps:=["_law_value","_law_cell_here","_law_turn"]) amk ⟨v_cut T,atm⟩ trivial trivial
theorem ajU(hk:1<=k:=by omega):bf P w K mg base (aj w K) k "_law_once" (.fq 1 KZ):=vQ T 95 95 hk (ps:=["_law_rows"]) aja trivial ⟨T.free 174,atm⟩ trivial
theorem aeH(hk:2<=k:=by omega):bf P w K mg base (aj w K) k "_law_rows_of" (.fq 3 Ar):=vQ T 96 96 hk (ps:=["_law_stand","_law_grounds","_law_but"]) adJ ⟨ajU T,atm⟩ ⟨T.free 176,atm⟩ trivial
theorem ac1(hk:1<=k:=by omega):bf P w K mg base (aj w K) k "_law_room_of" (.fq 2 zY):=vQ T 97 97 hk (ps:=["_law_stand","_law_ground"]) adU trivial ⟨T.free 169,atm⟩ trivial
theorem ah8(hk:1<=k:=by omega):bf P w K mg base (aj w K) k "_law_tears" (.fq 2 Cm):=vQ T 98 98 hk (ps:=["_law_one","_law_other"]) aiz trivial ⟨T.free 171,T.free 172,T.free 169,atm⟩ trivial
theorem amP(hk:2<=k:=by omega):bf P w K mg base (aj w K) k "_law_far" (.fq 2 NQ):=vQ T 99 99 hk (ps:=["_law_one","_law_other"]) alS ⟨ah8 T,atm⟩ ⟨T.free 169,atm⟩ trivial
theorem aiE(hk:3<=k:=by omega):bf P w K mg base (aj w K) k "_law_least" (.fq 4 Cg):=vQ T 100 100 hk (ps:=["_law_stand","_law_ground","_law_mark","_law_extra"]) ahb ⟨Ou T,amP T,ac1 T,aeH T,atm⟩ ⟨T.free 170,atm⟩ trivial
theorem Uo(hk:1<=k:=by omega):bf P w K mg base (aj w K) k "_law_ground_there" (.fq 2 pW):=vQ T 101 101 hk (ps:=["_law_stand","_law_ground"]) Vt trivial ⟨T.free 166,atm⟩ trivial
theorem ab7(hk:1<=k:=by omega):bf P w K mg base (aj w K) k "_law_marks_of" (.fq 3 uH):=vQ T 102 102 hk (ps:=["_law_stand","_law_owner","_law_ground"]) acP trivial trivial trivial
theorem amI(hk:4<=k:=by omega):bf P w K mg base (aj w K) k "_law_due" (.fq 5 w6):=vQ T 103 103 hk (ps:=["_law_stand","_law_elder","_law_ground","_law_extra","_law_heir"]) alR ⟨aiE T,ab7 T,Uo T,atm⟩ trivial trivial
theorem aiY(hk:9<=k:=by omega):bf P w K mg base (aj w K) k "_law_tell" (.fg 4 Gy):=vG T 104 104 hk (ps:=["_law_house","_law_elder","_law_ground","_law_extra"]) ak4 ⟨V3 T,R6 T,QS T,KH T,QZ T,atm⟩ trivial ⟨⟨yx T,atm⟩,atm⟩
theorem ahi(hk:1<=k:=by omega):bf P w K mg base (aj w K) k "_law_whole" (.fq 1 Ge):=vQ T 105 105 hk (ps:=["_law_found"]) ahe trivial ⟨T.free 178,T.free 180,T.free 179,atm⟩ trivial
theorem alF(hk:12<=k:=by omega):bf P w K mg base (aj w K) k "_law_like" (.fq 2 (lJ 10)):=by
 obtain⟨fd,F⟩:=T.c.WD 106;have b:=FunD.bindsN (ps:=["_law_found","_law_due_here"]) F λ_ _ _ _ _ _ us hl=>match us,hl with|[_,_],_=>rfl
 have key:∀j:Nat,FnOk P w K mg base (L2.CX P w) (2+j) (He.ga K "_law_like") fd ["_law_found","_law_due_here"] (W0 K (aj w K) 2 (lJ j)):=by
  intro j
  induction j with
  |zero=>exact aln
  |succ j ih'=>
   have ih:∀{k:Nat},2+j<=k->bf P w K mg base (aj w K) k "_law_like" (.fq 2 (lJ j)):=λhk=>afB hk (T.glo 106) F.kp (b) ih'
   refine YS (k:=2+j) (EY F) ais ?_ ?_ ?_ (akP (lJ j))
   ·exact⟨ih (asn _),ahi T,atm⟩
   ·exact⟨T.free 172,T.free 166,T.free 178,T.free 165,T.free 164,T.free 181,T.free 179,atm⟩
   ·exact T.hs trivial
 exact afB hk (T.glo 106) F.kp (b) (key 10)
theorem alU{fd:FuncData}(F:FunD K "law" "law" (defArgs NK) (defBody NK) (defScope NK) [] [] (He.ga K "law") fd):FnOk P w K mg base (L2.CX P w) 13 (He.ga K "law") fd ["_law_script"] (J9 K (aj w K) 1 Je):=by
 refine QH (k:=12) (EY F) alL ?_ ?_ ?_ amS
 ·exact⟨alF T,aiY T,amI T,am2 T,aie T,ajc T,ajj T,aeK T,atm⟩
 ·exact⟨T.free 168,atm⟩
 ·exact T.hs ⟨⟨Ra T,atm⟩,atm⟩
end
def digs(b:Int):Nat->Int->List Int
 |0,_=>[]
 |n+1,c=>c % b::digs b n (c / b)
def Oq(b:Int):Nat->Int->Int->List Int
 |0,_,_=>[]
 |n+1,k,t=>((t * 48271+9973 * k+11) % 2147483647 / 1021 % b)::Oq b n (k+1) ((t * 48271+9973 * k+11) % 2147483647)
def Bb(c:Int):Int:=if c < 0 then -c else c
def rowOf(c:Int)(n:Nat)(b:Int):List Int:=if 10 ^ 18<=Bb c then digs b n (Bb c) else Oq b n 0 ((Bb c % 1000003+17) * 69621 % 2147483647)
theorem Yz(b:Int):∀n c,(digs b n c).length=n
 |0,_=>rfl
 |n+1,c=>by simp[digs,Yz b n]
theorem abY(b:Int):∀n k t,(Oq b n k t).length=n
 |0,_,_=>rfl
 |n+1,k,t=>by simp[Oq,abY b n]
theorem abn{b:Int}(hb:0 < b):∀n c,∀x∈digs b n c,0<=x/\x < b
 |0,_,x,h=>by simp[digs]at h
 |n+1,c,x,h=>by
  rcases ar4.mp h with rfl|h
  ·exact⟨Int.emod_nonneg _ (by omega),Int.emod_lt_of_pos _ hb⟩
  ·exact abn hb n _ x h
theorem aec{b:Int}(hb:0 < b):∀n k t,∀x∈Oq b n k t,0<=x/\x < b
 |0,_,_,x,h=>by simp[Oq]at h
 |n+1,k,t,x,h=>by
  rcases ar4.mp h with rfl|h
  ·exact⟨Int.emod_nonneg _ (by omega),Int.emod_lt_of_pos _ hb⟩
  ·exact aec hb n _ _ x h
@[simp]theorem abU (c:Int) (n:Nat) (b:Int):(rowOf c n b).length=n:=by
 unfold rowOf;split
 ·exact Yz ..
 ·exact abY ..
theorem aeF{b:Int}(hb:0 < b)(c:Int)(n:Nat):∀x∈rowOf c n b,0<=x/\x < b:=by
 unfold rowOf;split
 ·exact abn hb _ _
 ·exact aec hb _ _ _
@[simp]theorem abe (M:Mo) (ns:List Int) (k:Nat):u5 M [lI ns,.int k]=.ok (.int (ns.getD k 0)):=by
 unfold u5 Zt;by_cases h:k < ns.length
 ·simp[h,atI,ixN]
 ·simp[h]
theorem Zr(M:Mo)(b:Int)(hb:0 < b)(hb2:b < 1073741824):∀(n k:Nat) (c:Int) (x1:Option Cell) (acc:List Dat) (x4 x5:Option Cell),acc.length+n < 100000->∃c' x4',eO (aF 4) Vi ((List.range' k n).map λ(i:Nat)=>PyData.int (i:Int)) M [some (.dat (.int c)),x1,some (.dat (.int b)),some (.mut acc),x4,x5]=.next [c',x1,some (.dat (.int b)),some (.mut (acc++(digs b n c).map .int)),x4',x5] M
 |0,k,c,x1,acc,x4,x5,_=>⟨some (.dat (.int c)),x4,by simp[eO,digs]⟩
 |n+1,k,c,x1,acc,x4,x5,hl=>by
  obtain⟨c',x4',ih⟩:=Zr M b hb hb2 n (k+1) (c / b) x1 (acc++[.int (c % b)]) (some (.dat (.int k))) x5 (by simp;omega);refine⟨c',x4',?_⟩;have h1:decide (CDiv c b)=true:=decide_eq_true ⟨hb,hb2⟩;have hl:acc.length < 100000:=by omega
  rw[List.range'_succ,arT,gW (Z1:=[some (.dat (.int c)),x1,some (.dat (.int b)),some (.mut acc),some (.dat (.int k)),x5]) (by simp) (Z2:=[some (.dat (.int (c / b))),x1,some (.dat (.int b)),some (.mut (acc++[.int (c % b)])),some (.dat (.int k)),x5]) (M2:=M) (by simp[Vi,h1,hb,hl])];rw[ih];simp[digs]
theorem abX(M:Mo)(b:Int)(hb:0 < b):∀(n k:Nat) (t:Int) (x0 x1:Option Cell) (acc:List Dat) (x4:Option Cell),acc.length+n < 100000->∃x4' x5',eO (aF 4) Vv ((List.range' k n).map λ(i:Nat)=>PyData.int (i:Int)) M [x0,x1,some (.dat (.int b)),some (.mut acc),x4,some (.dat (.int t))]=.next [x0,x1,some (.dat (.int b)),some (.mut (acc++(Oq b n k t).map .int)),x4',x5'] M
 |0,k,t,x0,x1,acc,x4,_=>⟨x4,some (.dat (.int t)),by simp[eO,Oq]⟩
 |n+1,k,t,x0,x1,acc,x4,hl=>by
  obtain⟨x4',x5',ih⟩:=abX M b hb n (k+1) ((t * 48271+9973 * k+11) % 2147483647) x0 x1 (acc++[.int ((t * 48271+9973 * k+11) % 2147483647 / 1021 % b)]) (some (.dat (.int k))) (by simp;omega);refine⟨x4',x5',?_⟩;have h1:decide (CMul t 48271)=true:=mul_r (by decide);have h2:decide (CMul 9973 (k:Int))=true:=agz (by decide);have h3:∀x,decide (CDiv x 1021)=true:=λx=>decide_eq_true ⟨by decide,by decide⟩;have hl:acc.length < 100000:=by omega
  rw[List.range'_succ,arT,gW (Z1:=[x0,x1,some (.dat (.int b)),some (.mut acc),some (.dat (.int k)),some (.dat (.int t))]) (by simp) (Z2:=[x0,x1,some (.dat (.int b)),some (.mut (acc++[.int ((t * 48271+9973 * k+11) % 2147483647 / 1021 % b)])),some (.dat (.int k)),some (.dat (.int ((t * 48271+9973 * k+11) % 2147483647)))]) (M2:=M) (by simp[Vv,h1,h2,h3,hb,hl])];rw[ih];simp[Oq]
theorem Ss(n:Nat):jC 0 n=(List.range' 0 n).map λ(i:Nat)=>PyData.int (i:Int):=by unfold jC;rw[List.range_eq_range'];simp
theorem ZJ(M:Mo)(c:Int)(n:Nat)(b:Int)(hb:0 < b)(hb2:b < 1073741824)(hn:n<=1000):vD M [.int c,.int n,.int b]=.ok (lI (rowOf c n b)):=by
 unfold vD acR;have hp:decide (CPow 10 18)=true:=decide_eq_true ⟨by decide,by decide,by decide⟩;have hn1:(n:Int)<=100000:=by omega
 have hn2 : -100000<=(n:Int):=by omega
 have hm:∀x,decide (CMul x 69621)=true:=λx=>mul_r (by decide);have ea:(if c < 0 then -c else c)=Bb c:=rfl;by_cases h:10 ^ 18<=Bb c
 ·obtain⟨c',x4',e⟩:=Zr M b hb hb2 n 0 (Bb c) (some (.dat (.int n))) [] none none (by simp;omega);have e2:rowOf c n b=digs b n (Bb c):=if_pos h;have h':(1000000000000000000:Int)<=Bb c:=by simpa using h
  simp[hp,ea,h',hn1,hn2,Ss,e,e2]
 ·obtain⟨x4',x5',e⟩:=abX M b hb n 0 ((Bb c % 1000003+17) * 69621 % 2147483647) (some (.dat (.int (Bb c)))) (some (.dat (.int n))) [] none (by simp;omega);have e2:rowOf c n b=Oq b n 0 ((Bb c % 1000003+17) * 69621 % 2147483647):=if_neg h;have h':¬(1000000000000000000:Int)<=Bb c:=by simpa using h
  have e':=e;simp[hp,ea,h',hn1,hn2,hm,Ss]at e ⊢;rw[e];simp[e2]
def PB(i j:Int):Int:=if j > i then j else i
def zL(l:List Int)(m:Int):List Int:=if m % 4=1 then l.map λf=>PB 0 (f - 7) else if m % 4=2 then l.map λf=>f % 3 else l
theorem Wg(M:Mo)(l:List Int)(m:Int)(hl:l.length<=1000):tM M [lI l,.int m]=.ok (aJ (zL l m)):=by
 unfold tM Qg;have hl':l.length<=50000:=by omega
 have c1:=eZ (tg:=aF 2) (te:=aA qL (qC (.int 0)) (aA kY (ao 2) (qC (.int 7)))) (M:=M) (Z:=[some (.dat (lI l)),some (.dat (.int m)),none]) PyData.int (λf=>.int (PB 0 (f - 7))) l λx _=>⟨_,rfl,by simp[PB]⟩;have c2:=eZ (tg:=aF 2) (te:=aA kh (ao 2) (qC (.int 3))) (M:=M) (Z:=[some (.dat (lI l)),some (.dat (.int m)),none]) PyData.int (λf=>.int (f % 3)) l λx _=>⟨_,rfl,by simp⟩;by_cases h1:m % 4=1
 ·simp[h1,hl',c1,zL,asi]
 ·by_cases h2:m % 4=2
  ·simp[h2,hl',c2,zL,asi]
  ·simp[h1,h2,zL]
def Jh(c:Int):List Int:=zL ((rowOf c 7 10).take 6) ((rowOf c 7 10).getD 6 0)
theorem agq{α:Type}(l:List α)(n:Nat):Rf.cutD l none (some (n:Int))=l.take n:=by unfold Rf.cutD;rw[HT.sIx_nat];simp[HT.sIx]
theorem YQ{α:Type}(l:List α)(n:Nat):Rf.cutD l (some (n:Int)) none=l.drop n:=by
 unfold Rf.cutD;rw[HT.sIx_nat];simp[HT.sIx];by_cases h:n<=l.length
 ·rw[Nat.min_eq_left h];exact List.take_of_length_le (by simp)
 ·rw[Nat.min_eq_right (by omega),List.drop_eq_nil_of_le (by omega),List.drop_eq_nil_of_le (by omega)];simp
theorem Z0(l:List Int)(n:Nat)(h:n < l.length):atI (l.map PyData.int) (n:Int)=some (.int (l.getD n 0)):=atI_nat (by simp[h])
theorem adP(M:Mo)(c:Int):JB M [.int c]=.ok (aJ (Jh c)):=by
 unfold JB ab3;have h1:vD M [.int c,.int 7,.int 10]=.ok (.list ((rowOf c 7 10).map .int)):=ZJ M c 7 10 (by decide) (by decide) (by decide);have h2:Rf.cutD ((rowOf c 7 10).map PyData.int) none (some 6)=((rowOf c 7 10).take 6).map PyData.int:=by rw[show(6:Int)=((6:Nat):Int) from rfl,agq,List.map_take]
 have h3:atI ((rowOf c 7 10).map PyData.int) 6=some (.int ((rowOf c 7 10).getD 6 0)):=Z0 _ 6 (by simp);have h4:tM M [.list (((rowOf c 7 10).take 6).map .int),.int ((rowOf c 7 10).getD 6 0)]=.ok (.tuple ((Jh c).map .int)):=Wg M _ _ (by simp);generalize (rowOf c 7 10).getD 6 0=z at h3 h4;generalize ((rowOf c 7 10).take 6).map PyData.int=y at h2 h4;simp[h1,h2,h3,h4]
theorem Wf(c:Int):(Jh c).length=6:=by
 unfold Jh zL;split
 ·simp
 ·split<;>simp
theorem agd{l:List Int}{m:Int}(h:∀x∈l,0<=x/\x < 10):∀x∈zL l m,0<=x/\x < 10:=by
 unfold zL PB;split
 ·intro x hx;obtain⟨y,hy,rfl⟩:=arY.mp hx;have:=h y hy
  split<;>omega
 ·split
  ·intro x hx;obtain⟨y,hy,rfl⟩:=arY.mp hx;have:=h y hy;omega
  ·exact h
mutual
def lk:Nat->Dat->Bool
 |_,.none=>true
 |_,.bool _=>true
 |_,.int _=>true
 |_,.str _=>true
 |n+1,.list ds=>wB n ds
 |n+1,.tuple ds=>wB n ds
 |0,.list _=>false
 |0,.tuple _=>false
 |_,.dict _=>false
def wB:Nat->List Dat->Bool
 |_,[]=>true
 |n,d::ds=>lk n d&&wB n ds
end
theorem wH{n:Nat}:∀{ds:List Dat},wB n ds=true↔∀d∈ds,lk n d=true
 |[]=>by simp[wB]
 |d::ds=>by simp[wB,wH (ds:=ds)]
@[simp]theorem afm (n:Nat) (l:List Int):wB n (l.map PyData.int)=true:=wH.mpr λd h=>by
 obtain⟨i,_,rfl⟩:=arY.mp h;simp[lk]
theorem V1(M:Mo)(i:Int):Ge M [.int i]=.ok (.bool true):=by unfold Ge Um;simp[yO,Bl]
theorem zip_self(ds:List Dat):wN ds ds=ds.map λd=>.tuple [d,d]:=by unfold wN;rw[List.zipWith_self]
theorem Ku(M:Mo)(r:Mo->List Dat->Out Dat)(x0 x1:Option Cell):∀(ds:List Dat) (x2 x3:Option Cell),(∀d∈ds,r M [d,d]=.ok (.bool true))->∃x2' x3',eO (bH [2,3]) (Qu r) (ds.map λd=>PyData.tuple [d,d]) M [x0,x1,x2,x3]=.next [x0,x1,x2',x3'] M
 |[],x2,x3,_=>⟨x2,x3,rfl⟩
 |d::ds,x2,x3,h=>by
  obtain⟨x2',x3',ih⟩:=Ku M r x0 x1 ds (some (.dat d)) (some (.dat d)) λd hd=>h d (arS _ hd);refine⟨x2',x3',?_⟩;have hd:=h d arU;rw[arT,gW (Z1:=[x0,x1,some (.dat d),some (.dat d)]) (by simp) (Z2:=[x0,x1,some (.dat d),some (.dat d)]) (M2:=M) (by simp[Qu,hd])];exact ih
theorem Uq(M:Mo):∀(n:Nat) (d:Dat),lk n d=true->lJ (n+1) M [d,d]=.ok (.bool true):=by
 intro n
 induction n with
 |zero=>
  intro d h;show mQ 4 (HD (lJ 0)) M [d,d]=_;unfold HD;cases d with
  |none=>simp[j9]
  |bool b=>cases b<;>simp[j9]
  |int i=>simp[j9,yO,Bl,V1]
  |str x=>simp[j9,yO,Bl]
  |list ds=>simp[lk]at h
  |tuple ds=>simp[lk]at h
  |dict kv=>simp[lk]at h
 |succ n ih=>
  intro d h;show mQ 4 (HD (lJ (n+1))) M [d,d]=_;unfold HD;cases d with
  |none=>simp[j9]
  |bool b=>cases b<;>simp[j9]
  |int i=>simp[j9,yO,Bl,V1]
  |str x=>simp[j9,yO,Bl]
  |list ds=>
   rw[lk,wH]at h;obtain⟨x2',x3',e⟩:=Ku M (lJ (n+1)) (some (.dat (.list ds))) (some (.dat (.list ds))) ds none none λd hd=>ih d (h d hd);simp[j9,yO,Bl,zip_self,e]
  |tuple ds=>
   rw[lk,wH]at h;obtain⟨x2',x3',e⟩:=Ku M (lJ (n+1)) (some (.dat (.tuple ds))) (some (.dat (.tuple ds))) ds none none λd hd=>ih d (h d hd);simp[j9,yO,Bl,zip_self,e]
  |dict kv=>simp[lk]at h
inductive En where
 |torn (p:Nat)|cut (e:List Int)|sold (o:Int) (e:List Int)|moved (g:Int)|followed (o g:Int)|passed (o:Int)|died
def En.dat:En->Dat
 |.torn p=>.tuple [.str "torn",.int p]
 |.cut e=>.tuple [.str "cut",aJ e]
 |.sold o e=>.tuple [.str "sold",.int o,aJ e]
 |.moved g=>.tuple [.str "moved",.int g]
 |.followed o g=>.tuple [.str "followed",.int o,.int g]
 |.passed o=>.tuple [.str "passed",.int o]
 |.died=>.tuple [.str "died"]
inductive Fi where
 |brought (o g:Int) (e:List Int)|born (m o g:Int)
def Fi.dat:Fi->Dat
 |.brought o g e=>.tuple [.str "brought",.int o,.int g,aJ e]
 |.born m o g=>.tuple [.str "born",.int m,.int o,.int g]
structure Sd where
 o:Int
 g:Int
 due:Option (List Int)
 ear:List Int
 al:Bool
def oY:Option (List Int)->Dat
 |none=>.none
 |some e=>aJ e
def Sd.dat(s:Sd):Dat:=.tuple [.int s.o,.int s.g,oY s.due,aJ s.ear,.bool s.al]
def xZ(l:List Int)(p:Nat):List Int:=l.mapIdx λi x=>if i=p then x+1 else x
def go(s:Sd):En->Sd
 |.torn p=>{ s with ear:=xZ s.ear p }
 |.cut e=>{ s with due:=some e,ear:=e }
 |.sold o e=>{ s with o:=o,due:=some e,ear:=e }
 |.moved g=>{ s with g:=g }
 |.followed o g=>{ s with o:=o,g:=g }
 |.passed o=>{ s with o:=o }
 |.died=>{ s with al:=false }
def beg:Fi->Sd
 |.brought o g e=>⟨o,g,none,e,true⟩
 |.born _ o g=>⟨o,g,none,[0,0,0,0,0,0],true⟩
theorem afq(M:Mo)(f:Fi):Cd M [f.dat]=.ok (beg f).dat:=by cases f<;>simp[Cd,M8,Fi.dat,beg,Sd.dat,oY,jk]
theorem aaC(M:Mo)(l:List Int)(p:Nat)(hl:l.length<=1000):yq M [aJ l,.int p]=.ok (aJ (xZ l p)):=by
 unfold yq JL;have c:pB 0 (l.map PyData.int)=(l.mapIdx λi x=>(i,x)).map λ(q:Nat×Int)=>PyData.tuple [.int q.1,.int q.2]:=by unfold pB;rw[List.mapIdx_eq_mapIdx_iff.mpr (λi h=>rfl)];apply asq;intro i;simp;cases l[i]?<;>simp
 have c2:=eZ (tg:=bH [2,3]) (te:=S7 (bh (aA bW (ao 2) (ao 1))) (aA fu (ao 3) (qC (.int 1))) (aq 3)) (M:=M) (Z:=[some (.dat (aJ l)),some (.dat (.int p)),none,none]) (λ(q:Nat×Int)=>PyData.tuple [.int q.1,.int q.2]) (λq=>.int (if q.1=p then q.2+1 else q.2)) (l.mapIdx λi x=>(i,x)) λx _=>⟨[some (.dat (aJ l)),some (.dat (.int p)),some (.dat (.int x.1)),some (.dat (.int x.2))],by simp,by
  by_cases h:x.1=p
  ·simp[h]
  ·have h':¬((x.1:Int)=p):=by omega
   simp[h,h']⟩
 have hl':l.length<=50000:=by omega
 simp[c,c2,hl',xZ];apply asq;intro i;simp;cases l[i]?<;>simp
theorem acJ(l:List Int)(p:Nat):(xZ l p).length=l.length:=by simp[xZ]
theorem gone_ok(M:Mo)(s:Sd)(e:En)(hl:s.ear.length<=1000):Ae M [s.dat,e.dat]=.ok (go s e).dat:=by have h:=λp=>aaC M s.ear p hl;cases e<;>simp[Ae,KR,En.dat,go,Sd.dat,oY,h]
abbrev Row3:=Int×Int×List Int
def fD(r:Row3):Dat:=.tuple [.int r.1,.int r.2.1,aJ r.2.2]
structure dD where
 fi:Fi
 en:List En
 mo:Int
 sd:Sd
structure aK where
 count:Int
 own:List Int
 al:List Int
 ci:List (List Int)
 held:List Row3
 bs:List dD
structure Lay where
 c:Nat
 g:Nat
 r:Nat
 h:Nat
 bs:List Nat
 fr:List (Nat×Inst)
def aO(L:Lay)(c:aK):Inst:=⟨"Commons",[("owner_count",.dat (.int c.count)),("holders",.dic false (c.own.map λo=>(.int o,.bool true))),("grounds",.dat (ob L.g)),("rights",.dat (ob L.r)),("herd",.dat (ob L.h))]⟩
def dh(n m:Nat)(c:aK):Inst:=⟨"Grounds",[("allowances",.lst n (c.al.map PyData.int)),("circles",.lst m (c.ci.map aJ))]⟩
def nO(c:aK):Inst:=⟨"Rights",[("held",.dic true (c.held.map λr=>(fD r,.bool true)))]⟩
def dH(n:Nat)(L:Lay):Inst:=⟨"Herd",[("beasts",.lst n (L.bs.map ob))]⟩
def iB(n:Nat)(b:dD):Inst:=⟨"Beast",[("story",.lst n (b.fi.dat::b.en.map En.dat)),("mother",.dat (.int b.mo)),("owner",.dat (.int b.sd.o)),("ground",.dat (.int b.sd.g)),("due",.dat (oY b.sd.due)),("ear",.dat (aJ b.sd.ear)),("alive",.dat (.bool b.sd.al))]⟩
structure At(M:Mo)(L:Lay)(c:aK):Prop where
 hc:M[L.c]?=some (aO L c)
 hg:∃n m,M[L.g]?=some (dh n m c)
 hr:M[L.r]?=some (nO c)
 hh:∃n,M[L.h]?=some (dH n L)
 len:L.bs.length=c.bs.length
 hb:∀(i h:Nat) (b:dD),L.bs[i]?=some h->c.bs[i]?=some b->∃n,M[h]?=some (iB n b)
 nd:(L.c::L.g::L.r::L.h::L.bs).Nodup
 fr:∀p∈L.fr,M[p.1]?=some p.2/\p.1∉L.c::L.g::L.r::L.h::L.bs
section
variable{M:Mo}{L:Lay}{c:aK}(a:At M L c)
include a
theorem ab0:pU M [ob L.g]=.ok (.int c.al.length):=by obtain⟨n,m,hg⟩:=a.hg;simp[pU,uG,hg,dh]
theorem aju(g:Int):vM M [ob L.g,.int g]=.ok (.bool (decide (1<=g/\g<=c.al.length))):=by obtain⟨n,m,hg⟩:=a.hg;have:=ab0 a;by_cases h:1<=g<;>simp[vM,Bq,hg,dh,this,eU,h]
end
@[simp]theorem afH {α:Type} (l:List α) (n:Nat):atI l (n:Int)=l[n]?:=by
 cases h:l[n]? with
 |some a=>exact atI_nat h
 |none=>
  have hl:=List.getElem?_eq_none_iff.mp h;unfold atI ixN;rw[if_pos (by omega),if_neg (by omega)];rfl
abbrev Vg(c:aK)(x:Int):Prop:=1<=x/\x<=c.al.length
theorem rA{c:aK}{x:Int}(h:Vg c x):∃k:Nat,k < c.al.length/\x=(k:Int)+1:=⟨(x - 1).toNat,by omega,by omega⟩
structure cW(c:aK):Prop where
 len:c.ci.length=c.al.length
 few:c.al.length<=200
 al:∀x∈c.al,0<=x/\x<=9
 mem:∀(k:Nat) (l:List Int),c.ci[k]?=some l->∀y∈l,Vg c y
 own:∀(k:Nat) (l:List Int),c.ci[k]?=some l->(k:Int)+1∈l
 up:∀(k:Nat) (l:List Int),c.ci[k]?=some l->l.Pairwise (· < ·)
 one:∀(k j:Nat) (l:List Int),c.ci[k]?=some l->(j:Int)+1∈l->c.ci[j]?=some l
def aH(c:aK)(x:Int):List Int:=(c.ci[(x - 1).toNat]?).getD []
def jR(c:aK)(x:Int):Int:=(c.al[(x - 1).toNat]?).getD 0
def ace:List Int->Int
 |[]=>0
 |n::ns=>Fx n ns
def roomOf(c:aK)(x:Int):Int:=ace ((aH c x).map (jR c))
theorem ae6:∀{l:List Int} {lo hi:Int},l.Pairwise (· < ·)->(∀y∈l,lo<=y/\y<=hi)->(l.length:Int)<=max 0 (hi - lo+1)
 |[],_,_,_,_=>by simp;omega
 |x::l,lo,hi,h,hb=>by
  rw[List.pairwise_cons]at h;have:=ae6 (lo:=x+1) (hi:=hi) h.2 λy hy=>⟨by have:=h.1 y hy;omega,(hb y (arS _ hy)).2⟩;have:=hb x arU;simp;omega
theorem maxD_ints{l:List Int}(h:l≠[]):maxD (.list (l.map PyData.int))=.ok (.int (ace l)):=by
 cases l with
 |nil=>exact absurd rfl h
 |cons n ns=>
  show(match intsOf ((n::ns).map PyData.int) with
   |some (n::ns)=>Out.ok (PyData.int (Fx n ns))
   |_=>Out.bad)=_
  rw[xV];rfl
theorem cW.clen{c:aK}(i:cW c){k:Nat}{l:List Int}(h:c.ci[k]?=some l):l.length<=200:=by have:=ae6 (lo:=1) (hi:=c.al.length) (i.up k l h) λy hy=>i.mem k l h y hy;have:=i.few;omega
section
variable{M:Mo}{L:Lay}{c:aK}(a:At M L c)
include a
theorem wF(x:Int):uO M [ob L.g,.int x]=if Vg c x then .ok .none else .exc ⟨"NoGround",[]⟩:=by obtain⟨n,m,hg⟩:=a.hg;have:=aju a x;by_cases h:Vg c x<;>simp[uO,yN,hg,dh,this,zF,h]
theorem Mr(x:Int):jO M [ob L.g,.int x]=if Vg c x then .ok (.int (jR c x)) else .exc ⟨"NoGround",[]⟩:=by
 obtain⟨n,m,hg⟩:=a.hg;have hn:=wF a x;by_cases h:Vg c x
 ·obtain⟨k,hk,rfl⟩:=rA h;rw[if_pos h]at hn ⊢;simp[jO,nu,hg,dh,hn,aG,jR,hk]
 ·rw[if_neg h]at hn ⊢;simp[jO,nu,hg,dh,hn,aG]
theorem vm(i:cW c)(x:Int):kJ M [ob L.g,.int x]=if Vg c x then .ok (lI (aH c x)) else .exc ⟨"NoGround",[]⟩:=by
 obtain⟨n,m,hg⟩:=a.hg;have hn:=wF a x;by_cases h:Vg c x
 ·obtain⟨k,hk,rfl⟩:=rA h;have hk':k < c.ci.length:=by rw[i.len];exact hk
  rw[if_pos h]at hn ⊢;simp[kJ,ou,hg,dh,hn,aG,aH,hk']
 ·rw[if_neg h]at hn ⊢;simp[kJ,ou,hg,dh,hn,aG]
theorem ahF(i:cW c)(x:Int):pO M [ob L.g,.int x]=if Vg c x then .ok (.int (roomOf c x)) else .exc ⟨"NoGround",[]⟩:=by
 obtain⟨n,m,hg⟩:=a.hg;have hn:=vm a i x;by_cases h:Vg c x
 ·rw[if_pos h]at hn ⊢;obtain⟨k,hk,rfl⟩:=rA h;have hk':k < c.ci.length:=by rw[i.len];exact hk
  have hc:c.ci[k]?=some (aH c ((k:Int)+1)):=by simp[aH,hk']
  unfold roomOf;generalize aH c ((k:Int)+1)=l at hc hn ⊢;have hl:l.length<=50000:=by have:=i.clen hc;omega
  have hne:l.map (jR c)≠[]:=λz=>by
   have:=i.own k l hc;rw[List.map_eq_nil_iff.mp z]at this;cases this
  have key:=eZ (tg:=aF 2) (te:=aU dN (ao 0) (ak (aq 2) au)) (M:=M) (Z:=[some (.dat (ob L.g)),some (.dat (.int ((k:Int)+1))),none]) PyData.int (λy=>.int (jR c y)) l λy hy=>⟨[some (.dat (ob L.g)),some (.dat (.int ((k:Int)+1))),some (.dat (.int y))],by simp,by
   have:=Mr a y;rw[if_pos (i.mem k l hc y hy)]at this;simp[hg,dh,dN,this]⟩
  simp[pO,uM,hg,dh,hn,bD,key,hl];have:=maxD_ints hne;rw[asr]at this;simp[asi]at this ⊢;simp[this]
 ·rw[if_neg h]at hn ⊢;simp[pO,uM,hg,dh,hn,bD]
end
theorem bK{M:Mo}{h k:Nat}{i j:Inst}(hm:M[h]?=some j):(M.set h i)[k]?=if h=k then some i else M[k]?:=by
 have hl:h < M.length:=(arQ.mp hm).1;rw[asZ];by_cases e:h=k
 ·subst e;rw[if_pos rfl,if_pos hl,if_pos rfl]
 ·rw[if_neg e,if_neg e]
theorem At.neq{M:Mo}{L:Lay}{c:aK}(a:At M L c):L.c≠L.g/\L.c≠L.r/\L.c≠L.h/\L.g≠L.r/\L.g≠L.h/\L.r≠L.h/\(∀x∈L.bs,L.c≠x/\L.g≠x/\L.r≠x/\L.h≠x)/\L.bs.Nodup:=by have nd:=a.nd;simp only[asW,ar4,not_or]at nd;obtain⟨⟨n1,n2,n3,n4⟩,⟨n5,n6,n7⟩,⟨n8,n9⟩,n10,n11⟩:=nd;exact⟨n1,n2,n3,n5,n6,n8,λx hx=>⟨λz=>n4 (z ▸ hx),λz=>n7 (z ▸ hx),λz=>n9 (z ▸ hx),λz=>n10 (z ▸ hx)⟩,n11⟩
theorem At.frS{M:Mo}{L:Lay}{c:aK}(a:At M L c){h:Nat}{i j:Inst}(hm:M[h]?=some j)(hh:h∈L.c::L.g::L.r::L.h::L.bs):∀p∈L.fr,(M.set h i)[p.1]?=some p.2/\p.1∉L.c::L.g::L.r::L.h::L.bs:=λp hp=>by
 obtain⟨h1,h2⟩:=a.fr p hp;refine⟨?_,h2⟩;rw[bK hm,if_neg (λ(z:h=p.1)=>h2 (z ▸ hh))];exact h1
theorem At.setG{M:Mo}{L:Lay}{c:aK}(a:At M L c){al:List Int}{ci:List (List Int)}{n m:Nat}:At (M.set L.g (dh n m { c with al:=al,ci:=ci })) L { c with al:=al,ci:=ci }:=by
 obtain⟨n',m',hg⟩:=a.hg;obtain⟨e1,e2,e3,e4,e5,e6,e7,e8⟩:=a.neq;have e1':=Ne.symm e1;refine⟨?_,⟨n,m,?_⟩,?_,?_,a.len,λi h b h1 h2=>?_,a.nd,a.frS hg (by simp)⟩
 ·rw[bK hg,if_neg e1'];exact a.hc
 ·rw[bK hg,if_pos rfl]
 ·rw[bK hg,if_neg e4];exact a.hr
 ·rw[bK hg,if_neg e5];exact a.hh
 ·rw[bK hg,if_neg (e7 h (arW h1)).2.1];exact a.hb i h b h1 h2
theorem At.afz{M:Mo}{L:Lay}{c:aK}(a:At M L c){held:List Row3}:At (M.set L.r (nO { c with held:=held })) L { c with held:=held }:=by
 obtain⟨e1,e2,e3,e4,e5,e6,e7,e8⟩:=a.neq;have e2':=Ne.symm e2;have e4':=Ne.symm e4;have hr:=a.hr;refine⟨?_,?_,?_,?_,a.len,λi h b h1 h2=>?_,a.nd,a.frS hr (by simp)⟩
 ·rw[bK hr,if_neg e2'];exact a.hc
 ·rw[bK hr,if_neg e4'];exact a.hg
 ·rw[bK hr,if_pos rfl]
 ·rw[bK hr,if_neg e6];exact a.hh
 ·rw[bK hr,if_neg (e7 h (arW h1)).2.2.1];exact a.hb i h b h1 h2
theorem At.setC{M:Mo}{L:Lay}{c:aK}(a:At M L c){n:Int}{own:List Int}:At (M.set L.c (aO L { c with count:=n,own:=own })) L { c with count:=n,own:=own }:=by
 obtain⟨e1,e2,e3,e4,e5,e6,e7,e8⟩:=a.neq;have hc:=a.hc;refine⟨?_,?_,?_,?_,a.len,λi h b h1 h2=>?_,a.nd,a.frS hc (by simp)⟩
 ·rw[bK hc,if_pos rfl]
 ·rw[bK hc,if_neg e1];exact a.hg
 ·rw[bK hc,if_neg e2];exact a.hr
 ·rw[bK hc,if_neg e3];exact a.hh
 ·rw[bK hc,if_neg (e7 h (arW h1)).1];exact a.hb i h b h1 h2
theorem At.setB{M:Mo}{L:Lay}{c:aK}(a:At M L c){k h n:Nat}{b':dD}(hk:L.bs[k]?=some h):At (M.set h (iB n b')) L { c with bs:=c.bs.set k b' }:=by
 obtain⟨e1,e2,e3,e4,e5,e6,e7,e8⟩:=a.neq;have hl:k < c.bs.length:=by rw[←a.len];exact(arQ.mp hk).1
 obtain⟨n0,hb⟩:=a.hb k h _ hk (arR hl);obtain⟨q1,q2,q3,q4⟩:=e7 h (arW hk);refine⟨?_,?_,?_,?_,by simp[a.len],λi h2 b h3 h4=>?_,a.nd,a.frS hb (by simp[arW hk])⟩
 ·rw[bK hb,if_neg (Ne.symm q1)];exact a.hc
 ·rw[bK hb,if_neg (Ne.symm q2)];exact a.hg
 ·rw[bK hb,if_neg (Ne.symm q3)];exact a.hr
 ·rw[bK hb,if_neg (Ne.symm q4)];exact a.hh
 ·by_cases e:i=k
  ·subst e;rw[hk]at h3;cases h3;have h4:(c.bs.set i b')[i]?=some b:=h4;rw[ar8 hl]at h4;cases h4;exact⟨n,by rw[bK hb,if_pos rfl]⟩
  ·have h4:(c.bs.set k b')[i]?=some b:=h4;rw[arX (Ne.symm e)]at h4;have ne:h≠h2:=λz=>by
    subst z;exact e ((List.getElem?_inj (arQ.mp h3).1 e8).mp (h3.trans hk.symm))
   rw[bK hb,if_neg ne];exact a.hb i h2 b h3 h4
theorem At.an9{M:Mo}{L:Lay}{c:aK}(a:At M L c){M2:Mo}{h n n2:Nat}{b:dD}(hh:M.length<=h)(hM:∀k,k < M.length->M2[k]?=M[k]?)(hb:M2[h]?=some (iB n b)):At (M2.set L.h (dH n2 { L with bs:=L.bs++[h] })) { L with bs:=L.bs++[h] } { c with bs:=c.bs++[b] }:=by
 obtain⟨e1,e2,e3,e4,e5,e6,e7,e8⟩:=a.neq;have lt:∀{k:Nat} {i:Inst},M[k]?=some i->k < M.length:=λz=>(arQ.mp z).1;obtain⟨n0,m0,hg⟩:=a.hg;obtain⟨n1,hh1⟩:=a.hh;have l1:=lt a.hc;have l2:=lt hg;have l3:=lt a.hr;have l4:=lt hh1;have lb:∀x∈L.bs,x < M.length:=λx hx=>by
  obtain⟨i,hi,e⟩:=List.mem_iff_getElem.mp hx;obtain⟨n',z⟩:=a.hb i x _ (by rw[arR hi,e]) (arR (by rw[←a.len];exact hi));exact lt z
 have g4:M2[L.h]?=some (dH n1 L):=by rw[hM _ l4];exact hh1
 refine⟨?_,⟨n0,m0,?_⟩,?_,⟨n2,?_⟩,by simp[a.len],λi h2 b2 h3 h4=>?_,?_,λp hp=>?_⟩
 ·show(M2.set L.h _)[L.c]?=_
  rw[bK g4,if_neg (Ne.symm e3),hM _ l1];exact a.hc
 ·show(M2.set L.h _)[L.g]?=_
  rw[bK g4,if_neg (Ne.symm e5),hM _ l2];exact hg
 ·show(M2.set L.h _)[L.r]?=_
  rw[bK g4,if_neg (Ne.symm e6),hM _ l3];exact a.hr
 ·show(M2.set L.h _)[L.h]?=_
  rw[bK g4,if_pos rfl]
 ·have h3:(L.bs++[h])[i]?=some h2:=h3;have h4:(c.bs++[b])[i]?=some b2:=h4;by_cases hi:i < L.bs.length
  ·rw[ar3 hi]at h3;rw[ar3 (by rw[←a.len];exact hi)]at h4;have m:=arW h3;rw[bK g4,if_neg (e7 h2 m).2.2.2,hM _ (lb h2 m)];exact a.hb i h2 b2 h3 h4
  ·rw[asf (by omega)]at h3;rw[asf (by rw[←a.len];omega),←a.len]at h4;have e0:i - L.bs.length=0:=by
    have:=(arQ.mp h3).1;simp at this;omega
   rw[e0]at h3 h4;cases h3;cases h4;exact⟨n,by rw[bK g4,if_neg (by omega)];exact hb⟩
 ·have nd:=a.nd
  show(L.c::L.g::L.r::L.h::(L.bs++[h])).Nodup
  have:(L.c::L.g::L.r::L.h::(L.bs++[h]))=(L.c::L.g::L.r::L.h::L.bs)++[h]:=by simp
  rw[this,asO];refine⟨nd,by simp,λx hx y hy=>?_⟩;rw[arV.mp hy];rcases ar4.mp hx with rfl|hx
  ·omega
  rcases ar4.mp hx with rfl|hx
  ·omega
  rcases ar4.mp hx with rfl|hx
  ·omega
  rcases ar4.mp hx with rfl|hx
  ·omega
  have:=lb x hx;omega
 ·obtain⟨h1,h2⟩:=a.fr p hp;have hl:=lt h1;refine⟨?_,?_⟩
  ·show(M2.set L.h _)[p.1]?=_
   rw[bK g4,if_neg (λ(z:L.h=p.1)=>h2 (by simp[←z])),hM _ hl];exact h1
  ·show p.1∉L.c::L.g::L.r::L.h::(L.bs++[h]);intro z;have:p.1∈(L.c::L.g::L.r::L.h::L.bs)++[h]:=by simpa using z
   rcases ar0.mp this with z|z
   ·exact h2 z
   ·rw[arV]at z;omega
section
variable{M:Mo}{L:Lay}{c:aK}(a:At M L c)
include a
theorem Xg(i:cW c)(hf:c.al.length < 200)(x:Int):if 0<=x/\x<=9 then ∃M',fj M [ob L.g,.int x]=.ok (.int (c.al.length+1)) M'/\At M' L { c with al:=c.al++[x],ci:=c.ci++[[(c.al.length:Int)+1]] } else fj M [ob L.g,.int x]=.exc ⟨"BadAllowance",[]⟩ M:=by
 obtain⟨n,m,hg⟩:=a.hg;have hl:∀i,(M.set L.g i)[L.g]?=some i:=λi=>by rw[bK hg,if_pos rfl]
 by_cases h:0<=x/\x<=9
 ·rw[if_pos h];refine⟨_,?_,a.setG (n:=n) (m:=m)⟩;have h2:c.ci.length < 100000:=by rw[i.len];omega
  have h3:c.al.length < 100000:=by omega
  simp[fj,ji,pU,uG,eU,hg,dh,hl,h,gK,h2,h3];rfl
 ·rw[if_neg h];have:decide (0<=x)=true->decide (x<=9)=false:=by simp;omega
  by_cases h0:0<=x
  ·have h9:¬x<=9:=by omega
   simp[fj,ji,gK,h0,h9]
  ·simp[fj,ji,gK,h0]
end
def encl(ci:List (List Int))(l:List Int):List (List Int):=l.foldl (λs y=>s.set (y - 1).toNat l) ci
theorem vZ(l:List Int):∀(k:List Int) (ci:List (List Int)),(k.foldl (λs y=>s.set (y - 1).toNat l) ci).length=ci.length
 |[],_=>rfl
 |y::k,ci=>by rw[asY,vZ l k];simp
@[simp]theorem aoh (n k:Nat):ixN n (k:Int)=if k < n then some k else none:=by
 unfold ixN;rw[if_pos (by omega)];by_cases h:k < n
 ·rw[if_pos (by omega),if_pos h];simp
 ·rw[if_neg (by omega),if_neg h]
section
variable{M:Mo}{L:Lay}{c:aK}{n m:Nat}(hg:M[L.g]?=some (dh n m c))
include hg
theorem Wz(l:List Int):∀(k:List Int) (s:List (List Int)) (o:Option Cell),(∀y∈k,1<=y/\y<=s.length)->
  ∃o',eO (aF 3) rR (k.map PyData.int) (M.set L.g (dh n m { c with ci:=s })) [some (.dat (ob L.g)),some (.dat (lI l)),some (.dat (aJ l)),o]=.next [some (.dat (ob L.g)),some (.dat (lI l)),some (.dat (aJ l)),o'] (M.set L.g (dh n m { c with ci:=k.foldl (λs y=>s.set (y - 1).toNat l) s }))
 |[],s,o,_=>⟨o,rfl⟩
 |y::k,s,o,h=>by
  have hl:∀i,(M.set L.g i)[L.g]?=some i:=λi=>by rw[bK hg,if_pos rfl]
  obtain⟨j,hj,rfl⟩:∃j:Nat,j < s.length/\y=(j:Int)+1:=⟨(y - 1).toNat,by have:=h y arU;omega,by have:=h y arU;omega⟩;obtain⟨o',ih⟩:=Wz l k (s.set j l) (some (.dat (.int ((j:Int)+1)))) λz hz=>by
   have:=h z (arS _ hz);simpa using this
  refine⟨o',?_⟩;rw[arT,gW (Z1:=[some (.dat (ob L.g)),some (.dat (lI l)),some (.dat (aJ l)),some (.dat (.int ((j:Int)+1)))]) (M2:=M.set L.g (dh n m { c with ci:=s.set j l })) (Z2:=[some (.dat (ob L.g)),some (.dat (lI l)),some (.dat (aJ l)),some (.dat (.int ((j:Int)+1)))]) (by simp) (by simp[rR,hl,dh,hj,List.map_set]),ih];simp
end
theorem YM{M:Mo}{h:Nat}{i:Inst}(e:M[h]?=some i):M.set h i=M:=by
 apply asq;intro k;rw[bK e];split
 ·next z=>rw[←z,e]
 ·rfl
section
variable{M:Mo}{L:Lay}{c:aK}(a:At M L c)
include a
theorem Jy(l:List Int)(h:∀y∈l,1<=y/\y<=c.ci.length):∃M',lQ M [ob L.g,lI l]=.ok (lI l) M'/\At M' L { c with ci:=encl c.ci l }:=by obtain⟨n,m,hg⟩:=a.hg;obtain⟨o',key⟩:=Wz hg l l c.ci none h;have e:(dh n m { c with ci:=c.ci })=dh n m c:=rfl;rw[e,YM hg]at key;refine⟨_,?_,a.setG (n:=n) (m:=m) (al:=c.al)⟩;simp[lQ,uW,key,encl]
end
theorem any_ints(y:Int)(l:List Int):((l.map PyData.int).any λd=>PyData.eqv d (.int y))=decide (y∈l):=by
 induction l with
 |nil=>simp
 |cons x l ih=>
  rw[arT,as3,ih,Yi];by_cases h:x=y
  ·simp[h]
  ·have:¬y=x:=λz=>h z.symm;simp[h,this]
theorem Cr(neg:Bool)(y:Int)(l:List Int):inD neg (.int y) (lI l)=.ok (.bool (neg ^^ decide (y∈l))):=by
 show(Out.when (okd 12 (.int y)&&lZ 12 (l.map PyData.int)) (.ok ((l.map PyData.int).any λz=>PyData.eqv z (.int y)))).bind _=_
 rw[any_ints,ahG,WR];rfl
section
variable{M:Mo}{L:Lay}{c:aK}(a:At M L c)
include a
theorem ab4(i:cW c)(x y:Int)(hx:Vg c x)(hy:Vg c y):if y∈aH c x then lB M [ob L.g,.int x,.int y]=.exc ⟨"Together",[]⟩ M else
  ∃M',lB M [ob L.g,.int x,.int y]=.ok (lI (sortI (aH c x++aH c y))) M'/\At M' L { c with ci:=encl c.ci (sortI (aH c x++aH c y)) }:=by
 have t1:=vm a i x;have t2:=vm a i y;rw[if_pos hx]at t1;rw[if_pos hy]at t2;obtain⟨n,m,hg⟩:=a.hg;have hcx:c.ci[(x - 1).toNat]?=some (aH c x):=by
  obtain⟨k,hk,rfl⟩:=rA hx;have hk':k < c.ci.length:=by rw[i.len];exact hk
  simp[aH,hk']
 have hcy:c.ci[(y - 1).toNat]?=some (aH c y):=by
  obtain⟨k,hk,rfl⟩:=rA hy;have hk':k < c.ci.length:=by rw[i.len];exact hk
  simp[aH,hk']
 by_cases h:y∈aH c x
 ·rw[if_pos h];simp[lB,sS,hg,dh,bD,t1,t2,Cr,h]
 ·rw[if_neg h];have hm:∀z∈sortI (aH c x++aH c y),1<=z/\z<=c.ci.length:=λz hz=>by
   unfold sortI at hz;rw[List.mem_mergeSort,ar0]at hz;rw[i.len];rcases hz with hz|hz
   ·exact i.mem _ _ hcx z hz
   ·exact i.mem _ _ hcy z hz
  obtain⟨M',h1,h2⟩:=Jy a _ hm;refine⟨M',?_,h2⟩;have l1:=i.clen hcx;have l2:=i.clen hcy;have hs:zQ (lI (aH c x++aH c y))=.ok (lI (sortI (aH c x++aH c y))):=by
   show(match intsOf ((aH c x++aH c y).map PyData.int) with
    |some l=>Out.ok (PyData.list ((sortI l).map PyData.int))
    |none=>_)=_
   rw[xV]
  have hz:(aH c x).length+(aH c y).length<=100000:=by omega
  have hs:zQ (.list ((aH c x).map PyData.int++(aH c y).map PyData.int))=.ok (lI (sortI (aH c x++aH c y))):=by rw[←List.map_append];exact hs
  simp[lB,sS,hg,dh,bD,gG,t1,t2,Cr,h,hz,hs,h1]
theorem aeD(i:cW c)(x:Int):if Vg c x then(if (aH c x).filter (λy=>!(y==x))=[] then jd M [ob L.g,.int x]=.exc ⟨"Alone",[]⟩ M else
  ∃M',jd M [ob L.g,.int x]=.ok (lI ((aH c x).filter (λy=>!(y==x)))) M'/\At M' L { c with ci:=encl (encl c.ci [x]) ((aH c x).filter (λy=>!(y==x))) }) else jd M [ob L.g,.int x]=.exc ⟨"NoGround",[]⟩ M:=by
 have t1:=vm a i x;obtain⟨n,m,hg⟩:=a.hg;by_cases hx:Vg c x
 ·rw[if_pos hx]at t1 ⊢;have hcx:c.ci[(x - 1).toNat]?=some (aH c x):=by
   obtain⟨k,hk,rfl⟩:=rA hx;have hk':k < c.ci.length:=by rw[i.len];exact hk
   simp[aH,hk']
  have hl:(aH c x).length<=50000:=by have:=i.clen hcx;omega
  have key:=fP (tg:=aF 3) (tt:=bh (aA uZ (ao 3) (ao 1))) (te:=aq 3) (M:=M) (Z:=[some (.dat (ob L.g)),some (.dat (.int x)),none,none]) PyData.int (λy=>!(y==x)) PyData.int (aH c x) λy _=>⟨[some (.dat (ob L.g)),some (.dat (.int x)),none,some (.dat (.int y))],by simp,by simp,λ_=>by simp⟩;by_cases he:(aH c x).filter (λy=>!(y==x))=[]
  ·rw[if_pos he];rw[he]at key;simp only[as5]at key;simp[jd,qd,hg,dh,bD,t1,key,hl]
  ·rw[if_neg he];generalize hL:(aH c x).filter (λy=>!(y==x))=left at he key;have hm:∀z∈left,1<=z/\z<=(encl c.ci [x]).length:=λz hz=>by
    rw[←hL,ash]at hz;unfold encl;rw[vZ,i.len];exact i.mem _ _ hcx z hz.1
   obtain⟨M1,h1,a1⟩:=Jy a [x] (λz hz=>by rw[arV.mp hz,i.len];exact hx);obtain⟨M2,h2,a2⟩:=Jy a1 left hm;refine⟨M2,?_,a2⟩;obtain⟨n1,m1,hg1⟩:=a1.hg;have h1:lQ M [ob L.g,.list [.int x]]=.ok (.list [.int x]) M1:=h1;have he':left.isEmpty=false:=by cases left with
    |nil=>exact absurd rfl he
    |cons _ _=>rfl
   simp[jd,qd,hg,hg1,dh,bD,gG,t1,key,hl,h1,h2,he']
 ·rw[if_neg hx]at t1 ⊢;simp[jd,qd,hg,dh,bD,t1]
end
theorem ahw(o g:Int)(m:List Int)(o' g':Int)(m':List Int):PyData.eqv (fD (o,g,m)) (fD (o',g',m'))=decide ((o,g,m)=(o',g',m')):=by simp only[fD,Yy,abm,Yi,zR,ahZ,Bool.and_true];by_cases h1:o=o'<;>by_cases h2:g=g'<;>by_cases h3:m=m'<;>simp[h1,h2,h3]
theorem aes(r s:Row3):PyData.eqv (fD r) (fD s)=decide (r=s):=ahw _ _ _ _ _ _
theorem Wm:∀l:List Int,wO (l.map PyData.int)=some (l.map NestedKey.num)
 |[]=>rfl
 |i::l=>by rw[arT,wO,Wm l];rfl
theorem ai7(r:Row3):uh (fD r)=some (.tup [.num r.1,.num r.2.1,.tup (r.2.2.map .num)]):=by simp[fD,uh,wO,Wm]
theorem depth_ints:∀l:List Int,NestedKey.depthAll (l.map NestedKey.num)<=1
 |[]=>by simp[NestedKey.depthAll]
 |i::l=>by
  have:=depth_ints l;simp[NestedKey.depthAll,NestedKey.depth];omega
theorem Vx(kvs:List (Dat×Dat))(r:Row3):dhas true kvs (fD r)=.ok (kvs.any λp=>PyData.eqv p.1 (fD r)):=by
 have hk:=ai7 r;have hd:NestedKey.depth (.tup [.num r.1,.num r.2.1,.tup (r.2.2.map .num)])<=8:=by have:=depth_ints r.2.2;simp[NestedKey.depth,NestedKey.depthAll];omega
 show(match uh (fD r) with
  |some k=>match decide (k.depth<=8) with
   |true=>Out.ok (kvs.any λp=>PyData.eqv p.1 (fD r))
   |false=>.bad
  |none=>.bad)=_
 rw[hk]
 show(match decide (NestedKey.depth (.tup [.num r.1,.num r.2.1,.tup (r.2.2.map .num)])<=8) with
   |true=>Out.ok (kvs.any λp=>PyData.eqv p.1 (fD r))
   |false=>.bad)=_
 rw[decide_eq_true hd]
theorem aax(held:List Row3)(r:Row3):((held.map λr=>(fD r,PyData.bool true)).any λp=>PyData.eqv p.1 (fD r))=decide (r∈held):=by
 induction held with
 |nil=>simp
 |cons s held ih=>
  rw[arT,as3,ih,aes];by_cases h:s=r
  ·simp[h]
  ·have:¬r=s:=λz=>h z.symm;simp[h,this]
def bF(c:aK)(o g:Int):List (List Int):=(c.held.filter λr=>(r.1==o)&&(r.2.1==g)).map λr=>r.2.2
section
variable{M:Mo}{L:Lay}{c:aK}(a:At M L c)(few:c.held.length<=50000)
include a few
theorem Jo(o g:Int):uz M [ob L.r,.int o,.int g]=.ok (.list ((bF c o g).map aJ)):=by
 have hr:=a.hr;have key:=fP (tg:=bH [3,4,5]) (tt:=jK (bh (aA bW (ao 3) (ao 1))) (bh (aA bW (ao 4) (ao 2)))) (te:=aq 5) (M:=M) (Z:=[some (.dat (ob L.r)),some (.dat (.int o)),some (.dat (.int g)),none,none,none]) fD (λr=>(r.1==o)&&(r.2.1==g)) (λr=>aJ r.2.2) c.held λr _=>⟨[some (.dat (ob L.r)),some (.dat (.int o)),some (.dat (.int g)),some (.dat (.int r.1)),some (.dat (.int r.2.1)),some (.dat (aJ r.2.2))],by simp[fD],by
  by_cases h:r.1=o<;>simp[h],λ_=>by simp⟩
 have e:(c.held.map λr=>(fD r,PyData.bool true)).map (·.1)=c.held.map fD:=by simp
 simp[uz,za,hr,nO,bF];simp[asi,key,few]
theorem Yt(o g:Int):oH M [ob L.r,.int o,.int g]=.ok (.bool (decide (bF c o g≠[]))):=by have hr:=a.hr;have h:=Jo a few o g;simp[oH,tZ,hr,nO,cI,h,List.length_pos_iff]
theorem XD(near:List Int):nJ M [ob L.r,lI near]=.ok (.list ((c.held.filter λr=>decide (r.2.1∈near)).map λr=>Ear.rD (r.1,r.2.2))):=by have hr:=a.hr;have key:=fP (tg:=bH [2,3,4]) (tt:=bh (aA (inD false) (ao 3) (ao 1))) (te:=bB (ak (aq 2) (ak (aq 4) au))) (M:=M) (Z:=[some (.dat (ob L.r)),some (.dat (lI near)),none,none,none]) fD (λr=>decide (r.2.1∈near)) (λr=>Ear.rD (r.1,r.2.2)) c.held λr _=>⟨[some (.dat (ob L.r)),some (.dat (lI near)),some (.dat (.int r.1)),some (.dat (.int r.2.1)),some (.dat (aJ r.2.2))],by simp[fD],by simp[Cr],λ_=>by simp[Ear.rD,Ear.dT]⟩;simp[nJ,sE,hr,nO];simp[asi,key,few]
theorem aaF:pq M [ob L.r]=.ok (.list (c.held.map fD)):=by have hr:=a.hr;simp[pq,uY,hr,nO,asi]
theorem Ld(o g:Int)(m:List Int):if (o,g,m)∈c.held then iZ M [ob L.r,.int o,.int g,aJ m]=.exc ⟨"HasRight",[]⟩ M else
  ∃M',iZ M [ob L.r,.int o,.int g,aJ m]=.ok .none M'/\At M' L { c with held:=c.held++[(o,g,m)] }:=by
 have hr:=a.hr;have h1:=Vx (c.held.map λr=>(fD r,PyData.bool true)) (o,g,m);rw[aax]at h1;simp only[fD]at h1;have f2:c.held.length < 100000:=by omega
 by_cases h:(o,g,m)∈c.held
 ·rw[if_pos h];simp[h]at h1;simp[iZ,oG,hr,nO,fD,h1]
 ·rw[if_neg h];refine⟨_,?_,a.afz⟩;simp[h]at h1;simp[iZ,oG,hr,nO,fD,h1,f2]
end
theorem ady(held:List Row3)(r:Row3):((held.map λr=>(fD r,PyData.bool true)).filter λp=>!PyData.eqv p.1 (fD r))=(held.filter λs=>decide (s≠r)).map λr=>(fD r,PyData.bool true):=by
 induction held with
 |nil=>rfl
 |cons s held ih=>
  simp only[arT,asI,aes,ih];by_cases h:s=r<;>simp[h]
def XQ(o g:Int)(k:List (List Int))(s:List Row3):List Row3:=k.foldl (λs mk=>s.filter λr=>decide (r≠(o,g,mk))) s
section
variable{M:Mo}{L:Lay}{c:aK}(hr:M[L.r]?=some (nO c))
include hr
theorem WL(o g:Int)(all:List (List Int)):∀(k:List (List Int)) (s:List Row3) (x:Option Cell),k.Nodup->(∀mk∈k,(o,g,mk)∈s)->s.length<=50000->
  ∃x',eO (aF 4) wU (k.map aJ) (M.set L.r (nO { c with held:=s })) [some (.dat (ob L.r)),some (.dat (.int o)),some (.dat (.int g)),some (.dat (.list (all.map aJ))),x]=.next [some (.dat (ob L.r)),some (.dat (.int o)),some (.dat (.int g)),some (.dat (.list (all.map aJ))),x'] (M.set L.r (nO { c with held:=XQ o g k s }))
 |[],s,x,_,_,_=>⟨x,rfl⟩
 |mk::k,s,x,nd,h,hf=>by
  have hl:∀i,(M.set L.r i)[L.r]?=some i:=λi=>by rw[bK hr,if_pos rfl]
  rw[asW]at nd;have h1:=Vx (s.map λr=>(fD r,PyData.bool true)) (o,g,mk);rw[aax,decide_eq_true (h mk arU)]at h1;have h2:=ady s (o,g,mk);have f2:s.length<=100000:=by omega
  obtain⟨x',ih⟩:=WL o g all k (s.filter λr=>decide (r≠(o,g,mk))) (some (.dat (aJ mk))) nd.2 (λz hz=>by
   rw[ash];refine⟨h z (arS _ hz),decide_eq_true λe=>?_⟩;have:z=mk:=by simpa using e
   exact nd.1 (this ▸ hz)) (asl (ar7 _ _) hf)
  refine⟨x',?_⟩;rw[arT,gW (Z1:=[some (.dat (ob L.r)),some (.dat (.int o)),some (.dat (.int g)),some (.dat (.list (all.map aJ))),some (.dat (aJ mk))]) (M2:=M.set L.r (nO { c with held:=s.filter λr=>decide (r≠(o,g,mk)) })) (Z2:=[some (.dat (ob L.r)),some (.dat (.int o)),some (.dat (.int g)),some (.dat (.list (all.map aJ))),some (.dat (aJ mk))]) (by simp) ?_,ih]
  ·rfl
  ·have h1':dhas true (s.map λr=>(fD r,PyData.bool true)) (.tuple [.int o,.int g,aJ mk])=.ok true:=h1;have h2':((s.map λr=>(fD r,PyData.bool true)).filter λp=>!PyData.eqv p.1 (.tuple [.int o,.int g,aJ mk]))=(s.filter λs=>decide (s≠(o,g,mk))).map λr=>(fD r,PyData.bool true):=h2;simp[wU,hl,nO,h1',f2];rw[h2'];simp
end
theorem Zh(o g:Int):∀(k:List (List Int)) (s:List Row3),XQ o g k s=s.filter λr=>decide (∀mk∈k,r≠(o,g,mk))
 |[],s=>(atc.mpr (by simp)).symm
 |mk::k,s=>by
  show XQ o g k (s.filter _)=_;rw[Zh o g k,ate];congr 1;funext r;by_cases h1:r=(o,g,mk)<;>simp[h1]
def dropped(c:aK)(o g:Int):List Row3:=c.held.filter λr=>!((r.1==o)&&(r.2.1==g))
theorem acN(c:aK)(o g:Int):XQ o g (bF c o g) c.held=dropped c o g:=by
 rw[Zh];unfold dropped;refine List.filter_congr λr hr=>?_;obtain⟨x,y,z⟩:=r;by_cases h:x=o/\y=g
 ·obtain⟨rfl,rfl⟩:=h;have:z∈bF c x y:=by
   unfold bF;rw[arY];exact⟨(x,y,z),by rw[ash];exact⟨hr,by simp⟩,rfl⟩
  simp;exact this
 ·have e:(!((x==o)&&(y==g)))=true:=by
   by_cases h1:x=o<;>by_cases h2:y=g<;>simp_all
  have e2:∀mk∈bF c o g,(x,y,z)≠(o,g,mk):=λmk _ z=>by
   simp at z;exact h ⟨z.1,z.2.1⟩
  rw[e,decide_eq_true e2]
theorem aaH{c:aK}(h:c.held.Nodup)(o g:Int):(bF c o g).Nodup:=by unfold bF;have h1:(c.held.filter λr=>(r.1==o)&&(r.2.1==g)).Nodup:=h.filter _;unfold List.Nodup at h1 ⊢;rw[List.pairwise_map];refine List.Pairwise.imp_of_mem (λ{r s} hr hs ne e=>ne ?_) h1;rw[ash]at hr hs;obtain⟨r1,r2,r3⟩:=r;obtain⟨s1,s2,s3⟩:=s;have:=hr.2;have:=hs.2;simp at *;obtain⟨rfl,rfl⟩:=hr.2;obtain⟨rfl,rfl⟩:=hs.2;exact⟨rfl,rfl,e⟩
section
variable{M:Mo}{L:Lay}{c:aK}(a:At M L c)(few:c.held.length<=50000)(nd:c.held.Nodup)
include a few nd
theorem aiA(o g:Int):if bF c o g=[] then nR M [ob L.r,.int o,.int g]=.exc ⟨"NoRight",[]⟩ M else
  ∃M',nR M [ob L.r,.int o,.int g]=.ok (.list ((bF c o g).map aJ)) M'/\At M' L { c with held:=dropped c o g }:=by
 have hr:=a.hr;have h1:=Jo a few o g;by_cases h:bF c o g=[]
 ·rw[if_pos h];rw[h]at h1;simp[nR,vJ,hr,nO,cI,h1]
 ·rw[if_neg h];obtain⟨x',key⟩:=WL hr o g (bF c o g) (bF c o g) c.held none (aaH nd o g) (λmk hm=>by
   unfold bF at hm;rw[arY]at hm;obtain⟨⟨r1,r2,r3⟩,h3,rfl⟩:=hm;rw[ash]at h3;have:=h3.2;simp at this;obtain⟨rfl,rfl⟩:=this;exact h3.1) few
  have e:(nO { c with held:=c.held })=nO c:=rfl;rw[e,YM hr,acN]at key;refine⟨_,?_,a.afz⟩;have he:(bF c o g).isEmpty=false:=by
   cases hm:bF c o g with
   |nil=>exact absurd hm h
   |cons _ _=>rfl
  simp[nR,vJ,hr,nO,cI,h1,he];simp[key];rfl
end
def Fp(acc:List Row3)(r:Row3):List Row3:=if r∈acc then acc else acc++[r]
def zH(e h:Int)(r:Row3):Row3:=(if r.1=e then h else r.1,r.2.1,r.2.2)
def handed(c:aK)(e h:Int):List Row3:=(c.held.map (zH e h)).foldl Fp []
theorem aa3{tg:fO}{tk:QF}{M:Mo}{Z:Rf.Env}(f:Row3->Row3):∀(xs acc:List Row3),(∀x∈xs,∃Z1,tg (fD x) Z=some Z1/\tk M Z1=.ok (fD (f x)))->Fd tg tk M Z (xs.map fD) (acc.map λr=>(fD r,PyData.bool true))=.ok (((xs.map f).foldl Fp acc).map λr=>(fD r,PyData.bool true))
 |[],acc,_=>rfl
 |x::xs,acc,h=>by
  obtain⟨Z1,h1,h2⟩:=h x arU;rw[arT,Fd,h1]
  show((yD (tk M Z1)).bind λkd=>(dhas true _ kd).bind λr=>_)=_
  rw[h2,ZS,Out.yS,Vx,aax,Out.yS,arT,asY];have ih:=aa3 f xs (Fp acc (f x)) λy hy=>h y (arS _ hy);unfold Fp at ih ⊢;by_cases hm:f x∈acc
  ·rw[if_pos hm]at ih ⊢;rw[decide_eq_true hm];exact ih
  ·rw[if_neg hm]at ih ⊢;rw[decide_eq_false hm];rw[List.map_append]at ih;exact ih
section
variable{M:Mo}{L:Lay}{c:aK}(a:At M L c)(few:c.held.length<=50000)
include a few
theorem aal(e h:Int):∃M',oK M [ob L.r,.int e,.int h]=.ok .none M'/\At M' L { c with held:=handed c e h }:=by
 have hr:=a.hr;have hl:L.r < M.length:=(arQ.mp hr).1;have hr2:(M++[(⟨"",[]⟩:Inst)])[L.r]?=some (nO c):=by rw[ar3 hl];exact hr
 have key:=aa3 (tg:=bH [3,4,5]) (tk:=bB (ak (S7 (bh (aA bW (ao 3) (ao 1))) (aq 2) (aq 3)) (ak (aq 4) (ak (aq 5) au)))) (M:=M) (Z:=[some (.dat (ob L.r)),some (.dat (.int e)),some (.dat (.int h)),none,none,none]) (zH e h) c.held [] λr _=>⟨[some (.dat (ob L.r)),some (.dat (.int e)),some (.dat (.int h)),some (.dat (.int r.1)),some (.dat (.int r.2.1)),some (.dat (aJ r.2.2))],by simp[fD],by
  by_cases z:r.1=e<;>simp[z,zH,fD]⟩
 have ex:At (M++[⟨"",[]⟩]) L c:=by
  have lt:∀{k:Nat} {i:Inst},M[k]?=some i->(M++[(⟨"",[]⟩:Inst)])[k]?=some i:=λz=>by rw[ar3 (arQ.mp z).1];exact z
  obtain⟨n,m,hg⟩:=a.hg;obtain⟨n1,hh⟩:=a.hh;exact⟨lt a.hc,⟨n,m,lt hg⟩,lt a.hr,⟨n1,lt hh⟩,a.len,λi h b h1 h2=>by
   obtain⟨n2,z⟩:=a.hb i h b h1 h2;exact⟨n2,lt z⟩,a.nd,λp hp=>⟨lt (a.fr p hp).1,(a.fr p hp).2⟩⟩
 refine⟨_,?_,ex.afz⟩;simp only[as5]at key;simp[oK,tL,hr,hr2,nO,jY];simp[asi,key,few,handed]
end
@[simp]theorem apm (n:Nat) (b:dD):(iB n b).cls="Beast":=rfl
theorem aaR{M:Mo}{h n:Nat}{b:dD}(hb:M[h]?=some (iB n b))(s:Sd):mX M [ob h,s.dat]=.ok .none (M.set h (iB n { b with sd:=s })):=by
 have hl:∀i,(M.set h i)[h]?=some i:=λi=>by rw[bK hb,if_pos rfl]
 simp[mX,qR,Sd.dat,hb,iB,hl,jY]
theorem Zo{M:Mo}{h n:Nat}{b:dD}(hb:M[h]?=some (iB n b)):vN M [ob h]=.ok b.sd.dat:=by simp[vN,Az,Sd.dat,hb,iB]
theorem uf{M:Mo}{h n:Nat}{b:dD}(hb:M[h]?=some (iB n b))(e:En)(he:b.sd.ear.length<=1000)(hf:b.en.length<=50000):mH M [ob h,e.dat]=.ok .none (M.set h (iB n { b with en:=b.en++[e],sd:=go b.sd e })):=by
 have hl:∀i,(M.set h i)[h]?=some i:=λi=>by rw[bK hb,if_pos rfl]
 have h1:(M.set h (iB n { b with en:=b.en++[e] }))[h]?=some (iB n { b with en:=b.en++[e] }):=hl _;have h2:=Zo h1;have h3:=gone_ok (M.set h (iB n { b with en:=b.en++[e] })) b.sd e he;have h4:=aaR h1 (go b.sd e);have h5:b.en.length+1 < 100000:=by omega
 have e1:M.set h ⟨"Beast",[("story",.lst n (b.fi.dat::(b.en.map En.dat++[e.dat]))),("mother",.dat (.int b.mo)),("owner",.dat (.int b.sd.o)),("ground",.dat (.int b.sd.g)),("due",.dat (oY b.sd.due)),("ear",.dat (aJ b.sd.ear)),("alive",.dat (.bool b.sd.al))]⟩=M.set h (iB n { b with en:=b.en++[e] }):=by simp[iB]
 simp[mH,yL,hb,iB,h5];rw[e1];simp[h1,mU,jF,h2,h3,h4];simp[iB]
def aje:Fi->Int
 |.born m _ _=>m
 |_=>0
def Dm(f:Fi):dD:=⟨f,[],aje f,beg f⟩
theorem ahd(M:Mo)(f:Fi):tO (M++[⟨"Beast",[]⟩]) [ob M.length,f.dat]=.ok .none (M++[iB (M.length+1) (Dm f),⟨"",[]⟩]):=by
 have hbeg:=λM=>afq M f;have hg:∀i (r:List Inst),(M++i::r)[M.length]?=some i:=λi r=>by simp
 have hs:∀i j (r:List Inst),(M++i::r).set M.length j=M++j::r:=λi j r=>by simp
 cases f<;>simp[tO,CQ,Fi.dat,hg,hs,jY,mX,qR,jF,Cd,M8,jk,iB,Dm,aje,beg,oY,Fi.dat]
def bZ(L:Lay)(c:aK):List (Nat×Nat×dD):=(L.bs.zip c.bs).mapIdx λi p=>(i,p.1,p.2)
def nb(x:Nat×Nat×dD):Dat:=.tuple [.int ((x.1:Int)+1),ob x.2.1]
theorem Ep{L:Lay}{c:aK}{x:Nat×Nat×dD}(h:x∈bZ L c):L.bs[x.1]?=some x.2.1/\c.bs[x.1]?=some x.2.2:=by unfold bZ at h;obtain⟨i,hi,e⟩:=List.mem_mapIdx.mp h;have hz:=arR hi;rw[asV]at hz;subst e;exact hz
theorem At.hb'{M:Mo}{L:Lay}{c:aK}(a:At M L c){x:Nat×Nat×dD}(h:x∈bZ L c):∃n,M[x.2.1]?=some (iB n x.2.2):=by obtain⟨h1,h2⟩:=Ep h;exact a.hb _ _ _ h1 h2
theorem At.len'{M:Mo}{L:Lay}{c:aK}(a:At M L c):(bZ L c).length=c.bs.length:=by unfold bZ;simp[a.len]
theorem At.enum{M:Mo}{L:Lay}{c:aK}(a:At M L c):pB 1 (L.bs.map ob)=(bZ L c).map nb:=by
 unfold pB bZ;apply asq;intro i;simp only[asN,ar5];by_cases hi:i < L.bs.length
 ·have hi2:i < c.bs.length:=by rw[←a.len];exact hi
  have hz:(L.bs.zip c.bs)[i]?=some (L.bs[i],c.bs[i]):=by rw[asV];exact⟨arR hi,arR hi2⟩
  rw[hz];simp[hi,nb,Int.add_comm]
 ·have hi2:¬i < c.bs.length:=by rw[←a.len];exact hi
  have:(L.bs.zip c.bs)[i]?=none:=by rw[List.getElem?_eq_none_iff,List.length_zip];omega
  simp[asu (by omega:L.bs.length<=i),this]
section
variable{M:Mo}{L:Lay}{c:aK}(a:At M L c)(few:c.bs.length<=50000)
include a few
theorem Ba:pC M [ob L.h]=.ok (.list (((bZ L c).filter λx=>x.2.2.sd.al).map nb)):=by
 obtain⟨n,hh⟩:=a.hh;have hl:=a.len';have he:=a.enum;have key:=fP (tg:=bH [1,2]) (tt:=jh (bL "alive" (ao 2))) (te:=bB (ak (aq 1) (ak (aq 2) au))) (M:=M) (Z:=[some (.dat (ob L.h)),none,none]) nb (λx=>x.2.2.sd.al) nb (bZ L c) λx hx=>⟨[some (.dat (ob L.h)),some (.dat (.int ((x.1:Int)+1))),some (.dat (ob x.2.1))],by simp[nb],by
  obtain⟨n,hb⟩:=a.hb' hx;simp[hb,iB],λ_=>by simp[nb]⟩
 simp[pC,uV,hh,dH];rw[he];simp[key,hl,few]
theorem S9(near:List Int):pG M [ob L.h,lI near]=.ok (.list (((bZ L c).filter λx=>decide (x.2.2.sd.g∈near)&&x.2.2.sd.al).map nb)):=by
 obtain⟨n,hh⟩:=a.hh;have h1:=Ba a few;have hl:((bZ L c).filter λx=>x.2.2.sd.al).length<=50000:=asl (ar7 _ _) (by rw[a.len'];exact few);have key:=fP (tg:=bH [2,3]) (tt:=bh (aA (inD false) (bL "ground" (ao 3)) (ao 1))) (te:=bB (ak (aq 2) (ak (aq 3) au))) (M:=M) (Z:=[some (.dat (ob L.h)),some (.dat (lI near)),none,none]) nb (λx=>decide (x.2.2.sd.g∈near)) nb ((bZ L c).filter λx=>x.2.2.sd.al) λx hx=>⟨[some (.dat (ob L.h)),some (.dat (lI near)),some (.dat (.int ((x.1:Int)+1))),some (.dat (ob x.2.1))],by simp[nb],by
  obtain⟨n,hb⟩:=a.hb' (ash.mp hx).1;simp[hb,iB,Cr],λ_=>by simp[nb]⟩
 rw[ate]at key;simp[pG,yM,hh,dH,dW,h1,key,hl]
theorem agi(o:Int):wM M [ob L.h,.int o]=.ok (.list (((bZ L c).filter λx=>(x.2.2.sd.o==o)&&x.2.2.sd.al).map nb)):=by
 obtain⟨n,hh⟩:=a.hh;have h1:=Ba a few;have hl:((bZ L c).filter λx=>x.2.2.sd.al).length<=50000:=asl (ar7 _ _) (by rw[a.len'];exact few);have key:=fP (tg:=bH [2,3]) (tt:=bh (aA bW (bL "owner" (ao 3)) (ao 1))) (te:=bB (ak (aq 2) (ak (aq 3) au))) (M:=M) (Z:=[some (.dat (ob L.h)),some (.dat (.int o)),none,none]) nb (λx=>x.2.2.sd.o==o) nb ((bZ L c).filter λx=>x.2.2.sd.al) λx hx=>⟨[some (.dat (ob L.h)),some (.dat (.int o)),some (.dat (.int ((x.1:Int)+1))),some (.dat (ob x.2.1))],by simp[nb],by
  obtain⟨n,hb⟩:=a.hb' (ash.mp hx).1;simp[hb,iB],λ_=>by simp[nb]⟩
 rw[ate]at key;simp[wM,CP,hh,dH,dW,h1,key,hl]
theorem YT(k:Int):kW M [ob L.h,.int k]=if 1<=k/\k<=c.bs.length then .ok (ob ((L.bs[(k - 1).toNat]?).getD 0)) else .exc ⟨"NoBeast",[]⟩:=by
 obtain⟨n,hh⟩:=a.hh;have hlen:(L.bs.length:Int)=c.bs.length:=by rw[a.len]
 by_cases h:1<=k/\k<=c.bs.length
 ·rw[if_pos h];obtain⟨j,rfl⟩:∃j:Nat,k=(j:Int)+1:=⟨(k - 1).toNat,by omega⟩;have hj:j < L.bs.length:=by have:=a.len;omega
  have h1:(1:Int)<=j+1:=by omega
  have h2:(j:Int)+1<=L.bs.length:=by omega
  simp[kW,tD,hh,dH,h1,h2,hj]
 ·rw[if_neg h];by_cases h1:1<=k
  ·have h2:¬k<=L.bs.length:=by omega
   simp[kW,tD,hh,dH,h1,h2]
  ·simp[kW,tD,hh,dH,h1]
end
def bk(c:aK)(k:Int):Option dD:=if 1<=k/\k<=c.bs.length then c.bs[(k - 1).toNat]? else none
def hk(L:Lay)(k:Int):Nat:=(L.bs[(k - 1).toNat]?).getD 0
def qb(b:dD)(e:En):dD:={ b with en:=b.en++[e],sd:=go b.sd e }
def gq(c:aK)(i:Nat)(e:En):aK:={ c with bs:=c.bs.modify i λb=>qb b e }
theorem rN{M:Mo}{L:Lay}{c:aK}(a:At M L c){k:Int}{b:dD}(h:bk c k=some b):1<=k/\k<=c.bs.length/\L.bs[(k - 1).toNat]?=some (hk L k)/\c.bs[(k - 1).toNat]?=some b/\∃n,M[hk L k]?=some (iB n b):=by
 unfold bk at h;split at h
 ·next hh=>
  have hl:(k - 1).toNat < L.bs.length:=by have:=a.len;omega
  have e:L.bs[(k - 1).toNat]?=some (hk L k):=by unfold hk;rw[arR hl];rfl
  exact⟨hh.1,hh.2,e,h,a.hb _ _ _ e h⟩
 ·cases h
theorem ag7{c:aK}{k:Int}(h:bk c k=none):¬(1<=k/\k<=c.bs.length):=λz=>by
 unfold bk at h;rw[if_pos z,List.getElem?_eq_none_iff]at h;omega
section
variable{M:Mo}{L:Lay}{c:aK}(a:At M L c)(few:c.bs.length<=50000)
include a few
theorem Jj{k:Int}{b:dD}(h:bk c k=some b):kW M [ob L.h,.int k]=.ok (ob (hk L k)):=by obtain⟨h1,h2,_⟩:=rN a h;rw[YT a few,if_pos ⟨h1,h2⟩];rfl
theorem Sq{k:Int}(h:bk c k=none):kW M [ob L.h,.int k]=.exc ⟨"NoBeast",[]⟩:=by rw[YT a few,if_neg (ag7 h)]
theorem DP(k:Int):rE M [ob L.h,.int k]=match bk c k with
  |none=>.exc ⟨"NoBeast",[]⟩
  |some b=>if b.sd.al then .ok (ob (hk L k)) else .exc ⟨"Dead",[]⟩:=by
 obtain⟨n,hh⟩:=a.hh;cases h:bk c k with
 |none=>
  have h1:=Sq a few h;simp[rE,vH,hh,dH,fJ,h1]
 |some b=>
  have h1:=Jj a few h;obtain⟨_,_,_,_,n',hb⟩:=rN a h;cases h2:b.sd.al<;>simp[rE,vH,hh,dH,fJ,h1,hb,iB,h2]
theorem K8(k:Int):nQ M [ob L.h,.int k]=match bk c k with
  |none=>.exc ⟨"NoBeast",[]⟩
  |some b=>if b.sd.al then(if b.sd.due=none then .exc ⟨"Unmarked",[]⟩ else .ok (ob (hk L k))) else .exc ⟨"Dead",[]⟩:=by
 obtain⟨n,hh⟩:=a.hh;have h0:=DP a few k;cases h:bk c k with
 |none=>
  rw[h]at h0;simp[nQ,qX,hh,dH,bJ,h0]
 |some b=>
  rw[h]at h0;obtain⟨_,_,_,_,n',hb⟩:=rN a h;cases h2:b.sd.al with
  |false=>
   simp[h2]at h0;simp[nQ,qX,hh,dH,bJ,h0,h2]
  |true=>
   simp[h2]at h0;cases h3:b.sd.due<;>simp[nQ,qX,hh,dH,bJ,h0,hb,iB,h2,h3,oY,j9]
def uN(k:Int)(b:dD):Bool:=(b.mo==k)&&b.sd.due.isNone
theorem ado(k:Int):rB M [ob L.h,.int k]=match bk c k with
  |none=>.exc ⟨"NoBeast",[]⟩
  |some _=>.ok (.list (((bZ L c).filter λx=>uN k x.2.2&&x.2.2.sd.al).map nb)):=by
 obtain⟨n,hh⟩:=a.hh;have h1:=Ba a few;have hl:((bZ L c).filter λx=>x.2.2.sd.al).length<=50000:=asl (ar7 _ _) (by rw[a.len'];exact few);have key:=fP (tg:=bH [2,3]) (tt:=jK (bh (aA bW (bL "mother" (ao 3)) (ao 1))) (bh (xK false .none (bL "due" (ao 3))))) (te:=bB (ak (aq 2) (ak (aq 3) au))) (M:=M) (Z:=[some (.dat (ob L.h)),some (.dat (.int k)),none,none]) nb (λx=>uN k x.2.2) nb ((bZ L c).filter λx=>x.2.2.sd.al) λx hx=>⟨[some (.dat (ob L.h)),some (.dat (.int k)),some (.dat (.int ((x.1:Int)+1))),some (.dat (ob x.2.1))],by simp[nb],by
  obtain⟨n,hb⟩:=a.hb' (ash.mp hx).1;by_cases h2:x.2.2.mo=k<;>cases h3:x.2.2.sd.due<;>simp[hb,iB,uN,h2,h3,oY,j9],λ_=>by simp[nb]⟩
 rw[ate]at key;cases h:bk c k with
 |none=>
  have h2:=Sq a few h;simp[rB,vK,hh,dH,fJ,h2]
 |some b=>
  have h2:=Jj a few h;simp[rB,vK,hh,dH,fJ,dW,h1,h2,key,hl]
theorem KC(f:Fi)(hf:c.bs.length < 50000):∃M' h,qI M [ob L.h,f.dat]=.ok (.int (c.bs.length+1)) M'/\At M' { L with bs:=L.bs++[h] } { c with bs:=c.bs++[Dm f] }:=by
 obtain⟨n,hh⟩:=a.hh;have hl:L.h < M.length:=(arQ.mp hh).1;have hi:=ahd M f;have hh2:(M++[iB (M.length+1) (Dm f),⟨"",[]⟩])[L.h]?=some (dH n L):=by rw[ar3 hl];exact hh
 have hs:∀i,((M++[iB (M.length+1) (Dm f),(⟨"",[]⟩:Inst)]).set L.h i)[L.h]?=some i:=λi=>by rw[bK hh2,if_pos rfl]
 have hz:c.bs.length < 100000:=by omega
 refine⟨_,M.length,?_,a.an9 (M2:=M++[iB (M.length+1) (Dm f),⟨"",[]⟩]) (n:=M.length+1) (n2:=n) (asn _) (λk hk=>by rw[ar3 hk]) (by simp)⟩
 simp[qI,wj,hh,dH,hi,hh2,hs,hz,a.len]
end
theorem yU{M:Mo}{L:Lay}{c:aK}(a:At M L c){i h n:Nat}{b:dD}{e:En}(h1:L.bs[i]?=some h)(h2:c.bs[i]?=some b):At (M.set h (iB n (qb b e))) L (gq c i e):=by
 have:=a.setB (n:=n) (b':=qb b e) h1;have hm:c.bs.modify i (λb=>qb b e)=c.bs.set i (qb b e):=by
  apply asq;intro j;rw[List.getElem?_modify,asZ];by_cases hj:i=j
  ·subst hj;have hl:=(arQ.mp h2).1;simp[hl,h2];have:=(arQ.mp h2).2;rw[this]
  ·simp[hj]
 unfold gq;rw[hm];exact this
theorem wz(c:aK)(i j:Nat)(e:En):(gq c i e).bs[j]?=if i=j then(c.bs[j]?).map λb=>qb b e else c.bs[j]?:=by unfold gq;simp only[List.getElem?_modify];by_cases h:i=j<;>simp[h]
def vh(xs:List (Nat×Nat×dD))(e:En)(c:aK):aK:=xs.foldl (λc x=>gq c x.1 e) c
theorem Ph{tg:fO}{body:SF}(Q:Rf.Env->Prop)(P:Nat->aK->Prop)(e:En)(L:Lay)(T:Nat):∀(xs:List (Nat×Nat×dD)) (M:Mo) (c:aK) (Z:Rf.Env) (i:Nat),i+xs.length<=T->At M L c->P i c->Q Z->
  (∀M c Z x i,i < T->At M L c->P i c->Q Z->x∈xs->∃Z1 Z2 M2,tg (nb x) Z=some Z1/\body M Z1=.next Z2 M2/\Q Z2/\At M2 L (gq c x.1 e)/\P (i+1) (gq c x.1 e))->
  ∃Z' M',eO tg body (xs.map nb) M Z=.next Z' M'/\Q Z'/\At M' L (vh xs e c)
 |[],M,c,Z,i,_,a,p,q,_=>⟨Z,M,rfl,q,a⟩
 |x::xs,M,c,Z,i,hT,a,p,q,h=>by
  rw[ar6]at hT;obtain⟨Z1,Z2,M2,h1,h2,h3,h4,h5⟩:=h M c Z x i (by omega) a p q arU;obtain⟨Z',M',g1,g2,g3⟩:=Ph Q P e L T xs M2 _ Z2 (i+1) (by omega) h4 h5 h3 λM c Z y i hi a p q hy=>h M c Z y i hi a p q (arS _ hy);exact⟨Z',M',by rw[arT,gW h1 h2];exact g1,g2,g3⟩
structure Kr(n:Nat)(c:aK):Prop where
 ear:∀b∈c.bs,b.sd.ear.length=6
 en:∀b∈c.bs,b.en.length<=n
theorem akW(s:Sd)(e:En)(he:s.ear.length=6)(h2:match e with|.cut l=>l.length=6|.sold _ l=>l.length=6|_=>True):(go s e).ear.length=6:=by cases e<;>simp_all [go,xZ]
theorem RL(e:En):∀(xs:List (Nat×Nat×dD)) (c:aK) (j:Nat),(xs.map (·.1)).Nodup->(vh xs e c).bs[j]?=if j∈xs.map (·.1) then(c.bs[j]?).map λb=>qb b e else c.bs[j]?
 |[],c,j,_=>by simp[vh]
 |x::xs,c,j,nd=>by
  rw[arT,asW]at nd
  show(vh xs e (gq c x.1 e)).bs[j]?=_
  rw[RL e xs _ j nd.2,wz];by_cases h1:x.1=j
  ·subst h1;rw[if_neg nd.1,if_pos rfl,if_pos (by simp)]
  ·rw[if_neg h1];by_cases h2:j∈xs.map (·.1)
   ·rw[if_pos h2,if_pos (by rw[arT];exact arS _ h2)]
   ·rw[if_neg h2,if_neg (by
     rw[arT,ar4]
     rintro(z|z)
     ·exact h1 z.symm
     ·exact h2 z)]
theorem OD(e:En):∀(xs:List (Nat×Nat×dD)) (c:aK),(vh xs e c)={ c with bs:=(vh xs e c).bs }
 |[],_=>rfl
 |x::xs,c=>by
  show vh xs e (gq c x.1 e)={ c with bs:=(vh xs e (gq c x.1 e)).bs };rw[OD e xs];rfl
theorem adB{L:Lay}{c:aK}(p:Nat×Nat×dD->Bool):(((bZ L c).filter p).map (·.1)).Nodup:=by
 have h:((bZ L c).map (·.1)).Nodup:=by
  have e:(bZ L c).map (·.1)=List.range (L.bs.zip c.bs).length:=by
   unfold bZ;apply asq;intro i;simp only[ar5,asN];by_cases hi:i < (L.bs.zip c.bs).length
   ·rw[arR hi,List.getElem?_range hi];rfl
   ·rw[asu (by omega:(L.bs.zip c.bs).length<=i),asu (by rw[List.length_range];omega:(List.range (L.bs.zip c.bs).length).length<=i)];rfl
  rw[e];exact List.nodup_range
 exact h.sublist (List.Sublist.map _ List.filter_sublist)
def oM(p:dD->Bool)(e:En)(c:aK):aK:={ c with bs:=c.bs.map λb=>if p b then qb b e else b }
theorem Wq{M:Mo}{L:Lay}{c:aK}(a:At M L c)(p:dD->Bool)(e:En):vh ((bZ L c).filter λx=>p x.2.2) e c=oM p e c:=by
 rw[OD];unfold oM;congr 1;apply asq;intro j;rw[RL _ _ _ _ (adB _),ar5];by_cases hj:j < c.bs.length
 ·have hb:=arR hj;rw[hb];have hl:j < L.bs.length:=by rw[a.len];exact hj
  have mem:(j,L.bs[j],c.bs[j])∈bZ L c:=by unfold bZ;rw[List.mem_mapIdx];refine⟨j,by simp;omega,by simp⟩
  by_cases hp:p c.bs[j]=true
  ·have:j∈((bZ L c).filter λx=>p x.2.2).map (·.1):=arY.mpr ⟨_,ash.mpr ⟨mem,hp⟩,rfl⟩;rw[if_pos this];simp[hp]
  ·have:j∉((bZ L c).filter λx=>p x.2.2).map (·.1):=λz=>by
    obtain⟨x,h1,h2⟩:=arY.mp z;obtain⟨h3,h4⟩:=ash.mp h1;obtain⟨_,h5⟩:=Ep h3;rw[h2,hb]at h5;rw[←ase h5]at h4;exact hp h4
   rw[if_neg this];simp[hp]
 ·rw[asu (by omega:c.bs.length<=j)];simp
theorem Kr.step{n:Nat}{c:aK}(bi:Kr n c)(i:Nat)(e:En)(h2:match e with|.cut l=>l.length=6|.sold _ l=>l.length=6|_=>True):Kr (n+1) (gq c i e):=by
 have key:∀b∈(gq c i e).bs,b∈c.bs∨∃b0∈c.bs,b=qb b0 e:=λb hb=>by
  obtain⟨j,hj⟩:=List.mem_iff_getElem?.mp hb;rw[wz]at hj;split at hj
  ·obtain⟨b0,h3,h4⟩:=asx.mp hj;exact .inr ⟨b0,arW h3,h4.symm⟩
  ·exact .inl (arW hj)
 refine⟨λb hb=>?_,λb hb=>?_⟩
 ·rcases key b hb with h|⟨b0,h,rfl⟩
  ·exact bi.ear b h
  ·exact akW _ _ (bi.ear b0 h) h2
 ·rcases key b hb with h|⟨b0,h,rfl⟩
  ·have:=bi.en b h;omega
  ·have:=bi.en b0 h;simp[qb];omega
section
variable{M:Mo}{L:Lay}{c:aK}(a:At M L c)(few:c.bs.length<=1000){n:Nat}(bi:Kr n c)(hn:n<=40000)
include a few bi hn
theorem Gj(k:Int){b:dD}(hk':bk c k=some b):∃M',oA M [ob L.h,.int k]=.ok .none M'/\At M' L (oM (λx=>uN k x&&x.sd.al) (.followed b.sd.o b.sd.g) c):=by
 obtain⟨m,hh⟩:=a.hh;have few2:c.bs.length<=50000:=by omega
 have h1:=Jj a few2 hk';have h2:=ado a few2 k;rw[hk']at h2;obtain⟨k1,k2,k3,k4,k5⟩:=rN a hk';have hlen:((bZ L c).filter λx=>uN k x.2.2&&x.2.2.sd.al).length<=1000:=asl (ar7 _ _) (by rw[a.len'];exact few);obtain⟨Z',M',g1,g2,g3⟩:=Ph (tg:=bH [3,4]) (body:=qN) (λZ=>∃x y,Z=[some (.dat (ob L.h)),some (.dat (.int k)),some (.dat (ob (hk L k))),x,y])
  (λi c1=>(∃b1,c1.bs[(k - 1).toNat]?=some b1/\b1.sd.o=b.sd.o/\b1.sd.g=b.sd.g)/\Kr (n+i) c1/\c1.bs.length=c.bs.length) (.followed b.sd.o b.sd.g) L 1000 ((bZ L c).filter λx=>uN k x.2.2&&x.2.2.sd.al) M c [some (.dat (ob L.h)),some (.dat (.int k)),some (.dat (ob (hk L k))),none,none] 0 (by omega) a ⟨⟨b,k4,rfl,rfl⟩,bi,rfl⟩ ⟨none,none,rfl⟩ (λM1 c1 Z x i hi a1 p1 q1 hx=>by
   obtain⟨⟨bm,m1,m2,m3⟩,bi1,l1⟩:=p1;obtain⟨x0,y0,rfl⟩:=q1;obtain⟨nm,hm⟩:=a1.hb _ _ _ k3 m1;obtain⟨e1,e2⟩:=Ep (ash.mp hx).1;have hl:x.1 < c1.bs.length:=by rw[l1];exact(arQ.mp e2).1
   have e3:=arR hl;obtain⟨nx,hx1⟩:=a1.hb _ _ _ e1 e3;have mem:=asH hl;have hb:=uf hx1 (.followed b.sd.o b.sd.g) (by rw[bi1.ear _ mem];decide) (by have:=bi1.en _ mem;omega);refine⟨[some (.dat (ob L.h)),some (.dat (.int k)),some (.dat (ob (hk L k))),some (.dat (.int ((x.1:Int)+1))),some (.dat (ob x.2.1))],[some (.dat (ob L.h)),some (.dat (.int k)),some (.dat (ob (hk L k))),some (.dat (.int ((x.1:Int)+1))),some (.dat (ob x.2.1))],_,by simp[nb],?_,⟨_,_,rfl⟩,yU (n:=nx) a1 e1 e3,?_,bi1.step _ _ trivial,by simp[gq,l1]⟩
   ·have hb:mH M1 [ob x.2.1,.tuple [.str "followed",.int b.sd.o,.int b.sd.g]]=_:=hb
    simp[qN,hx1,hm,bO];simp[iB]at hb ⊢;simp[m2,m3,hb,qb]
   ·rw[wz,m1];by_cases z:x.1=(k - 1).toNat
    ·exact⟨qb bm (.followed b.sd.o b.sd.g),by rw[if_pos z];rfl,rfl,rfl⟩
    ·exact⟨bm,by rw[if_neg z],m2,m3⟩)
 rw[Wq a (λx=>uN k x&&x.sd.al)]at g3;refine⟨M',?_,g3⟩;simp[oA,tV,hh,dH,fJ,zB,h1,h2,g1]
end
def pD(p:Int×Int):Dat:=.tuple [.int p.1,.int p.2]
theorem Di:∀(x y:List Int),wN (x.map PyData.int) (y.map PyData.int)=(x.zip y).map pD
 |[],_=>by simp[wN]
 |_::_,[]=>by simp[wN]
 |a::x,b::y=>by
  have:=Di x y;unfold wN at this ⊢;rw[arT,arT,List.zipWith_cons_cons,this,as6,arT];rfl
def vf(x y:List Int):Int:=(((x.zip y).filter λp=>decide (p.1 < p.2)).map λp=>p.2 - p.1).sum
def eE(x y:List Int):Int:=if vf y x > vf x y then vf y x else vf x y
def jM(x y:List Int):List Int:=(x.zip y).map λp=>if p.2 > p.1 then p.2 else p.1
theorem ain(x y:List Int)(h:x.length<=1000):(x.zip y).length<=50000:=by rw[List.length_zip];omega
theorem Xb(l:List Int):Vd (.list (l.map PyData.int))=.ok (.int l.sum):=by
 show(match intsOf (l.map PyData.int) with
  |some ns=>Out.ok (PyData.int ns.sum)
  |none=>.bad)=_
 rw[xV]
theorem Qs(M:Mo)(x y:List Int)(h:x.length<=1000):ux M [aJ x,aJ y]=.ok (.int (vf x y)):=by
 have key:=fP (tg:=bH [2,3]) (tt:=bh (aA Wv (ao 3) (ao 2))) (te:=aA kY (ao 3) (ao 2)) (M:=M) (Z:=[some (.dat (aJ x)),some (.dat (aJ y)),none,none]) pD (λp=>decide (p.1 < p.2)) (λp=>.int (p.2 - p.1)) (x.zip y) λp _=>⟨[some (.dat (aJ x)),some (.dat (aJ y)),some (.dat (.int p.1)),some (.dat (.int p.2))],by simp[pD],by simp,λ_=>by simp⟩;have hz:=ain x y h;have hs:=Xb (((x.zip y).filter λp=>decide (p.1 < p.2)).map λp=>p.2 - p.1);rw[asr]at hs;have hz2:min x.length y.length<=50000:=by omega
 simp[ux,Vc,Di,key,hz2];simp[asi]at hs;simp[hs,vf]
theorem agp(M:Mo)(x y:List Int)(h:x.length<=1000)(h2:y.length<=1000):Hj M [aJ x,aJ y]=.ok (.int (eE x y)):=by simp[Hj,Vr,Qs M x y h,Qs M y x h2,eE]
theorem Jt(x y:List Int):eE x y=eE y x:=by
 unfold eE
 split<;>split<;>omega
theorem UW(M:Mo)(x y:List Int)(r:Int)(h:x.length<=1000)(h2:y.length<=1000):rH M [aJ x,aJ y,.int r]=.ok (.bool (decide (eE x y<=r))):=by simp[rH,Zw,agp M x y h h2]
theorem Ip(M:Mo)(x y:List Int)(h:x.length<=1000):qj M [aJ x,aJ y]=.ok (aJ (jM x y)):=by
 have key:=eZ (tg:=bH [2,3]) (te:=aA qL (ao 2) (ao 3)) (M:=M) (Z:=[some (.dat (aJ x)),some (.dat (aJ y)),none,none]) pD (λp=>.int (if p.2 > p.1 then p.2 else p.1)) (x.zip y) λp _=>⟨[some (.dat (aJ x)),some (.dat (aJ y)),some (.dat (.int p.1)),some (.dat (.int p.2))],by simp[pD],by simp⟩;have hz2:min x.length y.length<=50000:=by omega
 simp[qj,Vh,Di,key,hz2,jM]
abbrev Rw:=Ear.Rw
theorem Lw:∀R:List Rw,BK (R.map Ear.rD)=some R
 |[]=>rfl
 |r::R=>by
  rw[arT,BK,Lw R];have:aco (Ear.rD r)=some r:=by
   unfold Ear.rD Ear.dT
   show(intsOf (r.2.map PyData.int)).map _=_
   rw[xV];rfl
  rw[this];rfl
theorem Lp(M:Mo)(R:List Rw)(h:R.eraseDups.length<=76):qw M [.list (R.map Ear.rD)]=.ok (.list ((bM R).map Ear.rD)):=by
 have:RB (.list (R.map Ear.rD))=.ok (.list ((bM R).map Ear.rD)):=by
  show(match BK (R.map Ear.rD) with
   |some R=>match decide (R.eraseDups.length<=76) with
    |true=>Out.ok (PyData.list ((bM R).map Ear.rD))
    |false=>.bad
   |none=>.bad)=_
  rw[Lw]
  show(match decide (R.eraseDups.length<=76) with
    |true=>Out.ok (PyData.list ((bM R).map Ear.rD))
    |false=>.bad)=_
  rw[decide_eq_true h]
 simp[qw,Pg,this]
theorem ql(R:List Rw):(bM R).length=R.eraseDups.length:=by unfold bM pA;rw[List.length_mergeSort]
def vO(o:Int)(e:List Int)(R:List Rw)(room:Int):List Rw:=(bM R).filter λr=>!(r.1==o)&&decide (eE e r.2<=room)
def qP(R:List Rw):Prop:=∀r∈R,r.2.length=6
theorem acf(M:Mo)(o:Int)(e:List Int)(R:List Rw)(room:Int)(he:e.length=6)(hR:qP R)(h:R.eraseDups.length<=76):Am M [.int o,aJ e,.list (R.map Ear.rD),.int room]=.ok (.list ((vO o e R room).map Ear.rD)):=by
 have ht:=Lp M R h;have hl:(bM R).length<=50000:=by rw[ql];omega
 have key:=fP (tg:=bH [4,5]) (tt:=jK (bh (aA uZ (ao 4) (ao 0))) (jh (aV rH (ak (aq 1) (ak (aq 5) (ak (aq 3) au)))))) (te:=bB (ak (aq 4) (ak (aq 5) au))) (M:=M) (Z:=[some (.dat (.int o)),some (.dat (aJ e)),some (.dat (.list (R.map Ear.rD))),some (.dat (.int room)),none,none]) Ear.rD (λr=>!(r.1==o)&&decide (eE e r.2<=room)) Ear.rD (bM R) λr hr=>⟨[some (.dat (.int o)),some (.dat (aJ e)),some (.dat (.list (R.map Ear.rD))),some (.dat (.int room)),some (.dat (.int r.1)),some (.dat (aJ r.2))],by simp[Ear.rD,Ear.dT],by
  have:=UW M e r.2 room (by omega) (by rw[hR r (eY.mp hr)];decide);by_cases hz:r.1=o<;>simp[this,hz],λ_=>by simp[Ear.rD,Ear.dT]⟩
 simp[Am,Le,ht,key,hl,vO]
theorem Ow(M:Mo)(o:Int)(e:List Int)(R:List Rw)(room:Int)(he:e.length=6)(hR:qP R)(h:R.eraseDups.length<=76):oU M [.int o,aJ e,.list (R.map Ear.rD),.int room]=match vO o e R room with
  |[]=>.ok .none
  |r::_=>.exc ⟨"Clash",[("ear",aJ (jM e r.2)),("others",Ear.rD r),("ones",Ear.rD (o,e))]⟩:=by
 have hb:=acf M o e R room he hR h;cases hx:vO o e R room with
 |nil=>
  rw[hx]at hb;simp[oU,BW,hb]
 |cons r rs=>
  rw[hx]at hb;have hj:=Ip M e r.2 (by omega);simp[oU,BW,hb];simp[Ear.rD,Ear.dT,hj]
theorem Iz{α β:Type}{tg tg1:fO}{tt tt1:QT}{it1:IF}{vs1:List Nat}{te:QF}{M:Mo}{Z:Rf.Env}(ds:α->Dat)(ys:α->List β)(ds1:β->Dat)(p:α->β->Bool)(f:α->β->Dat):∀(xs:List α),(∀x∈xs,∃Z1,tg (ds x) Z=some Z1/\tt M Z1=.ok true/\zJ Z1=true/\it1 M Z1=.ok ((ys x).map ds1)/\∀y∈ys x,∃Z2,tg1 (ds1 y) (cC Z1 vs1)=some Z2/\tt1 M Z2=.ok (p x y)/\(p x y=true->te M Z2=.ok (f x y)))->
  gU tg tt it1 tg1 vs1 tt1 te M Z (xs.map ds)=.ok (xs.flatMap λx=>((ys x).filter (p x)).map (f x))
 |[],_=>rfl
 |x::xs,h=>by
  obtain⟨Z1,h1,h2,h3,h4,h5⟩:=h x arU;have ih:=Iz ds ys ds1 p f xs λy hy=>h y (arS _ hy);have hc:=fP (tg:=tg1) (tt:=tt1) (te:=te) (M:=M) (Z:=cC Z1 vs1) ds1 (p x) (f x) (ys x) h5;rw[arT,gU,h1]
  show((yD (tt M Z1)).bind λb=>if b=true then Out.when (zJ Z1) ((yD (it1 M Z1)).bind λes=>(dB tg1 tt1 te M (cC Z1 vs1) es).bind λr1=>(gU tg tt it1 tg1 vs1 tt1 te M Z (xs.map ds)).bind λr=>Out.ok (r1++r)) else gU tg tt it1 tg1 vs1 tt1 te M Z (xs.map ds))=_
  rw[h2,ZS,Out.yS,if_pos rfl,h3,Out.W6,h4,ZS,Out.yS,hc,Out.yS,ih,Out.yS,List.flatMap_cons]
def cY(x:List Int):Bool:=decide (x.length=6)&&x.all λd=>decide (0<=d)&&decide (d<=9)
theorem Em(l:List Bool):uE (l.map PyData.bool)=some l:=by
 induction l with
 |nil=>rfl
 |cons b l ih=>rw[arT,uE,ih];rfl
theorem V9(M:Mo)(x:List Int)(h:x.length<=1000):ug M [aJ x]=.ok (.bool (cY x)):=by
 have key:=eZ (tg:=aF 1) (te:=Tn (lN sV sV (qC (.int 0)) (ao 1) (qC cQ))) (M:=M) (Z:=[some (.dat (aJ x)),none]) PyData.int (λd=>.bool (decide (0<=d)&&decide (d<=9))) x λd _=>⟨[some (.dat (aJ x)),some (.dat (.int d))],by simp,by
  by_cases h0:0<=d<;>simp[h0,cQ]⟩
 have ha:Qn (.list (x.map λd=>PyData.bool (decide (0<=d)&&decide (d<=9))))=.ok (.bool (x.all λd=>decide (0<=d)&&decide (d<=9))):=by
  have e:(x.map λd=>PyData.bool (decide (0<=d)&&decide (d<=9)))=(x.map λd=>decide (0<=d)&&decide (d<=9)).map PyData.bool:=by rw[asr];rfl
  rw[e]
  show(match uE _ with
   |some bs=>Out.ok (PyData.bool (bs.all id))
   |none=>.bad)=_
  rw[Em];simp[List.all_map,asi]
 have hl:x.length<=50000:=by omega
 by_cases h6:x.length=6
 ·have h6':((x.length:Int)==6)=true:=by simp[h6]
  simp[ug,Jf,iU,key,hl,ha,cY,h6]
 ·have h6':¬(x.length:Int)=6:=by omega
  simp[ug,Jf,iU,cY,h6,h6']
theorem Om(M:Mo)(x:List Int)(h:x.length<=1000):qJ M [aJ x]=if cY x then .ok .none else .exc ⟨"BadEar",[]⟩:=by have:=V9 M x h;cases hb:cY x<;>simp[qJ,JG,this,hb]
def pairD(p:Rw×Rw):Dat:=.tuple [Ear.rD p.1,Ear.rD p.2]
def jG(T:List Rw)(room:Int):List (Rw×Rw):=(T.mapIdx λi r=>(i,r)).flatMap λx=>((T.drop (x.1+1)).filter λs=>!(x.2.1==s.1)&&decide (eE x.2.2 s.2<=room)).map λs=>(x.2,s)
theorem aaz(T:List Rw)(room:Int):(jG T room).length<=T.length * T.length:=by
 unfold jG;rw[List.length_flatMap];have key:∀(l:List (Nat×Rw)),(l.map λx=>(((T.drop (x.1+1)).filter λs=>!(x.2.1==s.1)&&decide (eE x.2.2 s.2<=room)).map λs=>(x.2,s)).length).sum<=l.length * T.length:=by
  intro l
  induction l with
  |nil=>simp
  |cons x l ih=>
   rw[arT,List.sum_cons,ar6,Nat.add_mul,Nat.one_mul];have:(((T.drop (x.1+1)).filter λs=>!(x.2.1==s.1)&&decide (eE x.2.2 s.2<=room)).map λs=>(x.2,s)).length<=T.length:=by rw[arZ];refine asl (ar7 _ _) ?_;rw[ati];omega
   omega
 have:=key (T.mapIdx λi r=>(i,r));rw[List.length_mapIdx]at this;exact this
theorem aaN(M:Mo)(R:List Rw)(room:Int)(hR:qP R)(h:R.eraseDups.length<=76):uD M [.list (R.map Ear.rD),.int room]=.ok (.list ((jG (bM R) room).map pairD)):=by
 have ht:=Lp M R h;have hl:(bM R).length<=76:=by rw[ql];exact h
 have hE:∀r∈bM R,r.2.length=6:=λr hr=>hR r (eY.mp hr);generalize bM R=T at ht hl hE;have he:pB 0 (T.map Ear.rD)=(T.mapIdx λi r=>(i,r)).map λ(x:Nat×Rw)=>PyData.tuple [.int x.1,Ear.rD x.2]:=by unfold pB;apply asq;intro i;simp;cases T[i]?<;>simp
 have key:=Iz (tg:=bH [3,4]) (tg1:=aF 5) (tt:=gY) (it1:=cR (OJ (ao 2) (rC (aA fu (ao 3) (qC (.int 1)))) Ah)) (vs1:=[5]) (tt1:=jK (bh (aA uZ (aA aP (ao 4) (qC (.int 0))) (aA aP (ao 5) (qC (.int 0))))) (jh (aV rH (ak (aA aP (ao 4) (qC (.int 1))) (ak (aA aP (ao 5) (qC (.int 1))) (ak (aq 1) au)))))) (te:=bB (ak (aq 4) (ak (aq 5) au))) (M:=M) (Z:=[some (.dat (.list (R.map Ear.rD))),some (.dat (.int room)),some (.dat (.list (T.map Ear.rD))),none,none,none])
  (λ(x:Nat×Rw)=>PyData.tuple [.int x.1,Ear.rD x.2]) (λx=>T.drop (x.1+1)) Ear.rD (λx s=>!(x.2.1==s.1)&&decide (eE x.2.2 s.2<=room)) (λx s=>pairD (x.2,s)) (T.mapIdx λi r=>(i,r)) λx hx=>⟨[some (.dat (.list (R.map Ear.rD))),some (.dat (.int room)),some (.dat (.list (T.map Ear.rD))),some (.dat (.int x.1)),some (.dat (Ear.rD x.2)),none],by simp,rfl,rfl,by
   have:=YQ (T.map Ear.rD) (x.1+1);simp at this ⊢;rw[this],λs hs=>⟨[some (.dat (.list (R.map Ear.rD))),some (.dat (.int room)),some (.dat (.list (T.map Ear.rD))),some (.dat (.int x.1)),some (.dat (Ear.rD x.2)),some (.dat (Ear.rD s))],by simp,by
   obtain⟨i,hi,rfl⟩:=List.mem_mapIdx.mp hx;have h1:=hE _ (asH hi);have h2:=hE s (List.mem_of_mem_drop hs);have:=UW M (T[i]).2 s.2 room (by omega) (by omega);by_cases hz:(T[i]).1=s.1<;>simp[Ear.rD,Ear.dT,this,hz],λ_=>by simp[pairD]⟩⟩
 have e2:((T.mapIdx λi r=>(i,r)).flatMap λx=>((T.drop (x.1+1)).filter λs=>!(x.2.1==s.1)&&decide (eE x.2.2 s.2<=room)).map λs=>pairD (x.2,s))=(jG T room).map pairD:=by unfold jG;rw[List.map_flatMap];congr 1;funext x;rw[asr];rfl
 rw[e2]at key;have hc:(jG T room).length<=50000:=by have:=aaz T room;have:T.length * T.length<=76 * 76:=Nat.mul_le_mul hl hl;omega
 simp[uD,Jd,ht];rw[he];simp[key,hc]
def hdD(x:List Int×Int):Dat:=.tuple [aJ x.1,.int x.2]
def Mj(d l:Int):Int:=(if 9 < d+l then 9 else d+l)+1
def BL(d l:Int):List Int:=(List.range (Mj d l - d).toNat).map λ(i:Nat)=>d+(i:Int)
def stepT(d:Int)(H:List (List Int×Int)):List (List Int×Int):=H.flatMap λx=>(BL d x.2).map λcut=>(x.1++[cut],x.2 - (cut - d))
structure Px(k:Nat)(H:List (List Int×Int)):Prop where
 len:H.length<=4 ^ k
 left:∀x∈H,0<=x.2/\x.2<=3
 hd:∀x∈H,x.1.length=k/\∀y∈x.1,0<=y/\y<=9
theorem adE{d l:Int}(hl:0<=l/\l<=3):(BL d l).length<=4:=by
 unfold BL Mj;simp
 split<;>omega
theorem WM{d l y:Int}(h:y∈BL d l):d<=y/\y<=d+l/\y<=9:=by unfold BL Mj at h;obtain⟨i,hi,rfl⟩:=arY.mp h;rw[List.mem_range]at hi;split at hi<;>omega
theorem Wx{k:Nat}{H:List (List Int×Int)}{d:Int}(i:Px k H)(hd:0<=d/\d<=9):Px (k+1) (stepT d H):=by
 refine⟨?_,λx hx=>?_,λx hx=>?_⟩
 ·have key:∀l:List (List Int×Int),(∀x∈l,0<=x.2/\x.2<=3)->(stepT d l).length<=l.length * 4:=by
   intro l
   induction l with
   |nil=>intro _;simp[stepT]
   |cons x l ih=>
    intro h;have h1:=ih λy hy=>h y (arS _ hy);have h2:=adE (d:=d) (h x arU);unfold stepT at h1 ⊢;rw[List.flatMap_cons,asF,arZ,ar6];omega
  have:=key H i.left;have:=i.len;rw[Nat.pow_succ];omega
 ·unfold stepT at hx;obtain⟨y,hy,hx⟩:=List.mem_flatMap.mp hx;obtain⟨c,hc,rfl⟩:=arY.mp hx;have:=WM hc;have:=i.left y hy;show 0<=y.2 - (c - d)/\y.2 - (c - d)<=3;omega
 ·unfold stepT at hx;obtain⟨y,hy,hx⟩:=List.mem_flatMap.mp hx;obtain⟨c,hc,rfl⟩:=arY.mp hx;have:=WM hc;obtain⟨h1,h2⟩:=i.hd y hy;refine⟨by simp[h1],λz hz=>?_⟩;rcases ar0.mp hz with hz|hz
  ·exact h2 z hz
  ·rw[arV.mp hz];omega
theorem aeW(M:Mo)(e m:Option Cell)(he:zJ [e,m]=true){k:Nat}{H:List (List Int×Int)}{d:Int}(i:Px k H)(hk:k<=5)(hd:0<=d/\d<=9):CJ M [e,m,some (.dat (.list (H.map hdD))),some (.dat (.int d)),none,none,none]=.next [e,m,some (.dat (.list ((stepT d H).map hdD))),some (.dat (.int d)),none,none,none] M:=by
 have key:=Iz (tg:=bH [4,5]) (tg1:=aF 6) (tt:=gY) (it1:=Ck (ao 3) (aA fu (aA Il (aA fu (ao 3) (ao 5)) (qC cQ)) (qC (.int 1)))) (vs1:=[6]) (tt1:=gY) (te:=bB (ak (aA fu (ao 4) (bB (ak (aq 6) au))) (ak (aA kY (ao 5) (aA kY (ao 6) (ao 3))) au))) (M:=M) (Z:=[e,m,some (.dat (.list (H.map hdD))),some (.dat (.int d)),none,none,none])
  hdD (λx=>BL d x.2) PyData.int (λ_ _=>true) (λx c=>hdD (x.1++[c],x.2 - (c - d))) H λx hx=>⟨[e,m,some (.dat (.list (H.map hdD))),some (.dat (.int d)),some (.dat (aJ x.1)),some (.dat (.int x.2)),none],by simp[hdD],rfl,by
   simp[zJ]at he ⊢;exact he,by
   have hl:=i.left x hx;have hz:Mj d x.2<=100000/\-100000<=Mj d x.2/\d<=100000/\-100000<=d:=by unfold Mj;split<;>omega
   have e1:jC d (Mj d x.2 - d).toNat=(BL d x.2).map PyData.int:=by unfold jC BL;rw[asr];rfl
   have e2:(if 9 < d+x.2 then(9:Int) else d+x.2)+1=Mj d x.2:=rfl;simp[cQ,e2,e1,hz],λc hc=>⟨[e,m,some (.dat (.list (H.map hdD))),some (.dat (.int d)),some (.dat (aJ x.1)),some (.dat (.int x.2)),some (.dat (.int c))],by simp,rfl,λ_=>by
   have h1:=(i.hd x hx).1;have h2:x.1.length+1<=100000:=by omega
   simp[hdD,h2]⟩⟩
 have e2:(H.flatMap λx=>((BL d x.2).filter λ_=>true).map λc=>hdD (x.1++[c],x.2 - (c - d)))=(stepT d H).map hdD:=by unfold stepT;rw[List.map_flatMap];congr 1;funext x;rw[atc.mpr (λ_ _=>rfl),asr];rfl
 rw[e2]at key;have hl:(stepT d H).length<=50000:=by have:=(Wx i hd).len;have:4 ^ (k+1)<=4 ^ 6:=Nat.pow_le_pow_right (by decide) (by omega);omega
 simp[CJ,key,hl]
theorem Lk(M:Mo)(e m:Option Cell)(he:zJ [e,m]=true):∀(ear:List Int) (k:Nat) (H:List (List Int×Int)) (o:Option Cell),Px k H->k+ear.length<=6->(∀d∈ear,0<=d/\d<=9)->
  (∃o',eO (aF 3) CJ (ear.map PyData.int) M [e,m,some (.dat (.list (H.map hdD))),o,none,none,none]=.next [e,m,some (.dat (.list ((ear.foldl (λH d=>stepT d H) H).map hdD))),o',none,none,none] M)/\Px (k+ear.length) (ear.foldl (λH d=>stepT d H) H)
 |[],k,H,o,i,_,_=>⟨⟨o,rfl⟩,i⟩
 |d::ear,k,H,o,i,hk,hd=>by
  rw[ar6]at hk;have h1:=hd d arU;obtain⟨⟨o',ih⟩,i2⟩:=Lk M e m he ear (k+1) (stepT d H) (some (.dat (.int d))) (Wx i h1) (by omega) λy hy=>hd y (arS _ hy);refine⟨⟨o',?_⟩,?_⟩
  ·rw[arT,gW (Z1:=[e,m,some (.dat (.list (H.map hdD))),some (.dat (.int d)),none,none,none]) (by simp) (aeW M e m he i (by omega) h1),ih];rfl
  ·rw[ar6,show k+(ear.length+1)=k+1+ear.length by omega];exact i2
def Eu(ear:List Int)(many:Int):List (List Int):=(ear.foldl (λH d=>stepT d H) [([],many)]).map (·.1)
theorem ac8{many:Int}(hm:0<=many/\many<=3):Px 0 [([],many)]:=⟨by simp,λx hx=>by rw[arV.mp hx];exact hm,λx hx=>by rw[arV.mp hx];simp⟩
theorem O8{ear:List Int}{many:Int}(he:cY ear=true)(hm:0<=many/\many<=3):Px 6 (ear.foldl (λH d=>stepT d H) [([],many)]):=by unfold cY at he;rw[arP,ato,asj]at he;have:=(Lk [] none none rfl ear 0 [([],many)] none (ac8 hm) (by omega) λd hd=>by simpa using he.2 d hd).2;rw[he.1]at this;exact this
theorem aiO(M:Mo)(ear:List Int)(many:Int)(he:cY ear=true)(hm:0<=many/\many<=3):Ks M [aJ ear,.int many]=.ok (.list ((Eu ear many).map aJ)):=by
 have he':=he;unfold cY at he';rw[arP,ato,asj]at he';obtain⟨⟨o',h1⟩,_⟩:=Lk M (some (.dat (aJ ear))) (some (.dat (.int many))) rfl ear 0 [([],many)] none (ac8 hm) (by omega) λd hd=>by simpa using he'.2 d hd
 have hi:=O8 he hm;generalize hH:ear.foldl (λH d=>stepT d H) [([],many)]=H at h1 hi;have key:=eZ (tg:=bH [4,5]) (te:=aq 4) (M:=M) (Z:=[some (.dat (aJ ear)),some (.dat (.int many)),some (.dat (.list (H.map hdD))),o',none,none,none]) hdD (λx=>aJ x.1) H λx _=>⟨[some (.dat (aJ ear)),some (.dat (.int many)),some (.dat (.list (H.map hdD))),o',some (.dat (aJ x.1)),some (.dat (.int x.2)),none],by simp[hdD],by simp⟩;have hl:H.length<=50000:=by
  have:=hi.len;have:(4:Nat) ^ 6=4096:=by decide
  omega
 have h1':eO (aF 3) CJ (ear.map PyData.int) M [some (.dat (aJ ear)),some (.dat (.int many)),some (.dat (.list [.tuple [.tuple [],.int many]])),none,none,none,none]=_:=h1;have key2:∀o2:Option Cell,dB (bH [4,5]) gY (aq 4) M [some (.dat (aJ ear)),some (.dat (.int many)),some (.dat (.list (H.map hdD))),o2,none,none,none] (H.map hdD)=.ok (H.map λx=>aJ x.1):=λo2=>eZ (tg:=bH [4,5]) (te:=aq 4) (M:=M) (Z:=[some (.dat (aJ ear)),some (.dat (.int many)),some (.dat (.list (H.map hdD))),o2,none,none,none]) hdD (λx=>aJ x.1) H λx _=>⟨[some (.dat (aJ ear)),some (.dat (.int many)),some (.dat (.list (H.map hdD))),o2,some (.dat (aJ x.1)),some (.dat (.int x.2)),none],by simp[hdD],by simp⟩;simp[Ks,Y7,h1',key2,hl,Eu,hH]
def zE(mark:List Int)(extra:Int):List (List Int):=(Eu mark extra).filter λe=>vf mark e==extra
theorem Kw{ear:List Int}{many:Int}(he:cY ear=true)(hm:0<=many/\many<=3){x:List Int}(h:x∈Eu ear many):cY x=true:=by obtain⟨y,hy,rfl⟩:=arY.mp h;obtain⟨h1,h2⟩:=(O8 he hm).hd y hy;unfold cY;rw[arP,ato,asj];exact⟨h1,λd hd=>by simpa using h2 d hd⟩
theorem adt{ear:List Int}{many:Int}(he:cY ear=true)(hm:0<=many/\many<=3):(Eu ear many).length<=4096:=by unfold Eu;rw[arZ];exact(O8 he hm).len
theorem KY(M:Mo)(mark:List Int)(extra:Int)(he:cY mark=true)(hm:0<=extra/\extra<=3):oX M [aJ mark,.int extra]=.ok (.list ((zE mark extra).map aJ)):=by
 have h1:=aiO M mark extra he hm;have hl:=adt he hm;have h6:mark.length<=1000:=by unfold cY at he;rw[arP,ato]at he;omega
 have key:=fP (tg:=aF 2) (tt:=bh (aA bW (aV ux (ak (aq 0) (ak (aq 2) au))) (ao 1))) (te:=aq 2) (M:=M) (Z:=[some (.dat (aJ mark)),some (.dat (.int extra)),none]) aJ (λe=>vf mark e==extra) aJ (Eu mark extra) λx _=>⟨[some (.dat (aJ mark)),some (.dat (.int extra)),some (.dat (aJ x))],by simp,by
  have:=Qs M mark x h6;simp[this],λ_=>by simp⟩
 have hl2:(Eu mark extra).length<=50000:=by omega
 simp[oX,Fl,h1,key,hl2,zE]
def nM(R:List Rw)(room:Int)(e:List Int):Bool:=!(R.any λr=>decide (eE e r.2<=room))
theorem ZR(l:List Bool):Py (.list (l.map PyData.bool))=.ok (.bool (l.any id)):=by
 show(match uE (l.map PyData.bool) with
  |some bs=>Out.ok (PyData.bool (bs.any id))
  |none=>.bad)=_
 rw[Em]
theorem ab1(M:Mo)(R:List Rw)(room:Int)(hR:qP R)(hl:R.length<=50000)(mk:List Int)(x:Int)(e:List Int)(he:e.length=6) :
  jX M [some (.dat (aJ mk)),some (.dat (.int x)),some (.dat (.list (R.map Ear.rD))),some (.dat (.int room)),some (.dat (aJ e)),none,none]=if nM R room e then .ret (aJ e) M else .next [some (.dat (aJ mk)),some (.dat (.int x)),some (.dat (.list (R.map Ear.rD))),some (.dat (.int room)),some (.dat (aJ e)),none,none] M:=by
 have key:=eZ (tg:=bH [5,6]) (te:=aV rH (ak (aq 4) (ak (aq 6) (ak (aq 3) au)))) (M:=M) (Z:=[some (.dat (aJ mk)),some (.dat (.int x)),some (.dat (.list (R.map Ear.rD))),some (.dat (.int room)),some (.dat (aJ e)),none,none]) Ear.rD (λr=>.bool (decide (eE e r.2<=room))) R λr hr=>⟨[some (.dat (aJ mk)),some (.dat (.int x)),some (.dat (.list (R.map Ear.rD))),some (.dat (.int room)),some (.dat (aJ e)),some (.dat (.int r.1)),some (.dat (aJ r.2))],by simp[Ear.rD,Ear.dT],by
  have:=UW M e r.2 room (by omega) (by rw[hR r hr];decide);simp[this]⟩
 have ha:=ZR (R.map λr=>decide (eE e r.2<=room));rw[asr]at ha;simp only[asi,ath]at ha;cases hf:nM R room e<;>simp[jX,key,hl,ha]<;>simp[nM]at hf<;>simpa using hf
theorem QJ(M:Mo)(R:List Rw)(room:Int)(hR:qP R)(hl:R.length<=50000)(mk:List Int)(x:Int):∀(es:List (List Int)) (o:Option Cell),(∀e∈es,e.length=6)->
  match es.find? (nM R room) with
   |some e=>eO (aF 4) jX (es.map aJ) M [some (.dat (aJ mk)),some (.dat (.int x)),some (.dat (.list (R.map Ear.rD))),some (.dat (.int room)),o,none,none]=.ret (aJ e) M
   |none=>∃Z',eO (aF 4) jX (es.map aJ) M [some (.dat (aJ mk)),some (.dat (.int x)),some (.dat (.list (R.map Ear.rD))),some (.dat (.int room)),o,none,none]=.next Z' M
 |[],o,_=>⟨_,rfl⟩
 |e::es,o,he=>by
  have h1:=ab1 M R room hR hl mk x e (he e arU);have ih:=QJ M R room hR hl mk x es (some (.dat (aJ e))) λy hy=>he y (arS _ hy);rw[List.find?_cons];cases hf:nM R room e with
  |true=>
   rw[hf,if_pos rfl]at h1;show eO _ _ _ _ _=_;rw[arT,eO];simp[h1]
  |false=>
   rw[hf,if_neg (by decide)]at h1;have e1:eO (aF 4) jX ((e::es).map aJ) M [some (.dat (aJ mk)),some (.dat (.int x)),some (.dat (.list (R.map Ear.rD))),some (.dat (.int room)),o,none,none]=eO (aF 4) jX (es.map aJ) M [some (.dat (aJ mk)),some (.dat (.int x)),some (.dat (.list (R.map Ear.rD))),some (.dat (.int room)),some (.dat (aJ e)),none,none]:=by rw[arT,gW (by simp) h1]
   rw[e1];exact ih
theorem Xu(M:Mo)(mark:List Int)(extra:Int)(R:List Rw)(room:Int)(he:cY mark=true)(hm:0<=extra/\extra<=3)(hR:qP R)(hl:R.length<=50000):pY M [aJ mark,.int extra,.list (R.map Ear.rD),.int room]=match (zE mark extra).find? (nM R room) with
  |some e=>.ok (aJ e)
  |none=>.exc ⟨"NoneFree",[]⟩:=by
 have h1:=KY M mark extra he hm;have h2:=QJ M R room hR hl mark extra (zE mark extra) none λe h=>by
  have:=Kw he hm (ash.mp h).1;unfold cY at this;rw[arP,ato]at this;exact this.1
 cases hf:(zE mark extra).find? (nM R room) with
 |some e=>
  rw[hf]at h2;simp[pY,wY,h1,h2]
 |none=>
  rw[hf]at h2;obtain⟨Z',h2⟩:=h2;simp[pY,wY,h1,h2]
@[simp]theorem anW (L:Lay) (c:aK):(aO L c).cls="Commons":=rfl
theorem any_keys(y:Int)(l:List Int):((l.map λo=>(PyData.int o,PyData.bool true)).any λp=>PyData.eqv p.1 (.int y))=decide (y∈l):=by have:=any_ints y l;rw[ath]at this ⊢;exact this
section
variable{M:Mo}{L:Lay}{c:aK}(a:At M L c)
include a
theorem lH(o:Int):ju M [ob L.c,.int o]=if o∈c.own then .ok .none else .exc ⟨"NoOwner",[]⟩:=by
 have hc:=a.hc;have hk:=any_keys o c.own;simp only[ath,asi]at hk;by_cases h:o∈c.own
 ·rw[decide_eq_true h]at hk;rw[if_pos h];simp[ju,lY,hc,aO,asi,hk];rw[if_neg (λz=>z o h rfl)]
 ·rw[decide_eq_false h]at hk;rw[if_neg h];simp[ju,lY,hc,aO,asi,hk];have hz:∀x:Int,x∈c.own->¬x=o:=λx hx e=>h (e ▸ hx);rw[if_pos hz]
theorem Ad(i:cW c)(x:Int):pQ M [ob L.c,.int x]=if Vg c x then .ok (.int (roomOf c x)) else .exc ⟨"NoGround",[]⟩:=by
 have hc:=a.hc;obtain⟨n,m,hg⟩:=a.hg;have h1:=ahF a i x;by_cases h:Vg c x
 ·rw[if_pos h]at h1 ⊢;simp[pQ,uI,hc,aO,hg,dh,sO,h1]
 ·rw[if_neg h]at h1 ⊢;simp[pQ,uI,hc,aO,hg,dh,sO,h1]
theorem Bm(i:cW c)(x:Int):j8 M [ob L.c,.int x]=if Vg c x then .ok (lI (aH c x)) else .exc ⟨"NoGround",[]⟩:=by
 have hc:=a.hc;obtain⟨n,m,hg⟩:=a.hg;have h1:=vm a i x;by_cases h:Vg c x
 ·rw[if_pos h]at h1 ⊢;simp[j8,oO,hc,aO,hg,dh,bD,h1]
 ·rw[if_neg h]at h1 ⊢;simp[j8,oO,hc,aO,hg,dh,bD,h1]
theorem ae8:qT M [ob L.c]=.ok (lI c.own):=by have hc:=a.hc;simp[qT,vU,hc,aO,asi]
theorem qY(few:c.held.length<=50000)(o g:Int):mj M [ob L.c,.int o,.int g]=if bF c o g=[] then .exc ⟨"NoRight",[]⟩ else .ok .none:=by have hc:=a.hc;have hr:=a.hr;have h1:=Yt a few o g;by_cases h:bF c o g=[]<;>simp[mj,qG,hc,aO,hr,nO,rP,h1,h]
theorem Bp(few:c.held.length<=50000)(o g:Int){mk:List Int}{r:List (List Int)}(h:bF c o g=mk::r):lU M [ob L.c,.int o,.int g]=.ok (aJ mk):=by have hc:=a.hc;have hr:=a.hr;have h1:=Jo a few o g;rw[h]at h1;simp[lU,qM,hc,aO,hr,nO,cI,h1]
end
def inR(c:aK)(near:List Int):List Rw:=(c.held.filter λr=>decide (r.2.1∈near)).map λr=>(r.1,r.2.2)
def aai(lo:Int)(x:Nat×Nat×dD):Bool:=x.2.2.sd.due.isSome&&!(((x.1:Int)+1)==lo)
def Pb(L:Lay)(c:aK)(lo:Int)(near:List Int):List Rw:=(((bZ L c).filter λx=>decide (x.2.2.sd.g∈near)&&x.2.2.sd.al).filter (aai lo)).map λx=>(x.2.2.sd.o,x.2.2.sd.due.getD [])
def fH(L:Lay)(c:aK)(lo x:Int):List Rw:=inR c (aH c x)++Pb L c lo (aH c x)
section
variable{M:Mo}{L:Lay}{c:aK}(a:At M L c)
include a
theorem DK(i:cW c)(few:c.held.length<=20000)(fewb:c.bs.length<=20000)(lo x:Int)(h76:(fH L c lo x).eraseDups.length<=76):iJ M [ob L.c,.int lo,.int x]=if Vg c x then .ok (.list ((bM (fH L c lo x)).map Ear.rD)) else .exc ⟨"NoGround",[]⟩:=by
 have hc:=a.hc;have hr:=a.hr;obtain⟨n,hh⟩:=a.hh;have h1:=Bm a i x;by_cases h:Vg c x
 ·rw[if_pos h]at h1 ⊢;have h2:=S9 a (by omega:c.bs.length<=50000) (aH c x);have h3:=XD a (by omega:c.held.length<=50000) (aH c x);have h4:=Lp M (fH L c lo x) h76;have hl:((bZ L c).filter λy=>decide (y.2.2.sd.g∈aH c x)&&y.2.2.sd.al).length<=20000:=asl (ar7 _ _) (by rw[a.len'];exact fewb);have hl2:((bZ L c).filter λy=>decide (y.2.2.sd.g∈aH c x)&&y.2.2.sd.al).length<=50000:=by omega
  have key:=fP (tg:=bH [5,6]) (tt:=jK (bh (xK true .none (bL "due" (ao 6)))) (bh (aA uZ (ao 5) (ao 1)))) (te:=bB (ak (gQ "owner" (ao 6)) (ak (gQ "due" (ao 6)) au))) (M:=M) (Z:=[some (.dat (ob L.c)),some (.dat (.int lo)),some (.dat (.int x)),some (.dat (lI (aH c x))),none,none,none]) nb (aai lo) (λy=>Ear.rD (y.2.2.sd.o,y.2.2.sd.due.getD [])) ((bZ L c).filter λy=>decide (y.2.2.sd.g∈aH c x)&&y.2.2.sd.al) λy hy=>⟨[some (.dat (ob L.c)),some (.dat (.int lo)),some (.dat (.int x)),some (.dat (lI (aH c x))),none,some (.dat (.int ((y.1:Int)+1))),some (.dat (ob y.2.1))],by simp[nb],by
   obtain⟨n',hb⟩:=a.hb' (ash.mp hy).1;cases hd:y.2.2.sd.due<;>simp[hb,iB,hd,oY,aai,j9],λhp=>by
   obtain⟨n',hb⟩:=a.hb' (ash.mp hy).1;cases hd:y.2.2.sd.due with
   |none=>simp[aai,hd]at hp
   |some e=>simp[hb,iB,hd,oY,Ear.rD,Ear.dT]⟩
  have e1:(c.held.filter λr=>decide (r.2.1∈aH c x)).map (λr=>Ear.rD (r.1,r.2.2))=(inR c (aH c x)).map Ear.rD:=by unfold inR;rw[asr];rfl
  have e2:(((bZ L c).filter λy=>decide (y.2.2.sd.g∈aH c x)&&y.2.2.sd.al).filter (aai lo)).map (λy=>Ear.rD (y.2.2.sd.o,y.2.2.sd.due.getD []))=(Pb L c lo (aH c x)).map Ear.rD:=by unfold Pb;rw[asr];rfl
  rw[e1]at h3;rw[e2]at key;have z1:(inR c (aH c x)).length<=20000:=by unfold inR;rw[arZ];exact asl (ar7 _ _) few
  have z2:(Pb L c lo (aH c x)).length<=20000:=by unfold Pb;rw[arZ];exact asl (ar7 _ _) hl
  have z3:(inR c (aH c x)).length+(Pb L c lo (aH c x)).length<=100000:=by omega
  unfold fH at h4 ⊢;rw[List.map_append]at h4;simp[iJ,j5,hc,aO,bR,h1,hh,dH,jr,h2,hr,nO,qQ,h3];simp[key,hl2,z3,h4,hc,aO,hr,nO,h3]
 ·rw[if_neg h]at h1 ⊢;simp[iJ,j5,hc,aO,bR,h1]
end
def iK(b:dD):Dat:=.tuple [.int b.sd.o,.int b.sd.g,oY b.sd.due,aJ b.sd.ear,.bool b.sd.al,.int b.mo,.tuple (b.fi.dat::b.en.map En.dat)]
theorem ahO{M:Mo}{h n:Nat}{b:dD}(hb:M[h]?=some (iB n b)):xJ M [ob h]=.ok (iK b):=by have h1:=Zo hb;simp[xJ,CZ,hb,mU,h1];simp[iB,Sd.dat,iK]
def Tg(c:aK)(k:Nat):Dat:=.tuple [.int (jR c ((k:Int)+1)),aJ (aH c ((k:Int)+1))]
def eX(c:aK):Dat:=.tuple [lI c.own,.list ((List.range c.al.length).map (Tg c)),.list (c.held.map fD),.list (c.bs.map iK)]
section
variable{M:Mo}{L:Lay}{c:aK}(a:At M L c)
include a
theorem abu(i:cW c)(few:c.held.length<=20000)(fewb:c.bs.length<=20000):mJ M [ob L.c]=.ok (eX c):=by
 have hc:=a.hc;have hr:=a.hr;obtain⟨n,m,hg⟩:=a.hg;obtain⟨n1,hh⟩:=a.hh;have h1:=ab0 a;have h2:=ae8 a;have h3:=aaF a (by omega:c.held.length<=50000);have hf:=i.few;have k1:=eZ (tg:=aF 3) (te:=bB (ak (aU dN (bL "grounds" (ao 0)) (ak (aq 3) au)) (ak (eV m7 (aU bR (ao 0) (ak (aq 3) au))) au))) (M:=M) (Z:=[some (.dat (ob L.c)),none,none,none,none]) (λ(k:Nat)=>PyData.int (1+(k:Int))) (Tg c) (List.range c.al.length) λk hk=>⟨[some (.dat (ob L.c)),none,none,some (.dat (.int ((k:Int)+1))),none],by simp[Int.add_comm],by
  rw[List.mem_range]at hk;have hv:Vg c ((k:Int)+1):=by constructor<;>omega
  have g1:=Mr a ((k:Int)+1);have g2:=Bm a i ((k:Int)+1);rw[if_pos hv]at g1 g2;simp[hc,aO,hg,dh,dN,bR,g1,g2,Tg]⟩
 have hl:=a.len';have k2:=λ(o1:Option Cell)=>eZ (tg:=aF 4) (te:=aU vL (ao 4) au) (M:=M) (Z:=[some (.dat (ob L.c)),o1,none,none,none]) (λ(x:Nat×Nat×dD)=>ob x.2.1) (λx=>iK x.2.2) (bZ L c) λx hx=>⟨[some (.dat (ob L.c)),o1,none,none,some (.dat (ob x.2.1))],by simp,by
  obtain⟨n',hb⟩:=a.hb' hx;have:=ahO hb;simp[hb,vL,this]⟩
 have e1:(bZ L c).map (λx=>ob x.2.1)=L.bs.map ob:=by
  unfold bZ;apply asq;intro j;simp only[ar5,asN];by_cases hj:j < L.bs.length
  ·have hz:(L.bs.zip c.bs)[j]?=some (L.bs[j],c.bs[j]'(by rw[←a.len];exact hj)):=by
    rw[asV];exact⟨arR hj,arR _⟩
   rw[hz,arR hj];rfl
  ·rw[asu (by omega:L.bs.length<=j),asu (by rw[List.length_zip];omega)];rfl
 have e2:(bZ L c).map (λx=>iK x.2.2)=c.bs.map iK:=by
  unfold bZ;apply asq;intro j;simp only[ar5,asN];by_cases hj:j < c.bs.length
  ·have hz:(L.bs.zip c.bs)[j]?=some (L.bs[j]'(by rw[a.len];exact hj),c.bs[j]):=by
    rw[asV];exact⟨arR _,arR hj⟩
   rw[hz,arR hj];rfl
  ·rw[asu (by omega:c.bs.length<=j),asu (by rw[List.length_zip];omega)];rfl
 simp only[e1,e2]at k2;have r1:jC 1 c.al.length=(List.range c.al.length).map λ(k:Nat)=>PyData.int (1+(k:Int)):=rfl;have z1:(c.al.length:Int)+1<=100000:=by omega
 have z2 : -100000<=(c.al.length:Int)+1:=by omega
 have z3:c.al.length<=50000:=by omega
 have z4:L.bs.length<=50000:=by rw[a.len];omega
 simp[mJ,yV,hc,aO,hg,dh,eU,h1,z1,z2,r1,k1,z3];simp[hc,aO,hh,dH,hr,nO,k2,z4,uU,sY,h2,h3,eX]
end
section
variable{M:Mo}{L:Lay}{c:aK}(a:At M L c)
include a
theorem zG(i:cW c)(few:c.held.length<=20000)(fewb:c.bs.length<=20000)(x:Int)(h76:(fH L c 0 x).eraseDups.length<=76):lg M [ob L.c,.int x]=if Vg c x then .ok (.list ((bM (fH L c 0 x)).map Ear.rD)) else .exc ⟨"NoGround",[]⟩:=by
 have hc:=a.hc;have h1:=DK a i few fewb 0 x h76;by_cases h:Vg c x
 ·rw[if_pos h]at h1 ⊢;simp[lg,oR,hc,cZ,h1]
 ·rw[if_neg h]at h1 ⊢;simp[lg,oR,hc,cZ,h1]
def akp(o:Int)(e:List Int)(R:List Rw)(room:Int):Out Dat:=match vO o e R room with
 |[]=>.ok .none
 |r::_=>.exc ⟨"Clash",[("ear",aJ (jM e r.2)),("others",Ear.rD r),("ones",Ear.rD (o,e))]⟩
omit a in
theorem af0{T:List Rw}(h:Ear.Hl T):T.Nodup:=by
 unfold Ear.Hl at h;unfold List.Nodup;exact h.imp λ{x y} z e=>by
  subst e;exact List.lt_irrefl _ z
theorem Mx(ho:∀o∈c.own,o<=c.count)(few:c.own.length<=20000):∃M',iD M [ob L.c]=.ok (.int (c.count+1)) M'/\At M' L { c with count:=c.count+1,own:=c.own++[c.count+1] }:=by
 have hc:=a.hc;have hl:∀i,(M.set L.c i)[L.c]?=some i:=λi=>by rw[bK hc,if_pos rfl]
 have hk:=any_keys (c.count+1) c.own;have hn:¬(c.count+1)∈c.own:=λz=>by have:=ho _ z;omega
 rw[decide_eq_false hn]at hk;have hz:∀x∈c.own,¬x=c.count+1:=λx hx e=>hn (e ▸ hx);have f2:c.own.length < 100000:=by omega
 refine⟨_,?_,a.setC⟩;simp only[ath,asi]at hk;have hd:(c.own.any λx=>x==c.count+1)=false:=by rw[List.any_eq_false];intro x hx;simpa using hz x hx
 simp[iD,rO,hc,aO,hl,jY,f2,asi,hd]
end
theorem aae{α:Type}[BEq α][LawfulBEq α](l:List α):l.eraseDups.length<=l.length:=by
 induction hn:l.length using Nat.strongRecOn generalizing l with
 |_ n ih=>
  cases l with
  |nil=>simp
  |cons a r=>
   rw[ata];simp only[ar6]at hn ⊢;have hl:(r.filter λb=>!b==a).length<=r.length:=ar7 _ _;have:=ih _ (by omega) (r.filter λb=>!b==a) rfl;omega
theorem aar{S:List Rw}(h:S.eraseDups.length<=76):(bM S).eraseDups.length<=76:=asl (aae _) (by rw[ql];exact h)
theorem wI{S:List Rw}(h:qP S):qP (bM S):=λr hr=>h r (eY.mp hr)
section
variable{M:Mo}{L:Lay}{c:aK}(a:At M L c)
include a
theorem Xi(i:cW c)(few:c.held.length<=20000)(fewb:c.bs.length<=20000)(o x:Int)(e:List Int)(he:e.length=6)(hv:Vg c x)(h76:(fH L c 0 x).eraseDups.length<=76)(hE:qP (fH L c 0 x)):gJ M [ob L.c,.int o,aJ e,.int x]=akp o e (bM (fH L c 0 x)) (roomOf c x):=by
 have hc:=a.hc;have h1:=zG a i few fewb x h76;have h2:=Ad a i x;rw[if_pos hv]at h1 h2;have h3:=Ow M o e (bM (fH L c 0 x)) (roomOf c x) he (wI hE) (aar h76);unfold akp;cases hb:vO o e (bM (fH L c 0 x)) (roomOf c x) with
 |nil=>
  rw[hb]at h3;simp[gJ,lV,hc,cD,cA,h1,h2,h3]
 |cons r rs=>
  rw[hb]at h3;simp[gJ,lV,hc,cD,cA,h1,h2,h3]
end
section
variable{M:Mo}{L:Lay}{c:aK}(a:At M L c)
include a
def JK(L:Lay)(c:aK)(x y:Int):List Rw:=bM (fH L c 0 x)++bM (fH L c 0 y)
def qK(c:aK)(x y:Int):Int:=if roomOf c y > roomOf c x then roomOf c y else roomOf c x
theorem aaQ(i:cW c)(few:c.held.length<=20000)(fewb:c.bs.length<=20000)(x y:Int)(hx:Vg c x)(hy:Vg c y)(h1:(fH L c 0 x).eraseDups.length<=76)(h2:(fH L c 0 y).eraseDups.length<=76)(h3:(JK L c x y).eraseDups.length<=76)(e1:qP (fH L c 0 x))(e2:qP (fH L c 0 y)):kE M [ob L.c,.int x,.int y]=.ok (.list ((jG (bM (JK L c x y)) (qK c x y)).map pairD)):=by
 have hc:=a.hc;have s1:=zG a i few fewb x h1;have s2:=zG a i few fewb y h2;have r1:=Ad a i x;have r2:=Ad a i y;rw[if_pos hx]at s1 r1;rw[if_pos hy]at s2 r2;have hE:qP (JK L c x y):=λr hr=>by
  rcases ar0.mp hr with hr|hr
  ·exact wI e1 r hr
  ·exact wI e2 r hr
 have k:=aaN M (JK L c x y) (qK c x y) hE h3;have l1:(bM (fH L c 0 x)).length<=76:=by rw[ql];exact h1
 have l2:(bM (fH L c 0 y)).length<=76:=by rw[ql];exact h2
 have l3:(bM (fH L c 0 x)).length+(bM (fH L c 0 y)).length<=100000:=by omega
 have k':uD M [.list ((bM (fH L c 0 x)).map Ear.rD++(bM (fH L c 0 y)).map Ear.rD),.int (if roomOf c y > roomOf c x then roomOf c y else roomOf c x)]=.ok (.list ((jG (bM (JK L c x y)) (qK c x y)).map pairD)):=by rw[←List.map_append];exact k
 simp[kE,uw,hc,cD,cA,s1,s2,r1,r2,l3];simp at k';exact k' ▸ (by simp[k'])
end
def CW(c:aK)(lo:Int)(near:List Int):List Rw:=((c.bs.mapIdx λi b=>(i,b)).filter λx=>(x.2.sd.due.isSome&&!(((x.1:Int)+1)==lo))&&(decide (x.2.sd.g∈near)&&x.2.sd.al)).map λx=>(x.2.sd.o,x.2.sd.due.getD [])
def cX(c:aK)(lo x:Int):List Rw:=inR c (aH c x)++CW c lo (aH c x)
theorem Lg{M:Mo}{L:Lay}{c:aK}(a:At M L c):(bZ L c).map (λx=>(x.1,x.2.2))=c.bs.mapIdx λi b=>(i,b):=by
 unfold bZ;apply asq;intro j;simp only[ar5,asN];by_cases hj:j < c.bs.length
 ·have hz:(L.bs.zip c.bs)[j]?=some (L.bs[j]'(by rw[a.len];exact hj),c.bs[j]):=by
   rw[asV];exact⟨arR _,arR hj⟩
  rw[hz,arR hj];rfl
 ·rw[asu (by omega:c.bs.length<=j),asu (by rw[List.length_zip];omega)];rfl
theorem jW{M:Mo}{L:Lay}{c:aK}(a:At M L c)(lo x:Int):fH L c lo x=cX c lo x:=by unfold fH cX Pb CW;rw[←Lg a,List.filter_map,asr,ate];rfl
inductive bG where
 |owner|ground (x:Int)|enrol (o g:Int) (m:List Int)|leave (o g:Int)|bring (o g:Int) (e:List Int)|bear (k:Int)|cut (k:Int)|tear (k p:Int)|sell (k o:Int)|move (k g:Int)|die (k:Int)|xP (x y:Int)|part (x:Int)|pass (e h:Int)|heir (e g x:Int)
def bG.dat:bG->Dat
 |.owner=>.tuple [.str "owner"]
 |.ground x=>.tuple [.str "ground",.int x]
 |.enrol o g m=>.tuple [.str "enrol",.int o,.int g,aJ m]
 |.leave o g=>.tuple [.str "leave",.int o,.int g]
 |.bring o g m=>.tuple [.str "bring",.int o,.int g,aJ m]
 |.bear k=>.tuple [.str "bear",.int k]
 |.cut k=>.tuple [.str "cut",.int k]
 |.tear k p=>.tuple [.str "tear",.int k,.int p]
 |.sell k o=>.tuple [.str "sell",.int k,.int o]
 |.move k g=>.tuple [.str "move",.int k,.int g]
 |.die k=>.tuple [.str "die",.int k]
 |.xP x y=>.tuple [.str "unite",.int x,.int y]
 |.part x=>.tuple [.str "part",.int x]
 |.pass e h=>.tuple [.str "pass",.int e,.int h]
 |.heir e g x=>.tuple [.str "heir",.int e,.int g,.int x]
inductive Res where
 |ok (d:Dat) (c:aK)|no (x:dG)
def Hw(o:Int)(e:List Int)(r:Rw):dG:=⟨"Clash",[("ear",aJ (jM e r.2)),("others",Ear.rD r),("ones",Ear.rD (o,e))]⟩
def firstM(c:aK)(o g:Int):List Int:=(bF c o g).headD []
def wu(o:Int)(e:List Int)(R:List Rw)(room:Int)(r:Res):Res:=match vO o e (bM R) room with
 |[]=>r
 |x::_=>.no (Hw o e x)
def BJ(c:aK)(x y:Int):List Rw:=bM (cX c 0 x)++bM (cX c 0 y)
def lW(c:aK)(x:Int):List Int:=(aH c x).filter λy=>!(y==x)
def R5(c:aK)(e:Int):List Int:=((c.bs.mapIdx λi b=>(i,b)).filter λx=>(x.2.sd.o==e)&&x.2.sd.al).map λx=>(x.1:Int)+1
def Yb(o g:Int)(b:dD):Bool:=(decide (b.sd.g∈[g])&&b.sd.al)&&(b.sd.o==o)
def wg(c:aK)(k:Int)(f:dD->Res):Res:=match bk c k with
 |none=>.no ⟨"NoBeast",[]⟩
 |some b=>if b.sd.al=true then f b else .no ⟨"Dead",[]⟩
def markB(c:aK)(k:Int)(f:dD->List Int->Res):Res:=wg c k λb=>match b.sd.due with
 |none=>.no ⟨"Unmarked",[]⟩
 |some e=>f b e
def wL(c:aK)(k o g:Int):aK:=oM (λx=>uN k x&&x.sd.al) (.followed o g) c
def oW(c:aK)(o:Int)(r:Res):Res:=if o∈c.own then r else .no ⟨"NoOwner",[]⟩
def uo(c:aK)(g:Int)(r:Res):Res:=if Vg c g then r else .no ⟨"NoGround",[]⟩
def Jp(e:List Int)(r:Res):Res:=if cY e=true then r else .no ⟨"BadEar",[]⟩
def jL(c:aK)(o g:Int)(r:Res):Res:=if bF c o g=[] then .no ⟨"NoRight",[]⟩ else r
def bT(c:aK):bG->Res
 |.owner=>.ok (.int (c.count+1)) { c with count:=c.count+1,own:=c.own++[c.count+1] }
 |.ground x=>if 0<=x/\x<=9 then .ok (.int (c.al.length+1)) { c with al:=c.al++[x],ci:=c.ci++[[(c.al.length:Int)+1]] } else .no ⟨"BadAllowance",[]⟩
 |.enrol o g m=>oW c o<|uo c g<|Jp m<|if m=[0,0,0,0,0,0] then .no ⟨"Bare",[]⟩ else if m∈bF c o g then .no ⟨"HasRight",[]⟩ else wu o m (cX c 0 g) (roomOf c g) (.ok .none { c with held:=c.held++[(o,g,m)] })
 |.leave o g=>oW c o<|uo c g<|jL c o g<|if c.bs.any (Yb o g)=true then .no ⟨"StillThere",[]⟩ else .ok (.list ((bF c o g).map aJ)) { c with held:=dropped c o g }
 |.bring o g e=>oW c o<|uo c g<|Jp e<|jL c o g<|.ok (.int (c.bs.length+1)) { c with bs:=c.bs++[Dm (.brought o g e)] }
 |.bear k=>markB c k λb _=>.ok (.int (c.bs.length+1)) { c with bs:=c.bs++[Dm (.born k b.sd.o b.sd.g)] }
 | .cut k=>wg c k λb=>wu b.sd.o (jM b.sd.ear (firstM c b.sd.o b.sd.g)) (cX c 0 b.sd.g) (roomOf c b.sd.g) (.ok (aJ (jM b.sd.ear (firstM c b.sd.o b.sd.g))) (gq c (k - 1).toNat (.cut (jM b.sd.ear (firstM c b.sd.o b.sd.g)))))
 |.tear k p=>wg c k λb=>if 0<=p/\p < 6 then(if 9<=b.sd.ear.getD p.toNat 0 then .no ⟨"Deepest",[]⟩ else .ok (aJ (xZ b.sd.ear p.toNat)) (gq c (k - 1).toNat (.torn p.toNat))) else .no ⟨"NoPlace",[]⟩
 |.sell k o=>markB c k λb _=>oW c o<|if b.sd.o=o then .no ⟨"SameOwner",[]⟩ else jL c o b.sd.g<|wu o (jM b.sd.ear (firstM c o b.sd.g)) (cX c k b.sd.g) (roomOf c b.sd.g) (.ok (aJ (jM b.sd.ear (firstM c o b.sd.g))) (wL (gq c (k - 1).toNat (.sold o (jM b.sd.ear (firstM c o b.sd.g)))) k o b.sd.g))
 |.move k g=>markB c k λb e=>uo c g<|if b.sd.g=g then .no ⟨"SameGround",[]⟩ else jL c b.sd.o g<|wu b.sd.o e (cX c 0 g) (roomOf c g) (.ok (.int b.sd.g) (wL (gq c (k - 1).toNat (.moved g)) k b.sd.o g))
 |.die k=>wg c k λ_=>.ok .none (gq c (k - 1).toNat .died)
 |.xP x y=>uo c y<|uo c x<|if y∈aH c x then .no ⟨"Together",[]⟩ else match jG (bM (BJ c x y)) (qK c x y) with
  |p::_=>.no (Hw p.1.1 p.1.2 p.2)
  |[]=>.ok (lI (sortI (aH c x++aH c y))) { c with ci:=encl c.ci (sortI (aH c x++aH c y)) }
 |.part x=>uo c x<|if lW c x=[] then .no ⟨"Alone",[]⟩ else .ok (lI (lW c x)) { c with ci:=encl (encl c.ci [x]) (lW c x) }
 |.pass e h=>oW c e<|oW c h<|if e=h then .no ⟨"SameOwner",[]⟩ else .ok (lI (R5 c e)) { oM (λb=>(b.sd.o==e)&&b.sd.al) (.passed h) c with own:=c.own.filter (λo=>!(o==e)),held:=handed c e h }
 | .heir e g x=>oW c e<|uo c g<|if 1<=x/\x<=3 then jL c e g (match (zE (firstM c e g) x).find? (nM (bM (cX c 0 g)) (roomOf c g)) with
  |some mk=>.ok (.tuple [.int (c.count+1),aJ mk]) { c with count:=c.count+1,own:=c.own++[c.count+1],held:=c.held++[(c.count+1,g,mk)] }
  |none=>.no ⟨"NoneFree",[]⟩) else .no ⟨"BadExtra",[]⟩
structure Inv(n s:Nat)(c:aK):Prop where
 gr:cW c
 al:c.al.length<=n
 cnt:0<=c.count/\c.count<=n
 own:∀o∈c.own,1<=o/\o<=c.count
 Qz:c.own.Nodup
 ownL:c.own.length<=n
 held:c.held.Nodup
 hL:c.held.length+c.bs.length<=s
 hE:∀r∈c.held,r.1∈c.own/\Vg c r.2.1/\cY r.2.2=true
 ear:∀b∈c.bs,cY b.sd.ear=true
 due:∀b∈c.bs,∀e,b.sd.due=some e->cY e=true
 en:∀b∈c.bs,b.en.length<=2 * n
 rt:∀b∈c.bs,b.sd.al=true->∃m,(b.sd.o,b.sd.g,m)∈c.held
theorem gD{x:List Int}(h:cY x=true):x.length=6:=by unfold cY at h;simp at h;exact h.1
theorem Dc{α:Type}[BEq α][LawfulBEq α]:∀{l S:List α},l.Nodup->(∀x∈l,x∈S)->l.length<=S.length
 |[],_,_,_=>by simp
 |x::l,S,nd,h=>by
  rw[asW]at nd;have hx:=h x arU;have:=Dc (l:=l) (S:=S.erase x) nd.2 λy hy=>by
   have:y≠x:=λz=>nd.1 (z ▸ hy);exact(List.mem_erase_of_ne this).mpr (h y (arS _ hy))
  rw[List.length_erase_of_mem hx]at this;have:=List.length_pos_of_mem hx;rw[ar6];omega
def Nv(c:aK):List Rw:=c.held.map (λr=>(r.1,r.2.2))++c.bs.map λb=>(b.sd.o,b.sd.due.getD [])
theorem Ue{c:aK}{near:List Int}{r:Rw}(h:r∈inR c near):∃g,(r.1,g,r.2)∈c.held/\g∈near:=by unfold inR at h;obtain⟨x,h1,rfl⟩:=arY.mp h;obtain⟨h2,h3⟩:=ash.mp h1;exact⟨x.2.1,h2,by simpa using h3⟩
theorem P0{c:aK}{lo:Int}{near:List Int}{r:Rw}(h:r∈CW c lo near):∃(i:Nat) (b:dD),c.bs[i]?=some b/\b.sd.o=r.1/\b.sd.due=some r.2/\b.sd.al=true/\b.sd.g∈near/\(i:Int)+1≠lo:=by
 unfold CW at h;obtain⟨x,h1,rfl⟩:=arY.mp h;obtain⟨h2,h3⟩:=ash.mp h1;obtain⟨i,hi,rfl⟩:=List.mem_mapIdx.mp h2;simp only[arP,ato,ar9,beq_eq_false_iff_ne]at h3;obtain⟨⟨h4,h5⟩,h6,h7⟩:=h3;refine⟨i,c.bs[i],arR hi,rfl,?_,h7,h6,h5⟩;cases hd:c.bs[i].sd.due with
 |none=>simp[hd]at h4
 |some e=>rfl
theorem oN{c:aK}{lo x:Int}{r:Rw}(h:r∈cX c lo x):r∈Nv c:=by
 unfold Nv;rcases ar0.mp h with h|h
 ·obtain⟨g,h1,_⟩:=Ue h;exact asy _ (arY.mpr ⟨_,h1,rfl⟩)
 ·obtain⟨i,b,h1,h2,h3,_⟩:=P0 h;refine asM _ (arY.mpr ⟨b,arW h1,?_⟩);rw[h2,h3];rfl
section
variable{n s:Nat}{c:aK}(I:Inv n s c)
include I
theorem Inv.few{R:List Rw}(h:∀r∈R,r∈Nv c):R.eraseDups.length<=s:=by
 have h1:=Dc (l:=bM R) (S:=Nv c) (af0 (QC R)) λr hr=>h r (eY.mp hr);rw[ql]at h1;have:(Nv c).length=c.held.length+c.bs.length:=by simp[Nv]
 have:=I.hL;omega
theorem Inv.Mp{lo x:Int}:qP (cX c lo x):=λr hr=>by
 rcases ar0.mp hr with h|h
 ·obtain⟨g,h1,_⟩:=Ue h;exact gD (I.hE _ h1).2.2
 ·obtain⟨i,b,h1,h2,h3,_⟩:=P0 h;exact gD (I.due b (arW h1) _ h3)
theorem Inv.bi:Kr (2 * n) c:=⟨λb hb=>gD (I.ear b hb),I.en⟩
theorem Inv.mk1{o g:Int}(h:bF c o g≠[]):∃r,bF c o g=firstM c o g::r/\cY (firstM c o g)=true:=by
 cases hm:bF c o g with
 |nil=>exact absurd hm h
 |cons m r=>
  refine⟨r,by simp[firstM,hm],?_⟩;have:m∈bF c o g:=by rw[hm];exact arU
  unfold bF at this;obtain⟨x,h1,rfl⟩:=arY.mp this;have e:firstM c o g=x.2.2:=by simp[firstM,hm]
  rw[e];exact(I.hE x (ash.mp h1).1).2.2
end
theorem Ef{c:aK}{o g:Int}{m:List Int}:m∈bF c o g↔(o,g,m)∈c.held:=by
 unfold bF;rw[arY];constructor
 ·rintro⟨⟨x,y,z⟩,h,rfl⟩;obtain⟨h1,h2⟩:=ash.mp h;simp at h2;obtain⟨rfl,rfl⟩:=h2;exact h1
 ·intro h;exact⟨_,ash.mpr ⟨h,by simp⟩,rfl⟩
theorem zq{c:aK}{o g:Int}:bF c o g≠[]↔∃m,(o,g,m)∈c.held:=by
 constructor
 ·intro h;obtain⟨m,hm⟩:=List.exists_mem_of_ne_nil _ h;exact⟨m,Ef.mp hm⟩
 ·rintro⟨m,hm⟩ z;have:=Ef.mpr hm;rw[z]at this;cases this
theorem Fb{x y:List Int}(hx:cY x=true)(hy:cY y=true):cY (jM x y)=true:=by
 have lx:=gD hx;have ly:=gD hy;unfold cY at *;simp only[arP,ato,asj]at *;refine⟨by simp[jM];omega,λd hd=>?_⟩;unfold jM at hd;obtain⟨p,hp,rfl⟩:=arY.mp hd;have h1:=hx.2 p.1 (List.of_mem_zip hp).1;have h2:=hy.2 p.2 (List.of_mem_zip hp).2
 split<;>omega
theorem Cz(n:Nat)(x:List Int):okd (n+1) (aJ x)=true:=by show okd (n+1) (.tuple (x.map PyData.int))=true;rw[okd];exact WR n x
theorem aij(x y:List Int):bW (aJ x) (aJ y)=.ok (.bool (decide (x=y))):=by
 show(Out.when (okd 12 (aJ x)&&okd 12 (aJ y)) (.ok (PyData.eqv (aJ x) (aJ y)))).bind _=_
 rw[Cz 11,Cz 11,Yy,zR];rfl
theorem ahP(neg:Bool)(m:List Int)(ms:List (List Int)):inD neg (aJ m) (.list (ms.map aJ))=.ok (.bool (neg ^^ decide (m∈ms))):=by
 have h1:lZ 12 (ms.map aJ)=true:=Dh.mpr λd hd=>by
  obtain⟨x,_,rfl⟩:=arY.mp hd;exact Cz 11 x
 have h2:((ms.map aJ).any λz=>PyData.eqv z (aJ m))=decide (m∈ms):=by
  induction ms with
  |nil=>simp
  |cons x ms ih=>
   have h1':lZ 12 (ms.map aJ)=true:=Dh.mpr λd hd=>by
    obtain⟨x,_,rfl⟩:=arY.mp hd;exact Cz 11 x
   rw[arT,as3,ih h1',Yy,zR];by_cases h:x=m
   ·simp[h]
   ·have:¬m=x:=λz=>h z.symm;simp[h,this]
 show(Out.when (okd 12 (aJ m)&&lZ 12 (ms.map aJ)) (.ok ((ms.map aJ).any λz=>PyData.eqv z (aJ m)))).bind _=_
 rw[h1,h2,Cz 11];rfl
def Sp(M:Mo)(L:Lay)(o:bx Dat):Res->Prop
 |.ok d c'=>∃M' bs,o=.ok d M'/\At M' { L with bs:=bs } c'
 |.no x=>o=.exc x M
section
variable{M:Mo}{L:Lay}{c:aK}(a:At M L c){n s:Nat}(I:Inv n s c)(hs:s<=76)(hn:n<=199)
include a I hn
theorem ahx:Sp M L (iD M [ob L.c]) (bT c .owner):=by obtain⟨M',h1,h2⟩:=Mx a (λo ho=>(I.own o ho).2) (by have:=I.ownL;omega);exact⟨M',L.bs,h1,h2⟩
theorem afy(x:Int):Sp M L (gM M [ob L.c,.int x]) (bT c (.ground x)):=by
 have hc:=a.hc;obtain⟨n,m,hg⟩:=a.hg;have hl:=I.al;have h1:=Xg a I.gr (by omega) x;simp only[bT];by_cases h:0<=x/\x<=9
 ·rw[if_pos h]at h1 ⊢;obtain⟨M',h1,h2⟩:=h1;exact⟨M',L.bs,by simp[gM,lX,hc,aO,hg,dh,lC,h1],h2⟩
 ·rw[if_neg h]at h1 ⊢;show _=_;simp[gM,lX,hc,aO,hg,dh,lC,h1]
include hs
omit hn
theorem YC(o x:Int)(e:List Int)(he:e.length=6)(hv:Vg c x):gJ M [ob L.c,.int o,aJ e,.int x]=match vO o e (bM (cX c 0 x)) (roomOf c x) with
  |[]=>.ok .none
  |r::_=>.exc (Hw o e r):=by
 have h1:=I.hL;have h76:=I.few (R:=cX c 0 x) λr hr=>oN hr;have:=Xi a I.gr (by omega) (by omega) o x e he hv (by rw[jW a];omega) (by rw[jW a];exact I.Mp);rw[jW a]at this;exact this
theorem aiF(o g:Int)(m:List Int)(hm:m.length<=1000):Sp M L (dR M [ob L.c,.int o,.int g,aJ m]) (bT c (.enrol o g m)):=by
 have hc:=a.hc;have hr:=a.hr;obtain⟨n1,m1,hg⟩:=a.hg;have hL:=I.hL;have h1:=lH a o;have h2:=wF a g;have h3:=Om M m hm;have h4:=Jo a (by omega) o g;simp only[bT,oW,uo,Jp,wu];by_cases e1:o∈c.own;rotate_left
 ·rw[if_neg e1]at h1 ⊢;show _=_;simp[dR,fW,hc,aO,aC,h1]
 rw[if_pos e1]at h1 ⊢;by_cases e2:Vg c g;rotate_left
 ·rw[if_neg e2]at h2 ⊢;show _=_;simp[dR,fW,hc,aO,aC,h1,hg,dh,aG,h2]
 rw[if_pos e2]at h2 ⊢;by_cases e3:cY m=true;rotate_left
 ·rw[if_neg e3]at h3 ⊢;show _=_;simp[dR,fW,hc,aO,aC,h1,hg,dh,aG,h2,h3]
 rw[if_pos e3]at h3 ⊢;have h5:bW (.tuple (m.map PyData.int)) (.tuple [.int 0,.int 0,.int 0,.int 0,.int 0,.int 0])=_:=aij m [0,0,0,0,0,0];by_cases e4:m=[0,0,0,0,0,0]
 ·rw[if_pos e4];rw[decide_eq_true e4]at h5;show _=_;simp[dR,fW,hc,aO,aC,h1,hg,dh,aG,h2,h3,jk];simp[h5]
 rw[if_neg e4];rw[decide_eq_false e4]at h5;have h6:=ahP false m (bF c o g);by_cases e5:m∈bF c o g
 ·rw[if_pos e5];rw[decide_eq_true e5]at h6;simp at h6;show _=_;simp[dR,fW,hc,aO,aC,h1,hg,dh,aG,h2,h3,jk,h5,hr,nO,cI,h4,h6]
 rw[if_neg e5];rw[decide_eq_false e5]at h6;simp at h6;have h7:=YC a I hs o g m (gD e3) e2;cases e6:vO o m (bM (cX c 0 g)) (roomOf c g) with
 |cons r rs=>
  rw[e6]at h7;show _=_;simp[dR,fW,hc,aO,aC,h1,hg,dh,aG,h2,h3,jk,h5,hr,nO,cI,h4,h6,bU,h7]
 |nil=>
  rw[e6]at h7;have h8:=Ld a (by omega) o g m;rw[if_neg λz=>e5 (Ef.mpr z)]at h8;obtain⟨M',h8,h9⟩:=h8;refine⟨M',L.bs,?_,h9⟩;simp[dR,fW,hc,aO,aC,h1,hg,dh,aG,h2,h3,jk,h5,hr,nO,cI,h4,h6,bU,h7,iy,h8]
end
@[simp]theorem arL (n:Nat) (b:dD):List.lookup ("owner" : Str) (iB n b).fs=some (.dat (.int b.sd.o)):=by simp[iB]
@[simp]theorem arK (n:Nat) (b:dD):List.lookup ("ground" : Str) (iB n b).fs=some (.dat (.int b.sd.g)):=by simp[iB]
@[simp]theorem arJ (n:Nat) (b:dD):List.lookup ("due" : Str) (iB n b).fs=some (.dat (oY b.sd.due)):=by simp[iB]
@[simp]theorem arM (n:Nat) (b:dD):List.lookup ("ear" : Str) (iB n b).fs=some (.dat (aJ b.sd.ear)):=by simp[iB]
@[simp]theorem arC (n:Nat) (b:dD):List.lookup ("alive" : Str) (iB n b).fs=some (.dat (.bool b.sd.al)):=by simp[iB]
section
variable{M:Mo}{L:Lay}{c:aK}(a:At M L c){n s:Nat}(I:Inv n s c)(hs:s<=76)
include a I hs
theorem aiK(o g:Int):Sp M L (fX M [ob L.c,.int o,.int g]) (bT c (.leave o g)):=by
 have hc:=a.hc;have hr:=a.hr;obtain⟨n1,m1,hg⟩:=a.hg;obtain⟨n2,hh⟩:=a.hh;have hL:=I.hL;have h1:=lH a o;have h2:=wF a g;have h3:=qY a (by omega) o g;simp only[bT,oW,uo,jL];by_cases e1:o∈c.own;rotate_left
 ·rw[if_neg e1]at h1 ⊢;show _=_;simp[fX,jA,hc,aO,aC,h1]
 rw[if_pos e1]at h1 ⊢;by_cases e2:Vg c g;rotate_left
 ·rw[if_neg e2]at h2 ⊢;show _=_;simp[fX,jA,hc,aO,aC,h1,hg,dh,aG,h2]
 rw[if_pos e2]at h2 ⊢;by_cases e3:bF c o g=[]
 ·rw[if_pos e3]at h3 ⊢;show _=_;simp[fX,jA,hc,aO,aC,h1,hg,dh,aG,h2,aN,h3]
 rw[if_neg e3]at h3 ⊢;have h4:pG M [ob L.h,.list [.int g]]=_:=S9 a (by omega) [g];have key:=eZ (tg:=bH [3,4]) (te:=aA bW (bL "owner" (ao 4)) (ao 1)) (M:=M) (Z:=[some (.dat (ob L.c)),some (.dat (.int o)),some (.dat (.int g)),none,none]) nb (λx=>.bool (x.2.2.sd.o==o)) ((bZ L c).filter λx=>decide (x.2.2.sd.g∈[g])&&x.2.2.sd.al) λx hx=>⟨[some (.dat (ob L.c)),some (.dat (.int o)),some (.dat (.int g)),some (.dat (.int ((x.1:Int)+1))),some (.dat (ob x.2.1))],by simp[nb],by
  obtain⟨n,hb⟩:=a.hb' (ash.mp hx).1;simp[hb,iB]⟩
 have hl:((bZ L c).filter λx=>decide (x.2.2.sd.g∈[g])&&x.2.2.sd.al).length<=50000:=asl (ar7 _ _) (by rw[a.len'];omega);have h5:Py (.list (((bZ L c).filter λx=>decide (x.2.2.sd.g∈[g])&&x.2.2.sd.al).map λx=>PyData.bool (x.2.2.sd.o==o)))=.ok (.bool (c.bs.any (Yb o g))):=by
  have e:(((bZ L c).filter λx=>decide (x.2.2.sd.g∈[g])&&x.2.2.sd.al).map λx=>PyData.bool (x.2.2.sd.o==o))=(((bZ L c).filter λx=>decide (x.2.2.sd.g∈[g])&&x.2.2.sd.al).map λx=>(x.2.2.sd.o==o)).map PyData.bool:=by rw[asr];rfl
  rw[e,ZR,ath,List.any_filter];have e2:=Lg a;have e3:(bZ L c).map (λx=>x.2.2)=c.bs:=by
   have:(bZ L c).map (λx=>x.2.2)=((bZ L c).map (λx=>(x.1,x.2.2))).map (·.2):=by rw[asr];rfl
   rw[this,e2];apply asq;intro i;simp;cases c.bs[i]?<;>rfl
  conv=>rhs;rw[←e3]
  rw[ath];rfl
 cases e4:c.bs.any (Yb o g) with
 |true=>
  rw[e4]at h5;show _=_;simp[fX,jA,hc,aO,aC,h1,hg,dh,aG,h2,aN,h3,hh,dH,jr];simp at h4 key h5 hl;simp[h4,key,hl,h5]
 |false=>
  rw[e4]at h5;have h6:=aiA a (by omega) I.held o g;rw[if_neg e3]at h6;obtain⟨M',h6,h7⟩:=h6;refine⟨M',L.bs,?_,h7⟩;simp[fX,jA,hc,aO,aC,h1,hg,dh,aG,h2,aN,h3,hh,dH,jr];simp at h4 key h5 hl;simp[h4,key,hl,h5,hc,aO,hr,nO,yP,h6]
theorem ahY(o g:Int)(m:List Int)(hm:m.length<=1000):Sp M L (fY M [ob L.c,.int o,.int g,aJ m]) (bT c (.bring o g m)):=by
 have hc:=a.hc;have hr:=a.hr;obtain⟨n1,m1,hg⟩:=a.hg;obtain⟨n2,hh⟩:=a.hh;have hL:=I.hL;have h1:=lH a o;have h2:=wF a g;have h3:=Om M m hm;have h4:=qY a (by omega) o g;simp only[bT,oW,uo,Jp,jL];by_cases e1:o∈c.own;rotate_left
 ·rw[if_neg e1]at h1 ⊢;show _=_;simp[fY,jw,hc,aO,aC,h1]
 rw[if_pos e1]at h1 ⊢;by_cases e2:Vg c g;rotate_left
 ·rw[if_neg e2]at h2 ⊢;show _=_;simp[fY,jw,hc,aO,aC,h1,hg,dh,aG,h2]
 rw[if_pos e2]at h2 ⊢;by_cases e3:cY m=true;rotate_left
 ·rw[if_neg e3]at h3 ⊢;show _=_;simp[fY,jw,hc,aO,aC,h1,hg,dh,aG,h2,h3]
 rw[if_pos e3]at h3 ⊢;by_cases e4:bF c o g=[]
 ·rw[if_pos e4]at h4 ⊢;show _=_;simp[fY,jw,hc,aO,aC,h1,hg,dh,aG,h2,h3,aN,h4]
 rw[if_neg e4]at h4 ⊢;obtain⟨M',h,h5,h6⟩:=KC a (by omega) (.brought o g m) (by omega);refine⟨M',L.bs++[h],?_,h6⟩;simp[Fi.dat]at h5;simp[fY,jw,hc,aO,aC,h1,hg,dh,aG,h2,h3,aN,h4,hh,dH,jE,h5]
theorem ajm(k:Int):Sp M L (iY M [ob L.c,.int k]) (bT c (.bear k)):=by
 have hc:=a.hc;obtain⟨n2,hh⟩:=a.hh;have hL:=I.hL;have h1:=K8 a (by omega) k;simp only[bT,markB,wg];cases hk:bk c k with
 |none=>
  rw[hk]at h1;show _=_;simp[iY,mK,hc,aO,hh,dH,bA,h1]
 |some b=>
  rw[hk]at h1;obtain⟨_,_,_,_,n3,hb⟩:=rN a hk;show Sp M L _ (if b.sd.al=true then _ else _);cases e1:b.sd.al with
  |false=>
   simp[e1]at h1;show _=_;simp[iY,mK,hc,aO,hh,dH,bA,h1]
  |true=>
   simp[e1]at h1;cases e2:b.sd.due with
   |none=>
    simp[e2]at h1;show _=_;simp[iY,mK,hc,aO,hh,dH,bA,h1]
   |some e=>
    simp[e2]at h1;simp only[if_true];obtain⟨M',h,h5,h6⟩:=KC a (by omega) (.born k b.sd.o b.sd.g) (by omega);refine⟨M',L.bs++[h],?_,h6⟩;simp[Fi.dat]at h5;simp[iY,mK,hc,aO,hh,dH,bA,h1,hb,iB,jE,h5]
theorem amE(k:Int)(hn:n<=1000):Sp M L (lG M [ob L.c,.int k]) (bT c (.die k)):=by
 have hc:=a.hc;obtain⟨n2,hh⟩:=a.hh;have hL:=I.hL;have h1:=DP a (by omega) k;simp only[bT,wg];cases hk:bk c k with
 |none=>
  rw[hk]at h1;show _=_;simp[lG,rF,hc,aO,hh,dH,bJ,h1]
 |some b=>
  rw[hk]at h1;obtain⟨_,_,h3,h4,n3,hb⟩:=rN a hk;show Sp M L _ (if b.sd.al=true then _ else _);cases e1:b.sd.al with
  |false=>
   simp[e1]at h1;show _=_;simp[lG,rF,hc,aO,hh,dH,bJ,h1]
  |true=>
   simp[e1]at h1;have mem:=arW h4;simp only[if_true];have h5:=uf hb .died (by rw[gD (I.ear b mem)];decide) (by have:=I.en b mem;omega);refine⟨_,L.bs,?_,yU (n:=n3) (e:=.died) a h3 h4⟩;simp[En.dat]at h5;simp[lG,rF,hc,aO,hh,dH,bJ,h1,hb,bO,h5,qb]
theorem ajO(k p:Int)(hn:n<=1000):Sp M L (fL M [ob L.c,.int k,.int p]) (bT c (.tear k p)):=by
 have hc:=a.hc;obtain⟨n2,hh⟩:=a.hh;have hL:=I.hL;have h1:=DP a (by omega) k;simp only[bT,wg];cases hk:bk c k with
 |none=>
  rw[hk]at h1;show _=_;simp[fL,jf,hc,aO,hh,dH,bJ,h1]
 |some b=>
  rw[hk]at h1;obtain⟨_,_,h3,h4,n3,hb⟩:=rN a hk;show Sp M L _ (if b.sd.al=true then _ else _);cases e1:b.sd.al with
  |false=>
   simp[e1]at h1;show _=_;simp[fL,jf,hc,aO,hh,dH,bJ,h1]
  |true=>
   simp[e1]at h1;have mem:=arW h4;have h6:=gD (I.ear b mem);simp only[if_true];by_cases e2:0<=p/\p < 6
   ·rw[if_pos e2];obtain⟨q,rfl⟩:∃q:Nat,p=q:=⟨p.toNat,by omega⟩;have hq:q < 6:=by omega
    have hq2:q < b.sd.ear.length:=by omega
    have hq3:(q:Int) < 6:=by omega
    have h7:b.sd.ear[q]?.getD 0=b.sd.ear[q]:=by simp[hq2]
    simp only[Int.toNat_natCast,List.getD_eq_getElem?_getD,h7];have h5:=uf hb (.torn q) (by omega) (by have:=I.en b mem;omega);by_cases e3:9<=b.sd.ear[q]
    ·rw[if_pos e3];show _=_;simp[fL,jf,hc,aO,hh,dH,bJ,h1,hb,iB,iU,hq3,cQ,hq2,e3]
    ·rw[if_neg e3];refine⟨_,L.bs,?_,yU (n:=n3) (e:=.torn q) a h3 h4⟩;simp[En.dat]at h5;have hl:∀i,(M.set (Pr.hk L k) i)[Pr.hk L k]?=some i:=λi=>by rw[bK hb,if_pos rfl]
     simp[fL,jf,hc,aO,hh,dH,bJ,h1,hb,iU,hq3,cQ,bO,h5,hl,hq2,e3,qb,go]
   ·rw[if_neg e2];show _=_;by_cases e3:0<=p
    ·have e4:¬p < 6:=λz=>e2 ⟨e3,z⟩;simp[fL,jf,hc,aO,hh,dH,bJ,h1,iU,e3,e4]
    ·simp[fL,jf,hc,aO,hh,dH,bJ,h1,iU,e3]
end
theorem Inv.alive{n s:Nat}{c:aK}(I:Inv n s c){b:dD}(h:b∈c.bs)(h2:b.sd.al=true):bF c b.sd.o b.sd.g≠[]/\Vg c b.sd.g/\b.sd.o∈c.own:=by obtain⟨m,hm⟩:=I.rt b h h2;exact⟨zq.mpr ⟨m,hm⟩,(I.hE _ hm).2.1,(I.hE _ hm).1⟩
section
variable{M:Mo}{L:Lay}{c:aK}(a:At M L c){n s:Nat}(I:Inv n s c)(hs:s<=76)(hn:n<=1000)
include a I hs hn
theorem amn(k:Int):Sp M L (jH M [ob L.c,.int k]) (bT c (.cut k)):=by
 have hc:=a.hc;obtain⟨n2,hh⟩:=a.hh;have hL:=I.hL;have h1:=DP a (by omega) k;simp only[bT,wg,wu];cases hk:bk c k with
 |none=>
  rw[hk]at h1;show _=_;simp[jH,nY,hc,aO,hh,dH,bJ,h1]
 |some b=>
  rw[hk]at h1;obtain⟨_,_,h3,h4,n3,hb⟩:=rN a hk;show Sp M L _ (if b.sd.al=true then _ else _);cases e1:b.sd.al with
  |false=>
   simp[e1]at h1;show _=_;simp[jH,nY,hc,aO,hh,dH,bJ,h1]
  |true=>
   simp[e1]at h1;simp only[if_true];have mem:=arW h4;obtain⟨q1,q2,q3⟩:=I.alive mem e1;obtain⟨r,q4,q5⟩:=I.mk1 q1;have h6:=gD (I.ear b mem);have h7:=Bp a (by omega) _ _ q4;have h8:=Ip M b.sd.ear (firstM c b.sd.o b.sd.g) (by omega);have q6:=gD (Fb (I.ear b mem) q5);generalize jM b.sd.ear (firstM c b.sd.o b.sd.g)=e at h8 q6 ⊢;have h9:=YC a I hs b.sd.o b.sd.g e q6 q2;cases e2:vO b.sd.o e (bM (cX c 0 b.sd.g)) (roomOf c b.sd.g) with
   |cons r rs=>
    rw[e2]at h9;show _=_;simp[jH,nY,hc,aO,hh,dH,bJ,h1,hb,iB,bV,h7,h8,bU,h9]
   |nil=>
    rw[e2]at h9;have h5:=uf hb (.cut e) (by omega) (by have:=I.en b mem;omega);refine⟨_,L.bs,?_,yU (n:=n3) (e:=.cut e) a h3 h4⟩;simp[En.dat]at h5;simp[jH,nY,hc,aO,hh,dH,bJ,h1,hb,bV,bO,h5,bU,h7,h8,h9,qb]
theorem alJ(x:Int):Sp M L (jU M [ob L.c,.int x]) (bT c (.part x)):=by
 have hc:=a.hc;obtain⟨n1,m1,hg⟩:=a.hg;have h1:=aeD a I.gr x;have e0:(aH c x).filter (λy=>!(y==x))=lW c x:=rfl;rw[e0]at h1;simp only[bT,uo];by_cases e1:Vg c x
 ·rw[if_pos e1]at h1 ⊢;by_cases e2:lW c x=[]
  ·rw[if_pos e2]at h1 ⊢;show _=_;simp[jU,pN,hc,aO,hg,dh,oV,h1]
  ·rw[if_neg e2]at h1 ⊢;obtain⟨M',h1,h2⟩:=h1;refine⟨M',L.bs,?_,h2⟩;simp[jU,pN,hc,aO,hg,dh,oV,h1]
 ·rw[if_neg e1]at h1 ⊢;show _=_;simp[jU,pN,hc,aO,hg,dh,oV,h1]
theorem aiG(x y:Int)(hx:Vg c x)(hy:Vg c y):kE M [ob L.c,.int x,.int y]=.ok (.list ((jG (bM (BJ c x y)) (qK c x y)).map pairD)):=by
 have h1:=I.hL;have f1:=I.few (R:=cX c 0 x) λr hr=>oN hr;have f2:=I.few (R:=cX c 0 y) λr hr=>oN hr;have f3:=I.few (R:=BJ c x y) λr hr=>by
  rcases ar0.mp hr with h|h
  ·exact oN (eY.mp h)
  ·exact oN (eY.mp h)
 have e:JK L c x y=BJ c x y:=by unfold JK BJ;rw[jW a,jW a]
 have:=aaQ a I.gr (by omega) (by omega) x y hx hy (by rw[jW a];omega) (by rw[jW a];omega) (by rw[e];omega) (by rw[jW a];exact I.Mp) (by rw[jW a];exact I.Mp);rw[e]at this;exact this
theorem aib(x y:Int):Sp M L (gj M [ob L.c,.int x,.int y]) (bT c (.xP x y)):=by
 have hc:=a.hc;obtain⟨n1,m1,hg⟩:=a.hg;have h1:=wF a y;have h2:=Bm a I.gr x;simp only[bT,uo];by_cases e1:Vg c y;rotate_left
 ·rw[if_neg e1]at h1 ⊢;show _=_;simp[gj,jo,hc,aO,hg,dh,aG,h1]
 rw[if_pos e1]at h1 ⊢;by_cases e2:Vg c x;rotate_left
 ·rw[if_neg e2]at h2 ⊢;show _=_;simp[gj,jo,hc,aO,hg,dh,aG,h1,bR,h2]
 rw[if_pos e2]at h2 ⊢;have h3:=Cr false y (aH c x);have h4:=ab4 a I.gr x y e2 e1;by_cases e3:y∈aH c x
 ·rw[if_pos e3];rw[decide_eq_true e3]at h3;show _=_;simp[gj,jo,hc,aO,hg,dh,aG,h1,bR,h2,h3]
 rw[if_neg e3]at h4 ⊢;rw[decide_eq_false e3]at h3;have h5:=aiG a I hs hn x y e2 e1;have h6:∀p∈jG (bM (BJ c x y)) (qK c x y),p.1.2.length=6:=λp hp=>by
  unfold jG at hp;obtain⟨q,hq,hp⟩:=List.mem_flatMap.mp hp;obtain⟨r,_,rfl⟩:=arY.mp hp;obtain⟨i,hi,rfl⟩:=List.mem_mapIdx.mp hq;have hm:=eY.mp (asH hi);rcases ar0.mp hm with h|h
  ·exact I.Mp _ (eY.mp h)
  ·exact I.Mp _ (eY.mp h)
 cases e4:jG (bM (BJ c x y)) (qK c x y) with
 |cons p ps=>
  rw[e4]at h5 h6;have h7:=Ip M p.1.2 p.2.2 (by have:=h6 p arU;omega);show _=_;simp[gj,jo,hc,aO,hg,dh,aG,h1,bR,h2,h3,ni,h5];simp[pairD,Ear.rD,Ear.dT,h7,Hw]
 |nil=>
  rw[e4]at h5;obtain⟨M',h4,h7⟩:=h4;refine⟨M',L.bs,?_,h7⟩;simp[gj,jo,hc,aO,hg,dh,aG,h1,bR,h2,h3,ni,h5,vR,h4]
theorem adK(e g x:Int):Sp M L (cV M [ob L.c,.int e,.int g,.int x]) (bT c (.heir e g x)):=by
 have hc:=a.hc;have hr:=a.hr;obtain⟨n1,m1,hg⟩:=a.hg;have hL:=I.hL;have h1:=lH a e;have h2:=wF a g;have h3:=qY a (by omega) e g;simp only[bT,oW,uo,jL];by_cases e1:e∈c.own;rotate_left
 ·rw[if_neg e1]at h1 ⊢;show _=_;simp[cV,dO,hc,aO,aC,h1]
 rw[if_pos e1]at h1 ⊢;by_cases e2:Vg c g;rotate_left
 ·rw[if_neg e2]at h2 ⊢;show _=_;simp[cV,dO,hc,aO,aC,h1,hg,dh,aG,h2]
 rw[if_pos e2]at h2 ⊢;by_cases e3:1<=x/\x<=3;rotate_left
 ·rw[if_neg e3];show _=_;by_cases e4:1<=x
  ·have e5:¬x<=3:=λz=>e3 ⟨e4,z⟩;simp[cV,dO,hc,aO,aC,h1,hg,dh,aG,h2,jg,lu,e4,e5]
  ·simp[cV,dO,hc,aO,aC,h1,hg,dh,aG,h2,jg,lu,e4]
 rw[if_pos e3];obtain⟨e4,e5⟩:=e3;by_cases e6:bF c e g=[]
 ·rw[if_pos e6]at h3 ⊢;show _=_;simp[cV,dO,hc,aO,aC,h1,hg,dh,aG,h2,jg,lu,e4,e5,aN,h3]
 rw[if_neg e6]at h3 ⊢;obtain⟨r,q4,q5⟩:=I.mk1 e6;have h7:=Bp a (by omega) _ _ q4;have f1:=I.few (R:=cX c 0 g) λr hr=>oN hr;have h8:=zG a I.gr (by omega) (by omega) g (by rw[jW a];omega);rw[if_pos e2,jW a]at h8;have h9:=Ad a I.gr g;rw[if_pos e2]at h9;have h10:=Xu M (firstM c e g) x (bM (cX c 0 g)) (roomOf c g) q5 ⟨by omega,e5⟩ (wI I.Mp) (by rw[ql];omega);cases e7:(zE (firstM c e g) x).find? (nM (bM (cX c 0 g)) (roomOf c g)) with
 |none=>
  rw[e7]at h10;show _=_;simp[cV,dO,hc,aO,aC,h1,hg,dh,aG,h2,jg,lu,e4,e5,aN,h3,bV,h7,cD,h8,cA,h9,h10]
 |some mk=>
  rw[e7]at h10;obtain⟨M1,k1,a1⟩:=Mx a (λo ho=>(I.own o ho).2) (by have:=I.ownL;omega);have k2:=Ld a1 (by show c.held.length<=50000;omega) (c.count+1) g mk;rw[if_neg (λz=>by
   have:=(I.own _ (I.hE _ z).1).2;simp at this
   omega)]at k2
  obtain⟨M2,k2,a2⟩:=k2;have hc1:=a1.hc;have hr1:=a1.hr;refine⟨M2,L.bs,?_,a2⟩;simp[cV,dO,hc,aO,aC,h1,hg,dh,aG,h2,jg,lu,e4,e5,aN,h3,bV,h7,cD,h8,cA,h9,h10,gR,k1];simp[hc1,aO,hr1,nO,iy,k2]
end
section
variable{M:Mo}{L:Lay}{c:aK}(a:At M L c){n s:Nat}(I:Inv n s c)(hs:s<=76)(hn:n<=1000)
include a I hs hn
theorem alm(k o:Int):Sp M L (dJ M [ob L.c,.int k,.int o]) (bT c (.sell k o)):=by
 have hc:=a.hc;obtain⟨n2,hh⟩:=a.hh;have hL:=I.hL;have h1:=K8 a (by omega) k;have h2:=lH a o;simp only[bT,markB,wg,wu,oW,jL];cases hk:bk c k with
 |none=>
  rw[hk]at h1;show _=_;simp[dJ,fM,hc,aO,hh,dH,bA,h1]
 |some b=>
  rw[hk]at h1;obtain⟨k1,k2,h3,h4,n3,hb⟩:=rN a hk;show Sp M L _ (if b.sd.al=true then _ else _);cases e1:b.sd.al with
  |false=>
   simp[e1]at h1;show _=_;simp[dJ,fM,hc,aO,hh,dH,bA,h1]
  |true=>
   simp[e1]at h1;simp only[if_true];cases e2:b.sd.due with
   |none=>
    simp[e2]at h1;show _=_;simp[dJ,fM,hc,aO,hh,dH,bA,h1]
   |some e0=>
    simp[e2]at h1;show Sp M L _ (if o∈c.own then _ else _);by_cases e3:o∈c.own;rotate_left
    ·rw[if_neg e3]at h2 ⊢;show _=_;simp[dJ,fM,hc,aO,hh,dH,bA,h1,aC,h2]
    rw[if_pos e3]at h2 ⊢;by_cases e4:b.sd.o=o
    ·rw[if_pos e4];show _=_;simp[dJ,fM,hc,aO,hh,dH,bA,h1,aC,h2,hb,e4]
    rw[if_neg e4];have h5:=qY a (by omega) o b.sd.g;by_cases e5:bF c o b.sd.g=[]
    ·rw[if_pos e5]at h5 ⊢;show _=_;simp[dJ,fM,hc,aO,hh,dH,bA,h1,aC,h2,hb,e4,aN,h5]
    rw[if_neg e5]at h5 ⊢;have mem:=arW h4;obtain⟨q1,q2,q3⟩:=I.alive mem e1;obtain⟨r,q4,q5⟩:=I.mk1 e5;have h6:=gD (I.ear b mem);have h7:=Bp a (by omega) _ _ q4;have h8:=Ip M b.sd.ear (firstM c o b.sd.g) (by omega);have q6:=gD (Fb (I.ear b mem) q5);generalize jM b.sd.ear (firstM c o b.sd.g)=e at h8 q6 ⊢;have f1:=I.few (R:=cX c k b.sd.g) λr hr=>oN hr;have h9:=DK a I.gr (by omega) (by omega) k b.sd.g (by rw[jW a];omega);rw[if_pos q2,jW a]at h9;have h10:=Ad a I.gr b.sd.g;rw[if_pos q2]at h10;have h11:=Ow M o e (bM (cX c k b.sd.g)) (roomOf c b.sd.g) q6 (wI I.Mp) (aar (by omega));cases e6:vO o e (bM (cX c k b.sd.g)) (roomOf c b.sd.g) with
    |cons r rs=>
     rw[e6]at h11;show _=_;simp[dJ,fM,hc,aO,hh,dH,bA,h1,aC,h2,hb,e4,aN,h5,bV,h7,h8,cZ,h9,cA,h10,h11,Hw]
    |nil=>
     rw[e6]at h11;have h12:=uf hb (.sold o e) (by omega) (by have:=I.en b mem;omega);have a1:=yU (n:=n3) (e:=.sold o e) a h3 h4;have hk2:bk (gq c (k - 1).toNat (.sold o e)) k=some (qb b (.sold o e)):=by unfold bk;rw[if_pos ⟨k1,by simpa [gq] using k2⟩,wz,if_pos rfl,h4];rfl
     obtain⟨M',h13,a2⟩:=Gj a1 (by simp[gq];omega) (I.bi.step _ _ q6) (by omega) k hk2;have hc1:=a1.hc;obtain⟨n4,hh1⟩:=a1.hh;refine⟨M',L.bs,?_,a2⟩;simp[En.dat]at h12;simp only[qb]at h13 hc1 hh1;simp[dJ,fM,hc,aO,hh,dH,bA,h1,aC,h2,hb,e4,aN,h5,bV,h7,h8,cZ,h9,cA,h10,h11,bO,h12];simp[hc1,aO,hh1,dH,iz,h13]
theorem ak2(k g:Int):Sp M L (dI M [ob L.c,.int k,.int g]) (bT c (.move k g)):=by
 have hc:=a.hc;obtain⟨n2,hh⟩:=a.hh;obtain⟨n5,m5,hg⟩:=a.hg;have hL:=I.hL;have h1:=K8 a (by omega) k;have h2:=wF a g;simp only[bT,markB,wg,wu,uo,jL];cases hk:bk c k with
 |none=>
  rw[hk]at h1;show _=_;simp[dI,fK,hc,aO,hh,dH,bA,h1]
 |some b=>
  rw[hk]at h1;obtain⟨k1,k2,h3,h4,n3,hb⟩:=rN a hk;show Sp M L _ (if b.sd.al=true then _ else _);cases e1:b.sd.al with
  |false=>
   simp[e1]at h1;show _=_;simp[dI,fK,hc,aO,hh,dH,bA,h1]
  |true=>
   simp[e1]at h1;simp only[if_true];cases e2:b.sd.due with
   |none=>
    simp[e2]at h1;show _=_;simp[dI,fK,hc,aO,hh,dH,bA,h1]
   |some e=>
    simp[e2]at h1;show Sp M L _ (if Vg c g then _ else _);by_cases e3:Vg c g;rotate_left
    ·rw[if_neg e3]at h2 ⊢;show _=_;simp[dI,fK,hc,aO,hh,dH,bA,h1,hg,dh,aG,h2]
    rw[if_pos e3]at h2 ⊢;by_cases e4:b.sd.g=g
    ·rw[if_pos e4];show _=_;simp[dI,fK,hc,aO,hh,dH,bA,h1,hg,dh,aG,h2,hb,e4]
    rw[if_neg e4];have h5:=qY a (by omega) b.sd.o g;by_cases e5:bF c b.sd.o g=[]
    ·rw[if_pos e5]at h5 ⊢;show _=_;simp[dI,fK,hc,aO,hh,dH,bA,h1,hg,dh,aG,h2,hb,e4,aN,h5]
    rw[if_neg e5]at h5 ⊢;have mem:=arW h4;have h6:=gD (I.ear b mem);have q6:=gD (I.due b mem e e2);have h11:=YC a I hs b.sd.o g e q6 e3;cases e6:vO b.sd.o e (bM (cX c 0 g)) (roomOf c g) with
    |cons r rs=>
     rw[e6]at h11;show _=_;simp[dI,fK,hc,aO,hh,dH,bA,h1,hg,dh,aG,h2,hb,e4,aN,h5,e2,oY,bU,h11]
    |nil=>
     rw[e6]at h11;have h12:=uf hb (.moved g) (by omega) (by have:=I.en b mem;omega);have a1:=yU (n:=n3) (e:=.moved g) a h3 h4;have hk2:bk (gq c (k - 1).toNat (.moved g)) k=some (qb b (.moved g)):=by unfold bk;rw[if_pos ⟨k1,by simpa [gq] using k2⟩,wz,if_pos rfl,h4];rfl
     obtain⟨M',h13,a2⟩:=Gj a1 (by simp[gq];omega) (I.bi.step _ _ trivial) (by omega) k hk2;have hc1:=a1.hc;obtain⟨n4,hh1⟩:=a1.hh;refine⟨M',L.bs,?_,a2⟩;simp[En.dat]at h12;simp only[qb]at h13 hc1 hh1;simp[dI,fK,hc,aO,hh,dH,bA,h1,hg,dh,aG,h2,hb,e4,aN,h5,e2,oY,bU,h11,bO,h12];simp[hc1,aO,hh1,dH,iz,h13]
theorem ajo(e h:Int):Sp M L (fQ M [ob L.c,.int e,.int h]) (bT c (.pass e h)):=by
 have hc:=a.hc;have hr:=a.hr;have hL:=I.hL;have h1:=lH a e;have h2:=lH a h;simp only[bT,oW];by_cases e1:e∈c.own;rotate_left
 ·rw[if_neg e1]at h1 ⊢;show _=_;simp[fQ,jD,hc,aO,aC,h1]
 rw[if_pos e1]at h1 ⊢;by_cases e2:h∈c.own;rotate_left
 ·rw[if_neg e2]at h2 ⊢;show _=_;simp[fQ,jD,hc,aO,aC,h1,h2]
 rw[if_pos e2]at h2 ⊢;by_cases e3:e=h
 ·rw[if_pos e3];show _=_;simp[fQ,jD,hc,aO,aC,h1,h2,e3]
 rw[if_neg e3];obtain⟨M1,h3,a1⟩:=aal a (by omega) e h;have hc1:=a1.hc;obtain⟨n1,hh1⟩:=a1.hh;have h4:=agi a1 (by show c.bs.length<=50000;omega) e;have ehd:bZ L { c with held:=handed c e h }=bZ L c:=rfl;rw[ehd]at h4;generalize hX:((bZ L c).filter λx=>(x.2.2.sd.o==e)&&x.2.2.sd.al)=X at h4;have hXl:X.length<=1000:=by rw[←hX];exact asl (ar7 _ _) (by rw[a.len'];omega)
 have bi1:Kr (2 * n) { c with held:=handed c e h }:=⟨I.bi.ear,I.bi.en⟩;obtain⟨Z',M2,g1,g2,g3⟩:=Ph (tg:=bH [4,5]) (body:=sG) (λZ=>∃x y,Z=[some (.dat (ob L.c)),some (.dat (.int e)),some (.dat (.int h)),some (.dat (.list (X.map nb))),x,y])
  (λi c1=>Kr (2 * n+i) c1/\c1.bs.length=c.bs.length) (.passed h) L 1000 X M1 { c with held:=handed c e h } [some (.dat (ob L.c)),some (.dat (.int e)),some (.dat (.int h)),some (.dat (.list (X.map nb))),none,none] 0 (by omega) a1 ⟨bi1,rfl⟩ ⟨none,none,rfl⟩ (λM1 c1 Z x i hi a1 p1 q1 hx=>by
   obtain⟨bi1,l1⟩:=p1;obtain⟨x0,y0,rfl⟩:=q1;rw[←hX]at hx;obtain⟨z1,z2⟩:=Ep (ash.mp hx).1;have hl:x.1 < c1.bs.length:=by rw[l1];exact(arQ.mp z2).1
   have z3:=arR hl;obtain⟨nx,hx1⟩:=a1.hb _ _ _ z1 z3;have mem:=asH hl;have hb:=uf hx1 (.passed h) (by rw[bi1.ear _ mem];decide) (by have:=bi1.en _ mem;omega);refine⟨[some (.dat (ob L.c)),some (.dat (.int e)),some (.dat (.int h)),some (.dat (.list (X.map nb))),some (.dat (.int ((x.1:Int)+1))),some (.dat (ob x.2.1))],[some (.dat (ob L.c)),some (.dat (.int e)),some (.dat (.int h)),some (.dat (.list (X.map nb))),some (.dat (.int ((x.1:Int)+1))),some (.dat (ob x.2.1))],_,by simp[nb],?_,⟨_,_,rfl⟩,yU (n:=nx) a1 z1 z3,bi1.step _ _ trivial,by simp[gq,l1]⟩;have hb:mH M1 [ob x.2.1,.tuple [.str "passed",.int h]]=_:=hb
   simp[sG,hx1,bO,hb,qb])
 obtain⟨x0,y0,rfl⟩:=g2;have g4:vh X (.passed h) { c with held:=handed c e h }=oM (λx=>(x.sd.o==e)&&x.sd.al) (.passed h) { c with held:=handed c e h }:=by rw[←hX];exact Wq a1 (λx=>(x.sd.o==e)&&x.sd.al) (.passed h)
 rw[g4]at g3;have hc2:=g3.hc;have hl:∀i,(M2.set L.c i)[L.c]?=some i:=λi=>by rw[bK hc2,if_pos rfl]
 have hk:=any_keys e c.own;rw[decide_eq_true e1]at hk;have hf:((c.own.map λo=>(PyData.int o,PyData.bool true)).filter λp=>!PyData.eqv p.1 (.int e))=(c.own.filter λo=>!(o==e)).map λo=>(PyData.int o,PyData.bool true):=by rw[List.filter_map];congr 1
 have a3:=g3.setC (n:=c.count) (own:=c.own.filter λo=>!(o==e));refine⟨_,L.bs,?_,a3⟩;have key:=eZ (tg:=bH [4,5]) (te:=aq 4) (M:=M2.set L.c (aO L { oM (λx=>(x.sd.o==e)&&x.sd.al) (.passed h) { c with held:=handed c e h } with count:=c.count,own:=c.own.filter λo=>!(o==e) })) (Z:=[some (.dat (ob L.c)),some (.dat (.int e)),some (.dat (.int h)),some (.dat (.list (X.map nb))),none,none]) nb (λx=>.int ((x.1:Int)+1)) X λx _=>⟨[some (.dat (ob L.c)),some (.dat (.int e)),some (.dat (.int h)),some (.dat (.list (X.map nb))),some (.dat (.int ((x.1:Int)+1))),some (.dat (ob x.2.1))],by simp[nb],by simp⟩;have eo:(R5 c e).map PyData.int=X.map λx=>.int ((x.1:Int)+1):=by unfold R5;rw[←Lg a,List.filter_map,asr,asr,←hX];rfl
 have eo:lI (R5 c e)=.list (X.map λx=>.int ((x.1:Int)+1)):=congrArg PyData.list eo;have hX2:X.length<=50000:=by omega
 have f2:c.own.length<=100000:=by have:=I.ownL;omega
 rw[eo];simp[fQ,jD,hc,aO,aC,h1,h2,e3,hr,nO,rW,h3];simp[hc1,aO,hh1,dH,Ay,h4,g1];simp only[oM]at hc2 key ⊢;have hk':(c.own.any ((λp=>PyData.eqv p.1 (.int e)) ∘ λo=>(PyData.int o,PyData.bool true)))=true:=by rw[←ath];exact hk
 simp[hc2,aO,f2];rw[hk',hf];simp only[aO]at key;simp[key,hX2]
end
theorem cW.same{c c':aK}(i:cW c)(h1:c'.al=c.al)(h2:c'.ci=c.ci):cW c':=by cases c;cases c';simp at h1 h2;subst h1 h2;exact⟨i.len,i.few,i.al,i.mem,i.own,i.up,i.one⟩
theorem cW.lt{c:aK}(i:cW c){k:Nat}{l:List Int}(h:c.ci[k]?=some l):k < c.al.length:=by rw[←i.len];exact(arQ.mp h).1
theorem cW.add{c:aK}(i:cW c)(hf:c.al.length < 200){x:Int}(hx:0<=x/\x<=9):cW { c with al:=c.al++[x],ci:=c.ci++[[(c.al.length:Int)+1]] }:=by
 have key:∀(k:Nat) (l:List Int),(c.ci++[[(c.al.length:Int)+1]])[k]?=some l->(c.ci[k]?=some l/\k < c.al.length)∨(k=c.al.length/\l=[(c.al.length:Int)+1]):=λk l h=>by
  by_cases hk:k < c.ci.length
  ·rw[ar3 hk]at h;exact .inl ⟨h,i.lt h⟩
  ·rw[asf (by omega)]at h;have hk2:k - c.ci.length=0:=by
    have:=(arQ.mp h).1;simp at this;omega
   rw[hk2]at h;simp at h;exact .inr ⟨by have:=i.len;omega,h.symm⟩
 refine⟨by simp[i.len],by simp;omega,λy hy=>?_,λk l h y hy=>?_,λk l h=>?_,λk l h=>?_,λk j l h hj=>?_⟩
 ·rcases ar0.mp hy with hy|hy
  ·exact i.al y hy
  ·rw[arV.mp hy];exact hx
 ·show 1<=y/\y<=((c.al++[x]).length:Int);rw[asF,List.length_singleton];rcases key k l h with⟨h,_⟩|⟨_,rfl⟩
  ·have:=i.mem k l h y hy;omega
  ·rw[arV.mp hy];omega
 ·rcases key k l h with⟨h,_⟩|⟨rfl,rfl⟩
  ·exact i.own k l h
  ·simp
 ·rcases key k l h with⟨h,_⟩|⟨rfl,rfl⟩
  ·exact i.up k l h
  ·simp
 ·show(c.ci++[[(c.al.length:Int)+1]])[j]?=some l
  rcases key k l h with⟨h,_⟩|⟨rfl,rfl⟩
  ·have h2:=i.one k j l h hj;rw[ar3 (arQ.mp h2).1];exact h2
  ·have:j=c.al.length:=by
    rw[arV]at hj;omega
   rw[this,←i.len];simp
theorem aak(l:List Int):∀(s:List Int) (ci:List (List Int)) (k:Nat),(∀y∈s,1<=y)->(s.foldl (λs y=>s.set (y - 1).toNat l) ci)[k]?=if ((k:Int)+1∈s)/\k < ci.length then some l else ci[k]?
 |[],ci,k,_=>by simp
 |y::s,ci,k,h=>by
  rw[asY,aak l s _ k λz hz=>h z (arS _ hz),aso];have hy:=h y arU;by_cases h1:(k:Int)+1∈s/\k < ci.length
  ·rw[if_pos h1,if_pos ⟨arS _ h1.1,h1.2⟩]
  ·rw[if_neg h1,asZ];by_cases h2:(y - 1).toNat=k
   ·rw[if_pos h2];have e:(k:Int)+1=y:=by omega
    by_cases h3:k < ci.length
    ·rw[if_pos (by omega),if_pos ⟨by rw[e];exact arU,h3⟩]
    ·rw[if_neg (by omega),if_neg (λz=>h3 z.2),asu (by omega)]
   ·rw[if_neg h2,if_neg];rintro⟨z,h3⟩;rcases ar4.mp z with z|z
    ·omega
    ·exact h1 ⟨z,h3⟩
theorem zu(ci:List (List Int))(l:List Int)(k:Nat)(h:∀y∈l,1<=y):(encl ci l)[k]?=if ((k:Int)+1∈l)/\k < ci.length then some l else ci[k]?:=aak l l ci k h
theorem cW.again{c:aK}(i:cW c){ci:List (List Int)}(hl:ci.length=c.ci.length)(P:List Int->Prop)
  (h1:∀(k:Nat) (l:List Int),ci[k]?=some l->(P l/\(k:Int)+1∈l)∨c.ci[k]?=some l)
  (h2:∀l,P l->l.Pairwise (· < ·)/\∀y∈l,Vg c y/\ci[(y - 1).toNat]?=some l)
  (h3:∀(k j:Nat) (l:List Int),ci[k]?=some l->c.ci[k]?=some l->c.ci[j]?=some l->(k:Int)+1∈l->¬P l->ci[j]?=some l):cW { c with ci:=ci }:=by
 refine⟨by show ci.length=_;rw[hl,i.len],i.few,i.al,λk l h y hy=>?_,λk l h=>?_,λk l h=>?_,λk j l h hj=>?_⟩
 ·rcases h1 k l h with⟨p,_⟩|h
  ·exact((h2 l p).2 y hy).1
  ·exact i.mem k l h y hy
 ·rcases h1 k l h with⟨_,p⟩|h
  ·exact p
  ·exact i.own k l h
 ·rcases h1 k l h with⟨p,_⟩|h
  ·exact(h2 l p).1
  ·exact i.up k l h
 ·show ci[j]?=some l;have pj:P l->ci[j]?=some l:=λp=>by
   have:=((h2 l p).2 _ hj).2
   rwa [show((j:Int)+1 - 1).toNat=j by omega]at this
  rcases h1 k l h with⟨p,_⟩|h'
  ·exact pj p
  ·by_cases p:P l
   ·exact pj p
   ·exact h3 k j l h h' (i.one k j l h' hj) (i.own k l h') p
theorem cW.at{c:aK}(i:cW c){x:Int}(h:Vg c x):c.ci[(x - 1).toNat]?=some (aH c x):=by
 obtain⟨k,hk,rfl⟩:=rA h;have hk':k < c.ci.length:=by rw[i.len];exact hk
 simp[aH,hk']
theorem cW.self{c:aK}(i:cW c){x:Int}(h:Vg c x):x∈aH c x:=by
 have:=i.own _ _ (i.at h)
 rwa [show(((x - 1).toNat:Nat):Int)+1=x by omega]at this
theorem cW.eq{c:aK}(i:cW c){x y:Int}(h:Vg c x)(hy:y∈aH c x):aH c y=aH c x:=by have v:=i.mem _ _ (i.at h) y hy;have:=i.one _ (y - 1).toNat _ (i.at h) (by rw[show(((y - 1).toNat:Nat):Int)+1=y by omega];exact hy);rw[i.at v]at this;exact ase this
theorem Ek{l:List Int}{i:Int}:i∈sortI l↔i∈l:=by unfold sortI;rw[List.mem_mergeSort]
theorem afM{l:List Int}(h:l.Nodup):(sortI l).Pairwise (· < ·):=by unfold sortI;have srt:=atb (le:=λa b:Int=>decide (a<=b)) (λa b c k1 k2=>by rw[ato]at *;omega) (λa b=>by rw[atd,ato,ato];omega) l;have nd:(l.mergeSort λa b=>decide (a<=b)).Nodup:=(List.mergeSort_perm _ _).nodup_iff.mpr h;refine List.Pairwise.imp₂ (λa b h1 h2=>?_) srt nd;rw[ato]at h1;have:a≠b:=h2;omega
theorem cW.xP{c:aK}(i:cW c){x y:Int}(hx:Vg c x)(hy:Vg c y)(hn:y∉aH c x):cW { c with ci:=encl c.ci (sortI (aH c x++aH c y)) }:=by
 generalize hS:sortI (aH c x++aH c y)=S;have mem:∀z,z∈S↔z∈aH c x∨z∈aH c y:=λz=>by rw[←hS,Ek,ar0]
 have vg:∀z∈S,Vg c z:=λz hz=>by
  rcases(mem z).mp hz with h|h
  ·exact i.mem _ _ (i.at hx) z h
  ·exact i.mem _ _ (i.at hy) z h
 have up:S.Pairwise (· < ·):=by
  rw[←hS];refine afM ?_;rw[asO];have nd:∀{l:List Int},l.Pairwise (· < ·)->l.Nodup:=λh=>h.imp λ{a b} z e=>by omega
  refine⟨nd (i.up _ _ (i.at hx)),nd (i.up _ _ (i.at hy)),λa ha b hb e=>?_⟩;subst e;have e1:=i.eq hx ha;have e2:=i.eq hy hb;rw[e1]at e2;exact hn (e2 ▸ i.self hy)
 have get:=λk=>zu c.ci S k λz hz=>(vg z hz).1;refine i.again (P:=λl=>l=S) (by unfold encl;rw[vZ]) (λk l h=>?_) (λl hl=>?_) (λk j l h h' hj hk np=>?_)
 ·rw[get]at h;split at h
  ·next z=>
   cases h;exact .inl ⟨rfl,z.1⟩
  ·exact .inr h
 ·subst hl;refine⟨up,λz hz=>⟨vg z hz,?_⟩⟩;have v:=vg z hz;have e:(((z - 1).toNat:Nat):Int)+1=z:=by omega
  rw[get,e,if_pos ⟨hz,by rw[i.len];omega⟩]
 ·rw[get];by_cases z:(j:Int)+1∈S/\j < c.ci.length
  ·exfalso;have v:=vg _ z.1;have ej:aH c ((j:Int)+1)=l:=by
    have:=i.at v;rw[show((j:Int)+1 - 1).toNat=j by omega,hj]at this;exact(ase this).symm
   have hk2:(k:Int)+1∈S:=by
    rw[mem];rcases(mem _).mp z.1 with q|q
    ·exact .inl (by rw[←i.eq hx q,ej];exact hk)
    ·exact .inr (by rw[←i.eq hy q,ej];exact hk)
   rw[get,if_pos ⟨hk2,(arQ.mp h').1⟩]at h;exact np (ase h).symm
  ·rw[if_neg z];exact hj
theorem cW.part{c:aK}(i:cW c){x:Int}(hx:Vg c x):cW { c with ci:=encl (encl c.ci [x]) (lW c x) }:=by
 have mem:∀z,z∈lW c x↔z∈aH c x/\z≠x:=λz=>by
  unfold lW;rw[ash];simp
 have vg:∀z∈lW c x,Vg c z:=λz hz=>i.mem _ _ (i.at hx) z ((mem z).mp hz).1;have l1:(encl c.ci [x]).length=c.ci.length:=by unfold encl;rw[vZ]
 have get:∀k:Nat,(encl (encl c.ci [x]) (lW c x))[k]?=if ((k:Int)+1∈lW c x)/\k < c.ci.length then some (lW c x) else if ((k:Int)+1=x)/\k < c.ci.length then some [x] else c.ci[k]?:=λk=>by
  rw[zu _ _ _ λz hz=>(vg z hz).1,l1,zu _ _ _ λz hz=>by rw[arV.mp hz];exact hx.1];simp only[arV]
 refine i.again (P:=λl=>l=lW c x/\l≠[]∨l=[x]) (by unfold encl;rw[vZ,vZ]) (λk l h=>?_) (λl hl=>?_) (λk j l h h' hj hk np=>?_)
 ·rw[get]at h;split at h
  ·next z=>
   cases h;exact .inl ⟨.inl ⟨rfl,List.ne_nil_of_mem z.1⟩,z.1⟩
  ·split at h
   ·next z=>
    cases h;exact .inl ⟨.inr rfl,by rw[z.1];simp⟩
   ·exact .inr h
 ·rcases hl with⟨rfl,_⟩|rfl
  ·refine⟨(i.up _ _ (i.at hx)).filter _,λz hz=>⟨vg z hz,?_⟩⟩;have v:=vg z hz;have e:(((z - 1).toNat:Nat):Int)+1=z:=by omega
   rw[get,e,if_pos ⟨hz,by rw[i.len];omega⟩]
  ·refine⟨by simp,λz hz=>?_⟩;rw[arV.mp hz];refine⟨hx,?_⟩;have e:(((x - 1).toNat:Nat):Int)+1=x:=by omega
   rw[get,e,if_neg (λz=>((mem x).mp z.1).2 rfl),if_pos ⟨rfl,by rw[i.len];omega⟩]
 ·have key:∀m:Nat,c.ci[m]?=some l->(m:Int)+1∈aH c x->l=aH c x:=λm hm q=>by
   have v:=i.mem _ _ (i.at hx) _ q;have:=i.at v;rw[show((m:Int)+1 - 1).toNat=m by omega,hm,i.eq hx q]at this;exact ase this
  have out:(k:Int)+1∉aH c x:=λq=>by
   rw[get]at h;by_cases e:(k:Int)+1=x
   ·rw[if_neg (λz=>((mem _).mp z.1).2 e),if_pos ⟨e,(arQ.mp h').1⟩]at h;exact np (.inr (ase h).symm)
   ·rw[if_pos ⟨(mem _).mpr ⟨q,e⟩,(arQ.mp h').1⟩]at h;have e2:=(ase h).symm;exact np (.inl ⟨e2,λz=>by rw[z]at hk;cases hk⟩)
  have outj:(j:Int)+1∉aH c x:=λq=>out (key j hj q ▸ hk);have o1:¬((j:Int)+1∈lW c x/\j < c.ci.length):=λz=>outj ((mem _).mp z.1).1;have o2:¬((j:Int)+1=x/\j < c.ci.length):=λz=>outj (by rw[z.1];exact i.self hx);rw[get,if_neg o1,if_neg o2];exact hj
def Good(held:List Row3)(s:Sd):Prop:=cY s.ear=true/\(∀e,s.due=some e->cY e=true)/\(s.al=true->∃m,(s.o,s.g,m)∈held)
structure RJ(m:Nat)(c:aK):Prop where
 g:∀b∈c.bs,Good c.held b.sd
 en:∀b∈c.bs,b.en.length<=m
theorem Inv.V6{n s:Nat}{c:aK}(I:Inv n s c):RJ (2 * n) c:=⟨λb hb=>⟨I.ear b hb,I.due b hb,I.rt b hb⟩,I.en⟩
theorem ZX{c:aK}{i:Nat}{e:En}{b:dD}(h:b∈(gq c i e).bs):b∈c.bs∨∃b0,c.bs[i]?=some b0/\b=qb b0 e:=by
 obtain⟨j,hj⟩:=List.mem_iff_getElem?.mp h;rw[wz]at hj;split at hj
 ·next z=>
  subst z;obtain⟨b0,h3,h4⟩:=asx.mp hj;exact .inr ⟨b0,h3,h4.symm⟩
 ·exact .inl (arW hj)
theorem RJ.one{m:Nat}{c:aK}(B:RJ m c){i:Nat}{e:En}(h:∀b,c.bs[i]?=some b->Good c.held (go b.sd e)):RJ (m+1) (gq c i e):=by
 refine⟨λb hb=>?_,λb hb=>?_⟩
 ·rcases ZX hb with h1|⟨b0,h1,rfl⟩
  ·exact B.g b h1
  ·exact h b0 h1
 ·rcases ZX hb with h1|⟨b0,h1,rfl⟩
  ·have:=B.en b h1;omega
  ·have:=B.en b0 (arW h1);simp[qb];omega
theorem RJ.many{m:Nat}{c:aK}(B:RJ m c){p:dD->Bool}{e:En}(h:∀b∈c.bs,p b=true->Good c.held (go b.sd e)):RJ (m+1) (oM p e c):=by
 refine⟨λb hb=>?_,λb hb=>?_⟩
 ·obtain⟨b0,h1,rfl⟩:=arY.mp hb;cases hp:p b0 with
  |true=>
   rw[if_pos rfl];exact h b0 h1 hp
  |false=>
   rw[if_neg (by simp)];exact B.g b0 h1
 ·obtain⟨b0,h1,rfl⟩:=arY.mp hb;have:=B.en b0 h1;cases hp:p b0<;>simp[qb]<;>omega
theorem Good.mono{held held':List Row3}{s:Sd}(g:Good held s)(h:∀r∈held,r∈held'):Good held' s:=⟨g.1,g.2.1,λz=>by
 obtain⟨m,hm⟩:=g.2.2 z;exact⟨m,h _ hm⟩⟩
theorem Inv.of{n s n' s':Nat}{c c':aK}(I:Inv n s c)(hn:n<=n')(gr:cW c')(hal:c'.al.length<=n')(ec:c'.count=c.count)(eo:c'.own=c.own)(hd:c'.held.Nodup)(hL:c'.held.length+c'.bs.length<=s')(hE:∀r∈c'.held,r.1∈c'.own/\Vg c' r.2.1/\cY r.2.2=true)(B:RJ (2 * n') c'):Inv n' s' c':=
 ⟨gr,hal,by have:=I.cnt;rw[ec];omega,by rw[ec,eo];exact I.own,by rw[eo];exact I.Qz,by have:=I.ownL;rw[eo];omega,hd,hL,hE,λb hb=>(B.g b hb).1,λb hb=>(B.g b hb).2.1,B.en,λb hb=>(B.g b hb).2.2⟩
theorem aci{x:List Int}{p:Nat}(h:cY x=true)(h9:¬9<=x.getD p 0):cY (xZ x p)=true:=by
 unfold cY at *;simp only[arP,ato,asj]at *;refine⟨by rw[acJ];exact h.1,λd hd=>?_⟩;unfold xZ at hd;obtain⟨i,hi,rfl⟩:=List.mem_mapIdx.mp hd;have:=h.2 _ (asH hi);split
 ·next e=>
  subst e;have:x.getD i 0=x[i]:=by simp[hi]
  omega
 ·exact this
theorem Ik{r:Row3}:∀(l acc:List Row3),r∈l.foldl Fp acc↔r∈acc∨r∈l
 |[],acc=>by simp
 |x::l,acc=>by
  rw[asY,Ik l];unfold Fp;split
  ·next h=>
   constructor
   ·rintro(z|z)
    ·exact .inl z
    ·exact .inr (arS _ z)
   ·rintro(z|z)
    ·exact .inl z
    ·rcases ar4.mp z with rfl|z
     ·exact .inl h
     ·exact .inr z
  ·simp[or_assoc]
theorem Rr:∀(l acc:List Row3),acc.Nodup->(l.foldl Fp acc).Nodup
 |[],acc,h=>h
 |x::l,acc,h=>by
  rw[asY];refine Rr l _ ?_;unfold Fp;split
  ·exact h
  ·next z=>
   rw[asO];exact⟨h,by simp,λa ha b hb e=>z (by rw[arV.mp hb]at e;exact e ▸ ha)⟩
theorem Zv:∀(l acc:List Row3),(l.foldl Fp acc).length<=acc.length+l.length
 |[],acc=>by simp
 |x::l,acc=>by
  rw[asY];refine asl (Zv l _) ?_;unfold Fp
  split<;>simp<;>omega
def cost:bG->Nat
 |.enrol ..=>1
 |.bring ..=>1
 |.bear ..=>1
 |.heir ..=>1
 |_=>0
theorem wD{o room:Int}{e:List Int}{R:List Rw}{x:Res}{d:Dat}{c':aK}(h:wu o e R room x=.ok d c'):x=.ok d c':=by
 unfold wu at h;split at h
 ·exact h
 ·cases h
theorem lE{c:aK}{o:Int}{x:Res}{d:Dat}{c':aK}(h:oW c o x=.ok d c'):o∈c.own/\x=.ok d c':=by
 unfold oW at h;split at h
 ·next z=>exact⟨z,h⟩
 ·cases h
theorem lO{c:aK}{g:Int}{x:Res}{d:Dat}{c':aK}(h:uo c g x=.ok d c'):Vg c g/\x=.ok d c':=by
 unfold uo at h;split at h
 ·next z=>exact⟨z,h⟩
 ·cases h
theorem Ny{e:List Int}{x:Res}{d:Dat}{c':aK}(h:Jp e x=.ok d c'):cY e=true/\x=.ok d c':=by
 unfold Jp at h;split at h
 ·next z=>exact⟨z,h⟩
 ·cases h
theorem mF{c:aK}{o g:Int}{x:Res}{d:Dat}{c':aK}(h:jL c o g x=.ok d c'):bF c o g≠[]/\x=.ok d c':=by
 unfold jL at h;split at h
 ·cases h
 ·next z=>exact⟨z,h⟩
theorem zf{c:aK}{k:Int}{f:dD->Res}{d:Dat}{c':aK}(h:wg c k f=.ok d c'):∃b,bk c k=some b/\b.sd.al=true/\f b=.ok d c':=by
 unfold wg at h;split at h
 ·cases h
 ·next b hb=>
  split at h
  ·next z=>exact⟨b,hb,z,h⟩
  ·cases h
theorem zA{c:aK}{k:Int}{f:dD->List Int->Res}{d:Dat}{c':aK}(h:markB c k f=.ok d c'):∃b e,bk c k=some b/\b.sd.al=true/\b.sd.due=some e/\f b e=.ok d c':=by
 obtain⟨b,h1,h2,h3⟩:=zf h;split at h3
 ·cases h3
 ·next e he=>exact⟨b,e,h1,h2,he,h3⟩
theorem jQ{p:Prop}[Decidable p]{x:dG}{y:Res}{d:Dat}{c':aK}(h:(if p then .no x else y)=Res.ok d c'):¬p/\y=.ok d c':=by
 split at h
 ·cases h
 ·next z=>exact⟨z,h⟩
theorem Ce{p:Prop}[Decidable p]{x:dG}{y:Res}{d:Dat}{c':aK}(h:(if p then y else .no x)=Res.ok d c'):p/\y=.ok d c':=by
 split at h
 ·next z=>exact⟨z,h⟩
 ·cases h
theorem lM{c:aK}{k:Int}{b:dD}(h:bk c k=some b):c.bs[(k - 1).toNat]?=some b/\1<=k/\k<=c.bs.length:=by
 unfold bk at h;split at h
 ·next z=>exact⟨h,z⟩
 ·cases h
theorem RP(c:aK)(k o g:Int):(wL c k o g).bs.length=c.bs.length:=by simp[wL,oM]
theorem CN(c:aK)(i:Nat)(e:En):(gq c i e).bs.length=c.bs.length:=by simp[gq]
theorem aaO{n s:Nat}{c c':aK}{d:bG}{r:Dat}(I:Inv n s c)(hn:c.al.length<=199)(h:bT c d=.ok r c'):Inv (n+1) (s+cost d) c':=by
 have L0:=I.hL;have A0:=I.al;have C0:=I.cnt;have O0:=I.ownL;have up:RJ (2 * (n+1)) c:=⟨I.V6.g,λb hb=>by have:=I.en b hb;omega⟩;cases d with
 |owner=>
  cases h;refine⟨I.gr.same rfl rfl,by show c.al.length<=_;omega,⟨by show 0<=c.count+1;omega,by show c.count+1<=((n+1:Nat):Int);omega⟩,λo ho=>?_,?_,by simp;omega,I.held,by simp[cost];omega,λr hr=>?_,I.ear,I.due,up.en,I.rt⟩
  ·show 1<=o/\o<=c.count+1;rcases ar0.mp ho with ho|ho
   ·have:=I.own o ho;omega
   ·rw[arV.mp ho];omega
  ·rw[asO];refine⟨I.Qz,by simp,λa ha b hb e=>?_⟩;rw[arV.mp hb]at e;have:=I.own a ha;omega
  ·obtain⟨h1,h2,h3⟩:=I.hE r hr;exact⟨asy _ h1,h2,h3⟩
 |ground x=>
  obtain⟨hx,h⟩:=Ce h;cases h;refine I.of (by omega) (I.gr.add (by omega) hx) (by simp;omega) rfl rfl I.held (by simp[cost];omega) (λr hr=>?_) ⟨up.g,up.en⟩;obtain⟨h1,h2,h3⟩:=I.hE r hr;refine⟨h1,?_,h3⟩;show 1<=_/\_<=((c.al++[x]).length:Int);rw[asF];have:=h2.2;exact⟨h2.1,by omega⟩
 |enrol o g m=>
  obtain⟨h1,h⟩:=lE h;obtain⟨h2,h⟩:=lO h;obtain⟨h3,h⟩:=Ny h;obtain⟨h4,h⟩:=jQ h;obtain⟨h5,h⟩:=jQ h;have h:=wD h;cases h;refine I.of (by omega) (I.gr.same rfl rfl) (by show c.al.length<=_;omega) rfl rfl ?_ (by simp[cost];omega) (λr hr=>?_) ⟨λb hb=>(up.g b hb).mono λr hr=>asy _ hr,up.en⟩
  ·rw[asO];refine⟨I.held,by simp,λa ha b hb e=>?_⟩;rw[arV.mp hb]at e;exact h5 (Ef.mpr (e ▸ ha))
  ·rcases ar0.mp hr with hr|hr
   ·exact I.hE r hr
   ·rw[arV.mp hr];exact⟨h1,h2,h3⟩
 |leave o g=>
  obtain⟨h1,h⟩:=lE h;obtain⟨h2,h⟩:=lO h;obtain⟨h3,h⟩:=mF h;obtain⟨h4,h⟩:=jQ h;cases h;have sub:∀r∈dropped c o g,r∈c.held:=λr hr=>(ash.mp hr).1;have ln:(dropped c o g).length<=c.held.length:=ar7 _ _;refine I.of (by omega) (I.gr.same rfl rfl) (by show c.al.length<=_;omega) rfl rfl (I.held.filter _) (by simp[cost];omega) (λr hr=>I.hE r (sub r hr)) ⟨λb hb=>⟨(up.g b hb).1,(up.g b hb).2.1,λhal=>?_⟩,up.en⟩;obtain⟨m,hm⟩:=(up.g b hb).2.2 hal;refine⟨m,ash.mpr ⟨hm,?_⟩⟩;simp only[ar9,Bool.and_eq_false_iff,beq_eq_false_iff_ne];by_cases e:b.sd.o=o/\b.sd.g=g
  ·exfalso;refine h4 (List.any_eq_true.mpr ⟨b,hb,?_⟩);simp[Yb,hal,e.1,e.2]
  ·by_cases e1:b.sd.o=o
   ·exact .inr λz=>e ⟨e1,z⟩
   ·exact .inl e1
 |bring o g e=>
  obtain⟨h1,h⟩:=lE h;obtain⟨h2,h⟩:=lO h;obtain⟨h3,h⟩:=Ny h;obtain⟨h4,h⟩:=mF h;cases h;refine I.of (by omega) (I.gr.same rfl rfl) (by show c.al.length<=_;omega) rfl rfl I.held (by simp[cost];omega) I.hE ⟨λb hb=>?_,λb hb=>?_⟩
  ·rcases ar0.mp hb with hb|hb
   ·exact up.g b hb
   ·rw[arV.mp hb];exact⟨h3,λe z=>(by cases z),λ_=>zq.mp h4⟩
  ·rcases ar0.mp hb with hb|hb
   ·exact up.en b hb
   ·rw[arV.mp hb];simp[Dm]
 |bear k=>
  obtain⟨b0,e0,h1,h2,h3,h⟩:=zA h;cases h;refine I.of (by omega) (I.gr.same rfl rfl) (by show c.al.length<=_;omega) rfl rfl I.held (by simp[cost];omega) I.hE ⟨λb hb=>?_,λb hb=>?_⟩
  ·rcases ar0.mp hb with hb|hb
   ·exact up.g b hb
   ·rw[arV.mp hb];exact⟨(by decide:cY [0,0,0,0,0,0]=true),λe z=>(by cases z),λ_=>(up.g b0 (arW (lM h1).1)).2.2 h2⟩
  ·rcases ar0.mp hb with hb|hb
   ·exact up.en b hb
   ·rw[arV.mp hb];simp[Dm]
 |cut k=>
  obtain⟨b0,h1,h2,h⟩:=zf h;have h:=wD h;cases h;have hm:=arW (lM h1).1;obtain⟨r,q4,q5⟩:=I.mk1 (I.alive hm h2).1;have je:=Fb (I.ear b0 hm) q5;generalize jM b0.sd.ear (firstM c b0.sd.o b0.sd.g)=e at je ⊢;have B:=I.V6.one (i:=(k - 1).toNat) (e:=.cut e) λb hb=>by
   rw[(lM h1).1]at hb;cases hb;exact⟨je,λe z=>(by cases z;exact je),λ_=>I.rt b0 hm h2⟩
  exact I.of (by omega) (I.gr.same rfl rfl) (by show c.al.length<=_;omega) rfl rfl I.held (by rw[CN];simp[cost,gq];omega) I.hE ⟨B.g,λb hb=>by have:=B.en b hb;omega⟩
 |tear k p=>
  obtain⟨b0,h1,h2,h⟩:=zf h;obtain⟨h3,h⟩:=Ce h;obtain⟨h4,h⟩:=jQ h;cases h;have hm:=arW (lM h1).1;have B:=I.V6.one (i:=(k - 1).toNat) (e:=.torn p.toNat) λb hb=>by
   rw[(lM h1).1]at hb;cases hb;exact⟨aci (I.ear b0 hm) h4,I.due b0 hm,I.rt b0 hm⟩
  exact I.of (by omega) (I.gr.same rfl rfl) (by show c.al.length<=_;omega) rfl rfl I.held (by rw[CN];simp[cost,gq];omega) I.hE ⟨B.g,λb hb=>by have:=B.en b hb;omega⟩
 |die k=>
  obtain⟨b0,h1,h2,h⟩:=zf h;cases h;have hm:=arW (lM h1).1;have B:=I.V6.one (i:=(k - 1).toNat) (e:=.died) λb hb=>by
   rw[(lM h1).1]at hb;cases hb;exact⟨I.ear b0 hm,I.due b0 hm,λz=>by cases z⟩
  exact I.of (by omega) (I.gr.same rfl rfl) (by show c.al.length<=_;omega) rfl rfl I.held (by rw[CN];simp[cost,gq];omega) I.hE ⟨B.g,λb hb=>by have:=B.en b hb;omega⟩
 |sell k o=>
  obtain⟨b0,e0,h1,h2,h3,h⟩:=zA h;obtain⟨h4,h⟩:=lE h;obtain⟨h5,h⟩:=jQ h;obtain⟨h6,h⟩:=mF h;have h:=wD h;cases h;have hm:=arW (lM h1).1;obtain⟨r,q4,q5⟩:=I.mk1 h6;have je:=Fb (I.ear b0 hm) q5;generalize jM b0.sd.ear (firstM c o b0.sd.g)=e at je ⊢;have B:=I.V6.one (i:=(k - 1).toNat) (e:=.sold o e) λb hb=>by
   rw[(lM h1).1]at hb;cases hb;exact⟨je,λe z=>(by cases z;exact je),λ_=>zq.mp h6⟩
  have B2:=B.many (p:=λx=>uN k x&&x.sd.al) (e:=.followed o b0.sd.g) λb hb _=>⟨(B.g b hb).1,(B.g b hb).2.1,λ_=>zq.mp h6⟩;exact I.of (by omega) (I.gr.same rfl rfl) (by show c.al.length<=_;omega) rfl rfl I.held (by rw[RP,CN];simp[cost,gq,wL,oM];omega) I.hE ⟨B2.g,λb hb=>by have:=B2.en b hb;omega⟩
 |move k g=>
  obtain⟨b0,e0,h1,h2,h3,h⟩:=zA h;obtain⟨h4,h⟩:=lO h;obtain⟨h5,h⟩:=jQ h;obtain⟨h6,h⟩:=mF h;have h:=wD h;cases h;have hm:=arW (lM h1).1;have B:=I.V6.one (i:=(k - 1).toNat) (e:=.moved g) λb hb=>by
   rw[(lM h1).1]at hb;cases hb;exact⟨I.ear b0 hm,I.due b0 hm,λ_=>zq.mp h6⟩
  have B2:=B.many (p:=λx=>uN k x&&x.sd.al) (e:=.followed b0.sd.o g) λb hb _=>⟨(B.g b hb).1,(B.g b hb).2.1,λ_=>zq.mp h6⟩;exact I.of (by omega) (I.gr.same rfl rfl) (by show c.al.length<=_;omega) rfl rfl I.held (by rw[RP,CN];simp[cost,gq,wL,oM];omega) I.hE ⟨B2.g,λb hb=>by have:=B2.en b hb;omega⟩
 |xP x y=>
  obtain⟨h1,h⟩:=lO h;obtain⟨h2,h⟩:=lO h;obtain⟨h3,h⟩:=jQ h;split at h
  ·cases h
  ·cases h;exact I.of (by omega) (I.gr.xP h2 h1 h3) (by show c.al.length<=_;omega) rfl rfl I.held (by show c.held.length+c.bs.length<=_;omega) I.hE ⟨up.g,up.en⟩
 |part x=>
  obtain⟨h1,h⟩:=lO h;obtain⟨h3,h⟩:=jQ h;cases h;exact I.of (by omega) (I.gr.part h1) (by show c.al.length<=_;omega) rfl rfl I.held (by show c.held.length+c.bs.length<=_;omega) I.hE ⟨up.g,up.en⟩
 |pass e h'=>
  obtain⟨h1,h⟩:=lE h;obtain⟨h2,h⟩:=lE h;obtain⟨h3,h⟩:=jQ h;cases h;have hin:∀r∈c.held,zH e h' r∈handed c e h':=λr hr=>(Ik _ _).mpr (.inr (arY.mpr ⟨r,hr,rfl⟩));have hout:∀r∈handed c e h',∃r0∈c.held,zH e h' r0=r:=λr hr=>by
   rcases(Ik _ _).mp hr with z|z
   ·cases z
   ·obtain⟨r0,z1,z2⟩:=arY.mp z;exact⟨r0,z1,z2⟩
  have hl:(handed c e h').length<=c.held.length:=by have:=Zv (c.held.map (zH e h')) [];simpa [handed] using this
  have ow:∀o,o∈c.own.filter (λo=>!(o==e))↔o∈c.own/\o≠e:=λo=>by
   rw[ash];simp
  have g:∀b∈(oM (λb=>(b.sd.o==e)&&b.sd.al) (.passed h') c).bs,Good (handed c e h') b.sd:=λb hb=>by
   obtain⟨b0,hb0,rfl⟩:=arY.mp hb;have G:=up.g b0 hb0;cases hp:((b0.sd.o==e)&&b0.sd.al) with
   |true=>
    simp only[hp,if_true];refine⟨G.1,G.2.1,λhal=>?_⟩;obtain⟨m,hm⟩:=G.2.2 hal;have:=hin _ hm;simp at hp;rw[hp.1]at this;exact⟨m,by simpa [zH,qb,go] using this⟩
   |false=>
    simp only[hp];refine⟨G.1,G.2.1,λhal=>?_⟩;obtain⟨m,hm⟩:=G.2.2 hal;have:=hin _ hm;have hal:b0.sd.al=true:=hal;rw[hal]at hp;simp at hp;exact⟨m,by simpa [zH,hp] using this⟩
  have en:∀b∈(oM (λb=>(b.sd.o==e)&&b.sd.al) (.passed h') c).bs,b.en.length<=2 * (n+1):=λb hb=>by
   obtain⟨b0,hb0,rfl⟩:=arY.mp hb;have:=I.en b0 hb0
   dsimp only
   split
   ·simp[qb];omega
   ·omega
  refine⟨I.gr.same rfl rfl,by show c.al.length<=_;omega,⟨C0.1,by show c.count<=_;omega⟩,λo ho=>I.own o ((ow o).mp ho).1,I.Qz.filter _,?_,Rr _ _ (by simp),?_,λr hr=>?_,λb hb=>(g b hb).1,λb hb=>(g b hb).2.1,en,λb hb=>(g b hb).2.2⟩
  ·show(c.own.filter _).length<=_
   have:=ar7 (λo=>!(o==e)) c.own;omega
  ·show(handed c e h').length+(oM _ _ c).bs.length<=_
   simp[oM];omega
  ·obtain⟨r0,z1,rfl⟩:=hout r hr;obtain⟨q1,q2,q3⟩:=I.hE r0 z1;refine⟨(ow _).mpr ?_,q2,q3⟩;unfold zH;by_cases z:r0.1=e
   ·simp only[z,if_true];exact⟨h2,λq=>h3 q.symm⟩
   ·simp only[z,if_false];exact⟨q1,z⟩
 |heir e g x=>
  obtain⟨h1,h⟩:=lE h;obtain⟨h2,h⟩:=lO h;obtain⟨h3,h⟩:=Ce h;obtain⟨h4,h⟩:=mF h;split at h
  ·next mk hmk=>
   cases h;obtain⟨r,q4,q5⟩:=I.mk1 h4;have hme:cY mk=true:=Kw q5 ⟨by omega,h3.2⟩ (ash.mp (List.mem_of_find?_eq_some hmk)).1;refine⟨I.gr.same rfl rfl,by show c.al.length<=_;omega,⟨by show 0<=c.count+1;omega,by show c.count+1<=((n+1:Nat):Int);omega⟩,λo ho=>?_,?_,by simp;omega,?_,by simp[cost];omega,λr hr=>?_,I.ear,I.due,up.en,λb hb hal=>?_⟩
   ·show 1<=o/\o<=c.count+1;rcases ar0.mp ho with ho|ho
    ·have:=I.own o ho;omega
    ·rw[arV.mp ho];omega
   ·rw[asO];refine⟨I.Qz,by simp,λa ha b hb e=>?_⟩;rw[arV.mp hb]at e;have:=I.own a ha;omega
   ·rw[asO];refine⟨I.held,by simp,λa ha b hb e=>?_⟩;rw[arV.mp hb]at e;have:=I.own _ (I.hE a ha).1;rw[e]at this;simp at this;omega
   ·rcases ar0.mp hr with hr|hr
    ·obtain⟨z1,z2,z3⟩:=I.hE r hr;exact⟨asy _ z1,z2,z3⟩
    ·rw[arV.mp hr];exact⟨asM _ (by simp),h2,hme⟩
   ·obtain⟨m,hm⟩:=I.rt b hb hal;exact⟨m,asy _ hm⟩
  ·cases h
theorem Zg{n s:Nat}{c c':aK}{d:bG}{r:Dat}(I:Inv n s c)(hn:n<=199)(h:bT c d=.ok r c'):Inv (n+1) (s+cost d) c':=aaO I (asl I.al hn) h
def nB(x:Int):Bool:=decide (0<=x)&&decide (x<=999999999)
def plB(x:Int):Bool:=decide (0<=x)&&decide (x<=5)
theorem m9(M:Mo)(x:Int):iI M [.str "number",.int x]=.ok (.bool (nB x)):=by by_cases h:0<=x<;>simp[iI,vq,oF,iU,yO,Bl,h,nB]
theorem iT(M:Mo)(x:Int):iI M [.str "place",.int x]=.ok (.bool (plB x)):=by by_cases h:0<=x<;>simp[iI,vq,oF,iU,yO,Bl,h,plB]
theorem ae3(M:Mo)(x:List Int)(h:x.length<=1000):iI M [.str "ear",aJ x]=.ok (.bool (cY x)):=by have:=V9 M x h;simp[iI,vq,yO,Bl,this]
def fV:bG->Bool
 |.owner=>true
 |.ground x=>nB x
 |.enrol o g m=>nB o&&nB g&&cY m
 |.leave o g=>nB o&&nB g
 |.bring o g m=>nB o&&nB g&&cY m
 |.bear k=>nB k
 |.cut k=>nB k
 |.tear k p=>nB k&&plB p
 |.sell k o=>nB k&&nB o
 |.move k g=>nB k&&nB g
 |.die k=>nB k
 |.xP x y=>nB x&&nB y
 |.part x=>nB x
 |.pass e h=>nB e&&nB h
 |.heir e g x=>nB e&&nB g&&nB x
def Nk:bG->Prop
 |.enrol _ _ m=>m.length<=1000
 |.bring _ _ m=>m.length<=1000
 |_=>True
theorem iQ(M:Mo)(w:Str)(T:List (Str×Dat×Bool))(hk:(zK yI).lookup w=some (.tuple (T.map λt=>.str t.1)))(hl:T.length<=10)(hp:∀t∈T,iI M [.str t.1,t.2.1]=.ok (.bool t.2.2)):Hh M [.tuple (.str w::T.map λt=>t.2.1)]=.ok (.bool (T.all λt=>t.2.2)):=by
 have hs:Rf.cutD (PyData.str w::T.map λt=>t.2.1) (some 1) none=T.map λt=>t.2.1:=YQ _ 1;have hz:wN (T.map λt=>PyData.str t.1) (T.map λt=>t.2.1)=T.map λt=>.tuple [.str t.1,t.2.1]:=by unfold wN;rw[List.zipWith_map_left,List.zipWith_map_right,List.zipWith_self]
 have key:=eZ (tg:=bH [3,4]) (te:=aV iI (ak (aq 3) (ak (aq 4) au))) (M:=M) (Z:=[some (.dat (.tuple (.str w::T.map λt=>t.2.1))),some (.dat (.tuple (T.map λt=>.str t.1))),some (.dat (.tuple (T.map λt=>t.2.1))),none,none]) (λ(t:Str×Dat×Bool)=>PyData.tuple [.str t.1,t.2.1]) (λt=>.bool t.2.2) T λt ht=>⟨[some (.dat (.tuple (.str w::T.map λt=>t.2.1))),some (.dat (.tuple (T.map λt=>.str t.1))),some (.dat (.tuple (T.map λt=>t.2.1))),some (.dat (.str t.1)),some (.dat t.2.1)],by simp,by simp[hp t ht]⟩;have ha:Qn (.list (T.map λt=>PyData.bool t.2.2))=.ok (.bool (T.all λt=>t.2.2)):=by
  have e:(T.map λt=>PyData.bool t.2.2)=(T.map λt=>t.2.2).map PyData.bool:=by rw[asr];rfl
  rw[e]
  show(match uE _ with
   |some bs=>Out.ok (PyData.bool (bs.all id))
   |none=>.bad)=_
  rw[Em];simp[List.all_map,asi]
 have hl2:T.length<=50000:=by omega
 have hne:¬(T.length:Int)+1=0:=by omega
 simp[Hh,Zd,hk,hs,hz,key,hl2,ha,hne]
theorem ag5(M:Mo)(d:bG)(hd:Nk d):Hh M [d.dat]=.ok (.bool (fV d)):=by
 cases d with
 |owner=>simpa [fV,bG.dat,Bool.and_assoc] using iQ M "owner" [] (by rfl) (by simp) (by simp[m9,iT])
 |ground x=>simpa [fV,bG.dat,Bool.and_assoc] using iQ M "ground" [("number",.int x,nB x)] (by rfl) (by simp) (by simp[m9,iT])
 |enrol o g m=>simpa [fV,bG.dat,Bool.and_assoc] using iQ M "enrol" [("number",.int o,nB o),("number",.int g,nB g),("ear",aJ m,cY m)] (by rfl) (by simp) (by simp[m9,iT,ae3 M m hd])
 |leave o g=>simpa [fV,bG.dat,Bool.and_assoc] using iQ M "leave" [("number",.int o,nB o),("number",.int g,nB g)] (by rfl) (by simp) (by simp[m9,iT])
 |bring o g m=>simpa [fV,bG.dat,Bool.and_assoc] using iQ M "bring" [("number",.int o,nB o),("number",.int g,nB g),("ear",aJ m,cY m)] (by rfl) (by simp) (by simp[m9,iT,ae3 M m hd])
 |bear k=>simpa [fV,bG.dat,Bool.and_assoc] using iQ M "bear" [("number",.int k,nB k)] (by rfl) (by simp) (by simp[m9,iT])
 |cut k=>simpa [fV,bG.dat,Bool.and_assoc] using iQ M "cut" [("number",.int k,nB k)] (by rfl) (by simp) (by simp[m9,iT])
 |tear k p=>simpa [fV,bG.dat,Bool.and_assoc] using iQ M "tear" [("number",.int k,nB k),("place",.int p,plB p)] (by rfl) (by simp) (by simp[m9,iT])
 |sell k o=>simpa [fV,bG.dat,Bool.and_assoc] using iQ M "sell" [("number",.int k,nB k),("number",.int o,nB o)] (by rfl) (by simp) (by simp[m9,iT])
 |move k g=>simpa [fV,bG.dat,Bool.and_assoc] using iQ M "move" [("number",.int k,nB k),("number",.int g,nB g)] (by rfl) (by simp) (by simp[m9,iT])
 |die k=>simpa [fV,bG.dat,Bool.and_assoc] using iQ M "die" [("number",.int k,nB k)] (by rfl) (by simp) (by simp[m9,iT])
 |xP x y=>simpa [fV,bG.dat,Bool.and_assoc] using iQ M "unite" [("number",.int x,nB x),("number",.int y,nB y)] (by rfl) (by simp) (by simp[m9,iT])
 |part x=>simpa [fV,bG.dat,Bool.and_assoc] using iQ M "part" [("number",.int x,nB x)] (by rfl) (by simp) (by simp[m9,iT])
 |pass e h=>simpa [fV,bG.dat,Bool.and_assoc] using iQ M "pass" [("number",.int e,nB e),("number",.int h,nB h)] (by rfl) (by simp) (by simp[m9,iT])
 |heir e g x=>simpa [fV,bG.dat,Bool.and_assoc] using iQ M "heir" [("number",.int e,nB e),("number",.int g,nB g),("number",.int x,nB x)] (by rfl) (by simp) (by simp[m9,iT])
theorem jT{M:Mo}{L:Lay}{o o':bx Dat}{r:Res}(h:Sp M L o r)(e:o'=o):Sp M L o' r:=e ▸ h
section
variable{M:Mo}{L:Lay}{c:aK}(a:At M L c){n s:Nat}(I:Inv n s c)(hs:s<=76)(hn:n<=199)
include a I hs hn
theorem amf(d:bG)(hd:Nk d)(hf:fV d=true):Sp M L (cP M [ob L.c,d.dat]) (bT c d):=by
 have hc:=a.hc;have h0:=ag5 M d hd;rw[hf]at h0;cases d with
 |owner=>
  simp only[bG.dat]at h0 ⊢;refine jT (ahx a I hn) ?_;simp[cP,cU,h0,hc,aO,gR];cases iD M _<;>rfl
 |ground x=>
  simp only[bG.dat]at h0 ⊢;refine jT (afy a I hn x) ?_;simp[cP,cU,h0,hc,aO,pK];cases gM M _<;>rfl
 |enrol o g m=>
  simp only[bG.dat]at h0 ⊢;refine jT (aiF a I hs o g m hd) ?_;simp[cP,cU,h0,hc,aO,vX];cases dR M _<;>rfl
 |leave o g=>
  simp only[bG.dat]at h0 ⊢;refine jT (aiK a I hs o g) ?_;simp[cP,cU,h0,hc,aO,vW];cases fX M _<;>rfl
 |bring o g m=>
  simp only[bG.dat]at h0 ⊢;refine jT (ahY a I hs o g m hd) ?_;simp[cP,cU,h0,hc,aO,v7];cases fY M _<;>rfl
 |bear k=>
  simp only[bG.dat]at h0 ⊢;refine jT (ajm a I hs k) ?_;simp[cP,cU,h0,hc,aO,xR];cases iY M _<;>rfl
 |cut k=>
  simp only[bG.dat]at h0 ⊢;refine jT (amn a I hs (by omega) k) ?_;simp[cP,cU,h0,hc,aO,yZ];cases jH M _<;>rfl
 |tear k p=>
  simp only[bG.dat]at h0 ⊢;refine jT (ajO a I hs k p (by omega)) ?_;simp[cP,cU,h0,hc,aO,xQ];cases fL M _<;>rfl
 |sell k o=>
  simp only[bG.dat]at h0 ⊢;refine jT (alm a I hs (by omega) k o) ?_;simp[cP,cU,h0,hc,aO,yt];cases dJ M _<;>rfl
 |move k g=>
  simp only[bG.dat]at h0 ⊢;refine jT (ak2 a I hs (by omega) k g) ?_;simp[cP,cU,h0,hc,aO,yu];cases dI M _<;>rfl
 |die k=>
  simp only[bG.dat]at h0 ⊢;refine jT (amE a I hs k (by omega)) ?_;simp[cP,cU,h0,hc,aO,yQ];cases lG M _<;>rfl
 |xP x y=>
  simp only[bG.dat]at h0 ⊢;refine jT (aib a I hs (by omega) x y) ?_;simp[cP,cU,h0,hc,aO,v8];cases gj M _<;>rfl
 |part x=>
  simp only[bG.dat]at h0 ⊢;refine jT (alJ a I hs (by omega) x) ?_;simp[cP,cU,h0,hc,aO,xY];cases jU M _<;>rfl
 |pass e h=>
  simp only[bG.dat]at h0 ⊢;refine jT (ajo a I hs (by omega) e h) ?_;simp[cP,cU,h0,hc,aO,tH];cases fQ M _<;>rfl
 |heir e g x=>
  simp only[bG.dat]at h0 ⊢;refine jT (adK a I hs (by omega) e g x) ?_;simp[cP,cU,h0,hc,aO,fU];cases cV M _<;>rfl
end
theorem agk{c:aK}{d:bG}{x:dG}(h:bT c d=.no x):uF.lookup x.cls=some true:=by cases d<;>simp only[bT,oW,uo,Jp,jL,wu,wg,markB,Hw]at h<;>(repeat' split at h)<;>cases h<;>simp[uF]
def ab9:bG->Nat
 |.owner=>1
 |.heir ..=>1
 |_=>0
def dGr:bG->Nat
 |.ground _=>1
 |_=>0
def dBs:bG->Nat
 |.bring ..=>1
 |.bear _=>1
 |_=>0
theorem aaT{c c':aK}{d:bG}{r:Dat}(h:bT c d=.ok r c'):c'.count=c.count+(ab9 d:Int)/\c'.al.length=c.al.length+dGr d/\c'.bs.length=c.bs.length+dBs d/\(j9 .none r=true->ab9 d=0/\dGr d=0/\dBs d=0):=by cases d<;>simp only[bT,oW,uo,Jp,jL,wu,wg,markB]at h<;>(repeat' split at h)<;>cases h<;>simp[ab9,dGr,dBs,j9,gq,wL,oM,lI]
def qF(c:aK)(d:bG):aK:=match bT c d with
 |.ok _ c'=>c'
 |.no _=>c
def jV(c:aK):Dat:=.tuple [.int c.count,.int c.al.length,.int c.bs.length]
section
variable{M:Mo}{L:Lay}{c:aK}(a:At M L c){n s:Nat}(I:Inv n s c)(hs:s<=76)(hn:n<=199)
include I hn
omit hn in
theorem Y6(d:bG)(hn:n<=199):Inv (n+1) (s+cost d) (qF c d):=by
 unfold qF;cases h:bT c d with
 |ok r c'=>exact Zg I hn h
 |no x=>
  have h1:=I.hL;have h2:=I.al;exact I.of (by omega) I.gr (by show c.al.length<=_;omega) rfl rfl I.held (by show c.held.length+c.bs.length<=_;omega) I.hE ⟨I.V6.g,λb hb=>by have:=I.en b hb;omega⟩
include a hs
theorem aiu(d:bG)(hd:Nk d)(hf:fV d=true):∃M' bs,qW M [ob L.c,d.dat,jV c]=.ok (jV (qF c d)) M'/\At M' { L with bs:=bs } (qF c d):=by
 have hc:=a.hc;have h0:=amf a I hs hn d hd hf;unfold qF;cases e:bT c d with
 |no x=>
  rw[e]at h0;have h0:_=_:=h0;have h1:=agk e;exact⟨M,L.bs,by simp[qW,Lj,hc,aO,qZ,h0,h1,j9],a⟩
 |ok r c'=>
  rw[e]at h0;obtain⟨M',bs,h0,h2⟩:=h0;obtain⟨q1,q2,q3,q4⟩:=aaT e;refine⟨M',bs,?_,h2⟩;have e1:(c'.al.length:Int)=c.al.length+(dGr d:Int):=by omega
  have e2:(c'.bs.length:Int)=c.bs.length+(dBs d:Int):=by omega
  cases hr:j9 .none r with
  |true=>
   obtain⟨z1,z2,z3⟩:=q4 hr;simp[z1,z2,z3]at q1 e1 e2;simp[qW,Lj,hc,aO,qZ,h0,hr,jV,q1,e1,e2]
  |false=>
   clear q4 q2 q3 e hf hd;cases d<;>simp[ab9,dGr,dBs]at q1 e1 e2<;>simp[qW,Lj,hc,aO,qZ,h0,hr,jV,q1,e1,e2]<;>simp[bG.dat]
end
def Nf(f:Int):Int:=if f=9 then -1 else if f=8 then 3 else if f=7 then 2 else if f=6 then 1 else if f=5 then 1 else 0
def M6(d f:Int):Int:=PB 0 (if d+Nf f < 9 then d+Nf f else 9)
def Ru(x f:List Int):List Int:=(x.zip f).map λp=>M6 p.1 p.2
theorem aeE(M:Mo)(x0 x1:Option Cell)(acc:List Dat)(d f:Int)(x5:Option Cell)(hf:0<=f/\f < 10)(hl:acc.length < 1000):∃x5',O7 M [x0,x1,some (.mut acc),some (.dat (.int d)),some (.dat (.int f)),x5]=.next [x0,x1,some (.mut (acc++[.int (M6 d f)])),some (.dat (.int d)),some (.dat (.int f)),x5'] M:=by
 have hl2:acc.length < 100000:=by omega
 have key:∀k:Nat,k < 10->([0,0,0,0,0,1,1,2,3,-1]:List Int)[k]?=some (Nf k):=by decide
 obtain⟨k,rfl⟩:∃k:Nat,f=k:=⟨f.toNat,by omega⟩;have hk:=key k (by omega);have h2:atI (([0,0,0,0,0,1,1,2,3,-1]:List Int).map PyData.int) (k:Int)=some (.int (Nf k)):=atI_nat (by rw[ar5,hk];rfl);refine⟨some (.dat (.int (Nf k))),?_⟩;have h3:aZ (aF 5) (gOf (aA aP (bB (ak (qC (.int 0)) (ak (qC (.int 0)) (ak (qC (.int 0)) (ak (qC (.int 0)) (ak (qC (.int 0)) (ak (qC (.int 1)) (ak (qC (.int 1)) (ak (qC (.int 2)) (ak (qC (.int 3)) (ak (eV Qx (qC (.int 1))) au))))))))))) (ao 4))) M [x0,x1,some (.mut acc),some (.dat (.int d)),some (.dat (.int k)),x5]=.next [x0,x1,some (.mut acc),some (.dat (.int d)),some (.dat (.int k)),some (.dat (.int (Nf k)))] M:=by
  show(((match atI (([0,0,0,0,0,1,1,2,3,-1]:List Int).map PyData.int) (k:Int) with
   |some d=>Out.ok d
   |none=>.bad).at M).then _ λd M'=>_)=_
  rw[h2];rfl
 show aD _ _ _ _=_;rw[akA,h3];simp[hl2,M6,PB]
theorem VD(M:Mo)(x0 x1:Option Cell):∀(ps:List (Int×Int)) (acc:List Dat) (x3 x4 x5:Option Cell),(∀p∈ps,0<=p.2/\p.2 < 10)->acc.length+ps.length<=500->∃x3' x4' x5',eO (bH [3,4]) O7 (ps.map pD) M [x0,x1,some (.mut acc),x3,x4,x5]=.next [x0,x1,some (.mut (acc++ps.map λp=>.int (M6 p.1 p.2))),x3',x4',x5'] M
 |[],acc,x3,x4,x5,_,_=>⟨x3,x4,x5,by simp[eO]⟩
 |p::ps,acc,x3,x4,x5,h,hl=>by
  rw[ar6]at hl;obtain⟨x5',e⟩:=aeE M x0 x1 acc p.1 p.2 x5 (h p arU) (by omega);obtain⟨y3,y4,y5,ih⟩:=VD M x0 x1 ps (acc++[.int (M6 p.1 p.2)]) (some (.dat (.int p.1))) (some (.dat (.int p.2))) x5' (λq hq=>h q (arS _ hq)) (by simp;omega);refine⟨y3,y4,y5,?_⟩;rw[arT,gW (Z1:=[x0,x1,some (.mut acc),some (.dat (.int p.1)),some (.dat (.int p.2)),x5]) (by simp[pD]) e,ih];simp
theorem ahK(M:Mo)(x f:List Int)(hx:x.length<=100)(hf:∀d∈f,0<=d/\d < 10):MJ M [aJ x,lI f]=.ok (aJ (Ru x f)):=by obtain⟨y3,y4,y5,e⟩:=VD M (some (.dat (aJ x))) (some (.dat (lI f))) (x.zip f) [] none none none (λp hp=>hf _ (List.of_mem_zip hp).2) (by simp;omega);simp[MJ,aad,Di,e,Ru]
def Ho(f:List Int)(m:Int)(x:List Int):List Int:=if m < 4 then Ru x f else zL f m
theorem acr(M:Mo)(x f:List Int)(m:Int)(hx:x.length<=100)(hl:f.length<=1000)(hf:∀d∈f,0<=d/\d < 10):wA M [lI f,.int m,aJ x]=.ok (aJ (Ho f m x)):=by have h1:=ahK M x f hx hf;have h2:=Wg M f m hl;unfold Ho;by_cases h:m < 4<;>simp[wA,LC,h,h1,h2]
theorem abA{x:List Int}(h:x.length=6)(h2:∀d∈x,0<=d/\d < 10):cY x=true:=by unfold cY;simp only[arP,ato,asj];refine⟨h,λd hd=>?_⟩;have:=h2 d hd;omega
theorem aeX{x f:List Int}(hx:x.length=6)(hf:f.length=6):cY (Ru x f)=true:=by
 refine abA (by simp[Ru];omega) λd hd=>?_;obtain⟨p,hp,rfl⟩:=arY.mp hd;unfold M6 PB
 split<;>split<;>omega
theorem acM{f x:List Int}{m:Int}(hx:x.length=6)(hl:f.length=6)(hf:∀d∈f,0<=d/\d < 10):cY (Ho f m x)=true:=by
 unfold Ho;split
 ·exact aeX hx hl
 ·refine abA ?_ (agd hf);unfold zL;split
  ·simpa using hl
  ·split
   ·simpa using hl
   ·exact hl
def kZ(f many:Int)(sure:Bool):Int:=if sure then 1+f % (if many > 1 then many else 1) else f % (many+2)
theorem Yq(M:Mo)(f many:Int)(sure:Bool)(hm:0<=many):jJ M [.int f,.int many,.bool sure]=.ok (.int (kZ f many sure)):=by
 have h2:0 < many+2:=by omega
 have h3:0 < (if 1 < many then many else 1):=by split<;>omega
 cases sure
 ·simp[jJ,XM,kZ,h2]
 ·simp[jJ,XM,kZ,h3]
theorem Cv{f many:Int}{sure:Bool}(hf:0<=f/\f<=1000)(hm:0<=many):nB (kZ f many sure)=true:=by
 unfold kZ nB;have key:∀m:Int,0 < m->0<=f % m/\f % m<=f:=λm h=>⟨Int.emod_nonneg _ (by omega),by
  have h1:=Int.mul_ediv_add_emod f m;have h2:=Int.mul_nonneg (by omega:0<=m) (Int.ediv_nonneg hf.1 (by omega:0<=m))
  omega⟩
 simp only[arP,ato];cases sure
 ·have:=key (many+2) (by omega);simp;omega
 ·have:=key (if many > 1 then many else 1) (by split<;>omega);simp only[if_true];omega
abbrev dd(M:Mo)(w:Str)(one two:Int)(p base:List Int)(n0 n1 n2:Int):Out Dat:=fG M [.str w,.int one,.int two,lI p,.tuple [.int n0,.int n1,.int n2],aJ base]
def dZ(p:List Int):Bool:=!(p.getD 6 0==9)
def Jx(p base:List Int):List Int:=Ho (p.drop 8) (p.getD 7 0) base
def grT(f:Int):Int:=if f=9 then 8 else if f=8 then 7 else if f=7 then 6 else if f=6 then 5 else if f=5 then 1 else if f=4 then 0 else f
def Gz(p base:List Int):List Int:=if p.getD 7 0 < 6 then[0,0,0,0,0,0] else Jx p base
structure Pts(p base:List Int):Prop where
 len:p.length=14
 dig:∀d∈p,0<=d/\d < 10
 base:base.length=6
theorem amo{p:List Int}(h:p.length=14):∃a b c d e f g i j k l m n o:Int,p=[a,b,c,d,e,f,g,i,j,k,l,m,n,o]:=by
 match p,h with
 |[a,b,c,d,e,f,g,i,j,k,l,m,n,o],_=>exact⟨a,b,c,d,e,f,g,i,j,k,l,m,n,o,rfl⟩
theorem Pts.mark{p base:List Int}(P:Pts p base):cY (Jx p base)=true:=acM P.base (by rw[ati,P.len]) λd hd=>P.dig d (List.mem_of_mem_drop hd)
theorem Pts.bring{p base:List Int}(P:Pts p base):cY (Gz p base)=true:=by
 unfold Gz;split
 ·decide
 ·exact P.mark
section
variable(M:Mo){p base:List Int}(P:Pts p base)(one two n0 n1 n2:Int)(h0:0<=n0)(h1:0<=n1)(h2:0<=n2)
include P h0 h1 h2
theorem aan :
  dd M "owner" one two p base n0 n1 n2=.ok (bG.dat (.owner))/\
  dd M "ground" one two p base n0 n1 n2=.ok (bG.dat (.ground (grT (p.getD 7 0)+4 * (if dZ p then 0 else 1))))/\
  dd M "enrol" one two p base n0 n1 n2=.ok (bG.dat (.enrol (kZ one n0 (dZ p)) (kZ two n1 (dZ p)) (Jx p base)))/\
  dd M "bring" one two p base n0 n1 n2=.ok (bG.dat (.bring (kZ one n0 (dZ p)) (kZ two n1 (dZ p)) (Gz p base)))/\
  dd M "leave" one two p base n0 n1 n2=.ok (bG.dat (.leave (kZ one n0 (dZ p)) (kZ two n1 (dZ p))))/\
  dd M "heir" one two p base n0 n1 n2=.ok (bG.dat (.heir (kZ one n0 (dZ p)) (kZ two n1 (dZ p)) (p.getD 7 0 % 4)))/\
  dd M "pass" one two p base n0 n1 n2=.ok (bG.dat (.pass (kZ one n0 (dZ p)) (kZ two n0 (dZ p))))/\
  dd M "unite" one two p base n0 n1 n2=.ok (bG.dat (.xP (kZ one n1 (dZ p)) (kZ two n1 (dZ p))))/\
  dd M "part" one two p base n0 n1 n2=.ok (bG.dat (.part (kZ one n1 (dZ p))))/\
  dd M "tear" one two p base n0 n1 n2=.ok (bG.dat (.tear (kZ one n2 (dZ p)) (p.getD 7 0 % 6)))/\
  dd M "sell" one two p base n0 n1 n2=.ok (bG.dat (.sell (kZ one n2 (dZ p)) (kZ two n0 (dZ p))))/\
  dd M "move" one two p base n0 n1 n2=.ok (bG.dat (.move (kZ one n2 (dZ p)) (kZ two n1 (dZ p))))/\
  dd M "bear" one two p base n0 n1 n2=.ok (bG.dat (.bear (kZ one n2 (dZ p))))/\
  dd M "cut" one two p base n0 n1 n2=.ok (bG.dat (.cut (kZ one n2 (dZ p))))/\
  dd M "die" one two p base n0 n1 n2=.ok (bG.dat (.die (kZ one n2 (dZ p)))):=by
 have hm:=acr M base (p.drop 8) (p.getD 7 0) (by rw[P.base];decide) (by rw[ati,P.len];decide) λd hd=>P.dig d (List.mem_of_mem_drop hd);have hr0:=λf=>Yq M f n0 (dZ p) h0;have hr1:=λf=>Yq M f n1 (dZ p) h1;have hr2:=λf=>Yq M f n2 (dZ p) h2;have hd:=P.dig;have hbr:Gz p base=if p.getD 7 0 < 6 then[0,0,0,0,0,0] else Jx p base:=rfl
 have hmp:Jx p base=Ho (p.drop 8) (p.getD 7 0) base:=rfl;have hsb:dZ p=!(p.getD 6 0==9):=rfl;obtain⟨x0,x1,x2,x3,x4,x5,x6,x7,x8,x9,x10,x11,x12,x13,rfl⟩:=amo P.len;generalize hp:[x0,x1,x2,x3,x4,x5,x6,x7,x8,x9,x10,x11,x12,x13]=p at *;have h6:p.getD 6 0=x6:=by rw[←hp];rfl
 have h7:p.getD 7 0=x7:=by rw[←hp];rfl
 have h8:p.drop 8=[x8,x9,x10,x11,x12,x13]:=by rw[←hp];rfl
 have hx7:=hd x7 (by rw[←hp];simp);rw[h7,h8]at hm hmp;rw[h7]at hbr;rw[h6]at hsb;simp only[h7];generalize dZ p=su at *;generalize Jx p base=mk at *;generalize Gz p base=br at *;have c1:Rf.cutD (p.map PyData.int) (some 8) (some 14)=[PyData.int x8,.int x9,.int x10,.int x11,.int x12,.int x13]:=by rw[←hp];rfl
 have c2:atI (p.map PyData.int) 7=some (.int x7):=by rw[←hp];rfl
 have c3:atI (p.map PyData.int) 6=some (.int x6):=by rw[←hp];rfl
 have hm:wA M [.list [PyData.int x8,.int x9,.int x10,.int x11,.int x12,.int x13],.int x7,aJ base]=.ok (aJ mk):=by rw[hmp];exact hm
 have key:∀k:Nat,k < 10->([0,1,2,3,0,1,5,6,7,8]:List Int)[k]?=some (grT k):=by decide
 have hk:atI (([0,1,2,3,0,1,5,6,7,8]:List Int).map PyData.int) x7=some (.int (grT x7)):=by obtain⟨k,rfl⟩:∃k:Nat,x7=k:=⟨x7.toNat,by omega⟩;exact atI_nat (by rw[ar5,key k (by omega)];rfl)
 simp at hk;have hm4:∀z,decide (CMul 4 z)=true:=λz=>agz (by decide);clear hp hd P;refine⟨?_,?_,?_,?_,?_,?_,?_,?_,?_,?_,?_,?_,?_,?_,?_⟩
 ·simp[dd,fG,jN,c1,c2,c3,hm,←hsb,hr0,hr1,hr2,bG.dat]
 ·cases su<;>simp[dd,fG,jN,c1,c2,c3,hm,←hsb,hk,hm4,Rf.intD,bG.dat]
 ·simp[dd,fG,jN,c1,c2,c3,hm,←hsb,hr0,hr1,hr2,bG.dat]
 ·by_cases h76:x7 < 6
  ·rw[if_pos h76]at hbr;simp[dd,fG,jN,c1,c2,c3,hm,←hsb,hr0,hr1,hr2,bG.dat,h76,hbr]
  ·rw[if_neg h76]at hbr;simp[dd,fG,jN,c1,c2,c3,hm,←hsb,hr0,hr1,hr2,bG.dat,h76,hbr]
 ·simp[dd,fG,jN,c1,c2,c3,hm,←hsb,hr0,hr1,hr2,bG.dat]
 ·simp[dd,fG,jN,c1,c2,c3,hm,←hsb,hr0,hr1,hr2,bG.dat]
 ·simp[dd,fG,jN,c1,c2,c3,hm,←hsb,hr0,hr1,hr2,bG.dat]
 ·simp[dd,fG,jN,c1,c2,c3,hm,←hsb,hr0,hr1,hr2,bG.dat]
 ·simp[dd,fG,jN,c1,c2,c3,hm,←hsb,hr0,hr1,hr2,bG.dat]
 ·simp[dd,fG,jN,c1,c2,c3,hm,←hsb,hr0,hr1,hr2,bG.dat]
 ·simp[dd,fG,jN,c1,c2,c3,hm,←hsb,hr0,hr1,hr2,bG.dat]
 ·simp[dd,fG,jN,c1,c2,c3,hm,←hsb,hr0,hr1,hr2,bG.dat]
 ·simp[dd,fG,jN,c1,c2,c3,hm,←hsb,hr0,hr1,hr2,bG.dat]
 ·simp[dd,fG,jN,c1,c2,c3,hm,←hsb,hr0,hr1,hr2,bG.dat]
 ·simp[dd,fG,jN,c1,c2,c3,hm,←hsb,hr0,hr1,hr2,bG.dat]
theorem Ze{w:Str}(hw:w∈(["owner","ground","enrol","bring","leave","heir","pass","unite","part","tear","sell","move","bear","cut","die"]:List Str))(ho:0<=one/\one<=1000)(ht:0<=two/\two<=1000):∃d:bG,fG M [.str w,.int one,.int two,lI p,.tuple [.int n0,.int n1,.int n2],aJ base]=.ok d.dat/\fV d=true/\Nk d:=by
 have r10:=Cv (f:=one) (sure:=dZ p) ho h0;have r11:=Cv (f:=one) (sure:=dZ p) ho h1;have r12:=Cv (f:=one) (sure:=dZ p) ho h2;have r20:=Cv (f:=two) (sure:=dZ p) ht h0;have r21:=Cv (f:=two) (sure:=dZ p) ht h1;have r22:=Cv (f:=two) (sure:=dZ p) ht h2;have m1:=P.mark;have m2:=P.bring;have l1:(Jx p base).length<=1000:=by rw[gD m1];decide
 have l2:(Gz p base).length<=1000:=by rw[gD m2];decide
 have h7:0<=p.getD 7 0/\p.getD 7 0 < 10:=P.dig _ (by
  have:=P.len;rw[List.getD_eq_getElem?_getD,arR (by omega)];exact asH _)
 have q4:nB (p.getD 7 0 % 4)=true:=by unfold nB;simp only[arP,ato];omega
 have q6:plB (p.getD 7 0 % 6)=true:=by unfold plB;simp only[arP,ato];omega
 have qg:nB (grT (p.getD 7 0)+4 * (if dZ p then 0 else 1))=true:=by
  unfold nB grT;simp only[arP,ato]
  split<;>(repeat' split)<;>omega
 simp only[ar4,asz,or_false]at hw;obtain⟨d0,d1,d2,d3,d4,d5,d6,d7,d8,d9,d10,d11,d12,d13,d14⟩:=aan M P one two n0 n1 n2 h0 h1 h2;rcases hw with rfl|rfl|rfl|rfl|rfl|rfl|rfl|rfl|rfl|rfl|rfl|rfl|rfl|rfl|rfl
 ·exact⟨_,d0,by simp[fV,r10,r11,r12,r20,r21,r22,m1,m2,q4,q6,-List.getD_eq_getElem?_getD],by first | trivial | assumption⟩
 ·exact⟨_,d1,qg,by first | trivial | assumption⟩
 ·exact⟨_,d2,by simp[fV,r10,r11,r12,r20,r21,r22,m1,m2,q4,q6,-List.getD_eq_getElem?_getD],by first | trivial | assumption⟩
 ·exact⟨_,d3,by simp[fV,r10,r11,r12,r20,r21,r22,m1,m2,q4,q6,-List.getD_eq_getElem?_getD],by first | trivial | assumption⟩
 ·exact⟨_,d4,by simp[fV,r10,r11,r12,r20,r21,r22,m1,m2,q4,q6,-List.getD_eq_getElem?_getD],by first | trivial | assumption⟩
 ·exact⟨_,d5,by simp[fV,r10,r11,r12,r20,r21,r22,m1,m2,q4,q6,-List.getD_eq_getElem?_getD],by first | trivial | assumption⟩
 ·exact⟨_,d6,by simp[fV,r10,r11,r12,r20,r21,r22,m1,m2,q4,q6,-List.getD_eq_getElem?_getD],by first | trivial | assumption⟩
 ·exact⟨_,d7,by simp[fV,r10,r11,r12,r20,r21,r22,m1,m2,q4,q6,-List.getD_eq_getElem?_getD],by first | trivial | assumption⟩
 ·exact⟨_,d8,by simp[fV,r10,r11,r12,r20,r21,r22,m1,m2,q4,q6,-List.getD_eq_getElem?_getD],by first | trivial | assumption⟩
 ·exact⟨_,d9,by simp[fV,r10,r11,r12,r20,r21,r22,m1,m2,q4,q6,-List.getD_eq_getElem?_getD],by first | trivial | assumption⟩
 ·exact⟨_,d10,by simp[fV,r10,r11,r12,r20,r21,r22,m1,m2,q4,q6,-List.getD_eq_getElem?_getD],by first | trivial | assumption⟩
 ·exact⟨_,d11,by simp[fV,r10,r11,r12,r20,r21,r22,m1,m2,q4,q6,-List.getD_eq_getElem?_getD],by first | trivial | assumption⟩
 ·exact⟨_,d12,by simp[fV,r10,r11,r12,r20,r21,r22,m1,m2,q4,q6,-List.getD_eq_getElem?_getD],by first | trivial | assumption⟩
 ·exact⟨_,d13,by simp[fV,r10,r11,r12,r20,r21,r22,m1,m2,q4,q6,-List.getD_eq_getElem?_getD],by first | trivial | assumption⟩
 ·exact⟨_,d14,by simp[fV,r10,r11,r12,r20,r21,r22,m1,m2,q4,q6,-List.getD_eq_getElem?_getD],by first | trivial | assumption⟩
end
abbrev words:List Str:=["owner","ground","enrol","bring","leave","heir","pass","unite","part","tear","sell","move","bear","cut","die"]
def VR:List Str:=["tear","cut","bring","sell","move","enrol","bear","tear","cut","sell","move","unite","part","heir","pass","die","leave","ground","owner","enrol","tear","sell","bring","bear","cut"]
theorem aif(M:Mo)(f:Int):∃w∈words,Aq M [.int f]=.ok (.str w):=by
 have h1:0<=f % 25/\f % 25 < 25:=by omega
 obtain⟨k,hk⟩:∃k:Nat,f % 25=k:=⟨(f % 25).toNat,by omega⟩;have hl:k < VR.length:=by show k < 25;omega
 have h2:atI (VR.map PyData.str) (k:Int)=some (.str VR[k]):=atI_nat (by rw[ar5,arR hl];rfl);have h3:∀w∈VR,w∈words:=by simp[VR]
 refine⟨VR[k],h3 _ (asH hl),?_⟩;generalize VR[k]=z at h2;simp[VR]at h2;simp[Aq,MK,hk,h2]
def xq(h:Int):List (Str×Int×Int):=if h % 8=7 then[] else[("ground",0,0),("owner",0,0),("owner",0,0),("enrol",0,0),("enrol",1,0),("bring",0,0),("cut",0,0),("bring",1,0),("cut",1,0),("ground",0,0),("enrol",0,1)]
def Jc(r:Str×Int×Int):Dat:=.tuple [.str r.1,.int r.2.1,.int r.2.2]
theorem adQ(M:Mo)(h:Int):vo M [.int h]=.ok (.list ((xq h).map Jc)):=by unfold xq;by_cases e:h % 8=7<;>simp[vo,Fj,e,Jc]
theorem ahL{h:Int}:∀r∈xq h,r.1∈words/\(0<=r.2.1/\r.2.1<=1000)/\0<=r.2.2/\r.2.2<=1000:=by
 unfold xq;split
 ·simp
 ·simp
inductive JX:Nat->aK->Prop where
 |nil:JX 0 ⟨0,[],[],[],[],[]⟩
 |step {n:Nat} {c:aK} (d:bG):JX n c->fV d=true->JX (n+1) (qF c d)
 |le {n m:Nat} {c:aK}:JX n c->n<=m->JX m c
theorem Inv.mono{n s n' s':Nat}{c:aK}(I:Inv n s c)(h1:n<=n')(h2:s<=s'):Inv n' s' c:=
 I.of h1 I.gr (asl I.al h1) rfl rfl I.held (asl I.hL h2) I.hE ⟨I.V6.g,λb hb=>by have:=I.en b hb;omega⟩
theorem abG(d:bG):cost d<=1:=by cases d<;>simp[cost]
theorem alj:Inv 0 0 ⟨0,[],[],[],[],[]⟩:=⟨⟨rfl,by simp,by simp,by simp,by simp,by simp,by simp⟩,by simp,by simp,by simp,by simp,by simp,by simp,by simp,by simp,by simp,by simp,by simp,by simp⟩
structure Now(M:Mo)(L:Lay)(n s:Nat)(c:aK):Prop where
 at_:At M L c
 inv:Inv n s c
 rch:JX n c
theorem Now.done{M:Mo}{L:Lay}{n s:Nat}{c:aK}(N:Now M L n s c)(hs:s<=76)(hn:n<=199)(d:bG)(hd:Nk d)(hf:fV d=true):∃M' bs,qW M [ob L.c,d.dat,jV c]=.ok (jV (qF c d)) M'/\Now M' { L with bs:=bs } (n+1) (s+cost d) (qF c d):=by obtain⟨M',bs,h1,h2⟩:=aiu N.at_ N.inv hs hn d hd hf;exact⟨M',bs,h1,h2,Y6 N.inv d hn,.step d N.rch hf⟩
theorem abf(x:Int){base:List Int}(h:base.length=6):Pts (rowOf x 14 10) base:=⟨abU ..,aeF (by decide) _ _,h⟩
theorem u6(x:Int)(k:Nat)(h:k < 14):atI ((rowOf x 14 10).map PyData.int) (k:Int)=some (.int ((rowOf x 14 10).getD k 0))/\0<=(rowOf x 14 10).getD k 0/\(rowOf x 14 10).getD k 0<=9:=by
 have hl:k < (rowOf x 14 10).length:=by rw[abU];exact h
 refine⟨Z0 _ k hl,?_⟩;rw[List.getD_eq_getElem?_getD,arR hl];have:=aeF (by decide) x 14 _ (asH hl);simp;omega
theorem aeg{M:Mo}{L:Lay}{n s:Nat}{c:aK}(N:Now M L n s c)(hs:s<=76)(hn:n<=199)(x1:Option Cell)(head:Int)(base:List Int)(hb:base.length=6)(i:Nat)(x:Int)(x8 x9 x10 x11 x12:Option Cell) :
  ∃d M' bs y8 y9 y10 y11,fV d=true/\Dz M [some (.dat (ob L.c)),x1,some (.dat (.int head)),some (.dat (jV c)),some (.dat (aJ base)),some (.dat (.list ((xq head).map Jc))),some (.dat (.int i)),some (.dat (.int x)),x8,x9,x10,x11,x12]=.next [some (.dat (ob L.c)),x1,some (.dat (.int head)),some (.dat (jV (qF c d))),some (.dat (aJ base)),some (.dat (.list ((xq head).map Jc))),some (.dat (.int i)),some (.dat (.int x)),y8,y9,y10,y11,x12] M'/\Now M' { L with bs:=bs } (n+1) (s+cost d) (qF c d):=by
 have h1:vD M [.int x,.int 14,.int 10]=.ok (lI (rowOf x 14 10)):=ZJ M x 14 10 (by decide) (by decide) (by decide);have P:=abf x hb;obtain⟨r0,q0,q0'⟩:=u6 x 0 (by decide);obtain⟨r1,q1,q1'⟩:=u6 x 1 (by decide);obtain⟨r2,q2,q2'⟩:=u6 x 2 (by decide);obtain⟨r3,q3,q3'⟩:=u6 x 3 (by decide);obtain⟨r4,q4,q4'⟩:=u6 x 4 (by decide);obtain⟨r5,q5,q5'⟩:=u6 x 5 (by decide);generalize rowOf x 14 10=p at *;generalize p.getD 0 0=d0 at *;generalize p.getD 1 0=d1 at *;generalize p.getD 2 0=d2 at *;generalize p.getD 3 0=d3 at *;generalize p.getD 4 0=d4 at *;generalize p.getD 5 0=d5 at *;obtain⟨w,hw,h2⟩:=aif M (d0 * 10+d1);have hm:∀z,decide (CMul z 10)=true:=λz=>mul_r (by decide);have c0:=N.inv.cnt.1;simp only[Int.natCast_zero,Int.natCast_one,show((2:Nat):Int)=2 from rfl,show((3:Nat):Int)=3 from rfl,show((4:Nat):Int)=4 from rfl,show((5:Nat):Int)=5 from rfl]at r0 r1 r2 r3 r4 r5;by_cases hi:i < (xq head).length
 ·have hi':(i:Int) < (xq head).length:=by omega
  have g:=arR hi;obtain⟨b1,b2,b3⟩:=ahL _ (asH hi);generalize (xq head)[i]=b at *;obtain⟨d,e1,e2,e3⟩:=Ze M P b.2.1 b.2.2 c.count c.al.length c.bs.length c0 (by omega) (by omega) b1 b2 b3;obtain⟨M',bs,e4,e5⟩:=N.done hs hn d e3 e2;refine⟨d,M',bs,some (.dat (lI p)),some (.dat (.str b.1)),some (.dat (.int b.2.1)),some (.dat (.int b.2.2)),e2,?_,e5⟩;have e1:fG M [.str b.1,.int b.2.1,.int b.2.2,lI p,jV c,aJ base]=.ok d.dat:=e1;simp[Dz,h1,r0,r1,r2,r3,r4,r5,hm,h2,hi',g];simp[Jc,e1,e4]
 ·have hi':¬(i:Int) < (xq head).length:=by omega
  obtain⟨d,e1,e2,e3⟩:=Ze M P (d2 * 10+d3) (d4 * 10+d5) c.count c.al.length c.bs.length c0 (by omega) (by omega) hw (by omega) (by omega);obtain⟨M',bs,e4,e5⟩:=N.done hs hn d e3 e2;refine⟨d,M',bs,some (.dat (lI p)),some (.dat (.str w)),some (.dat (.int (d2 * 10+d3))),some (.dat (.int (d4 * 10+d5))),e2,?_,e5⟩;have e1:fG M [.str w,.int (d2 * 10+d3),.int (d4 * 10+d5),lI p,jV c,aJ base]=.ok d.dat:=e1;simp[Dz,h1,r0,r1,r2,r3,r4,r5,hm,h2,hi'];simp[e1,e4]
theorem VG(x1:Option Cell)(head:Int)(base:List Int)(hb:base.length=6)(x12:Option Cell):∀(xs:List (Nat×Int)) (M:Mo) (L:Lay) (n:Nat) (c:aK) (x6 x7 x8 x9 x10 x11:Option Cell),Now M L n n c->n+xs.length<=76->
  ∃c' M' bs y6 y7 y8 y9 y10 y11,eO (bH [6,7]) Dz (xs.map λq=>PyData.tuple [.int q.1,.int q.2]) M [some (.dat (ob L.c)),x1,some (.dat (.int head)),some (.dat (jV c)),some (.dat (aJ base)),some (.dat (.list ((xq head).map Jc))),x6,x7,x8,x9,x10,x11,x12]=.next [some (.dat (ob L.c)),x1,some (.dat (.int head)),some (.dat (jV c')),some (.dat (aJ base)),some (.dat (.list ((xq head).map Jc))),y6,y7,y8,y9,y10,y11,x12] M'/\Now M' { L with bs:=bs } (n+xs.length) (n+xs.length) c'
 |[],M,L,n,c,x6,x7,x8,x9,x10,x11,N,_=>⟨c,M,L.bs,x6,x7,x8,x9,x10,x11,rfl,N⟩
 |q::xs,M,L,n,c,x6,x7,x8,x9,x10,x11,N,hl=>by
  rw[ar6]at hl;obtain⟨d,M1,bs,y8,y9,y10,y11,h0,h1,N1⟩:=aeg N (by omega) (by omega) x1 head base hb q.1 q.2 x8 x9 x10 x11 x12;have N1:Now M1 { L with bs:=bs } (n+1) (n+1) (qF c d):=⟨N1.at_,N1.inv.mono (asn _) (by have:=abG d;omega),N1.rch⟩;obtain⟨c',M',bs',z6,z7,z8,z9,z10,z11,h2,N2⟩:=VG x1 head base hb x12 xs M1 { L with bs:=bs } (n+1) (qF c d) (some (.dat (.int q.1))) (some (.dat (.int q.2))) y8 y9 y10 y11 N1 (by omega);refine⟨c',M',bs',z6,z7,z8,z9,z10,z11,?_,?_⟩
  ·rw[arT,gW (Z1:=[some (.dat (ob L.c)),x1,some (.dat (.int head)),some (.dat (jV c)),some (.dat (aJ base)),some (.dat (.list ((xq head).map Jc))),some (.dat (.int q.1)),some (.dat (.int q.2)),x8,x9,x10,x11,x12]) (by simp) h1];exact h2
  ·rw[ar6,show n+(xs.length+1)=n+1+xs.length by omega];exact N2
theorem acL{M:Mo}{L:Lay}{n s:Nat}{c:aK}(N:Now M L n s c)(hs:s<=75)(hn:n<=198)(x1 x2 x4 x5 x6 x7 x8 x9 x10 x11 x12:Option Cell) :
  ∃c' M' bs,Jw M [some (.dat (ob L.c)),x1,x2,some (.dat (jV c)),x4,x5,x6,x7,x8,x9,x10,x11,x12]=.next [some (.dat (ob L.c)),x1,x2,some (.dat (jV c')),x4,x5,x6,x7,x8,x9,x10,x11,x12] M'/\Now M' { L with bs:=bs } (n+2) (s+1) c':=by
 obtain⟨M1,bs1,h1,N1⟩:=N.done (by omega) (by omega) (.bring 1 1 [0,0,0,0,0,0]) (by simp[Nk]) (by decide);have hl:=N1.inv.hL;have hc:cost (.bring 1 1 [0,0,0,0,0,0])=1:=rfl;generalize qF c (.bring 1 1 [0,0,0,0,0,0])=c1 at *;obtain⟨M2,bs2,h2,N2⟩:=N1.done (by omega) (by omega) (.cut c1.bs.length) trivial (by simp only[fV,nB,arP,ato];omega);refine⟨_,M2,bs2,?_,N2.at_,N2.inv,N2.rch⟩;have h1:qW M [ob L.c,.tuple [.str "bring",.int 1,.int 1,.tuple [.int 0,.int 0,.int 0,.int 0,.int 0,.int 0]],jV c]=.ok (jV c1) M1:=h1
 have h2:qW M1 [ob L.c,.tuple [.str "cut",.int c1.bs.length],jV c1]=_:=h2
 simp[Jw,h1];have e:atI [PyData.int c1.count,.int c1.al.length,.int c1.bs.length] 2=some (.int c1.bs.length):=rfl;simp[jV]at h2 ⊢;simp[h2]
theorem Tv(x1 x2 x4 x5 x6 x7 x8 x9 x10 x11:Option Cell):∀(xs:List Dat) (M:Mo) (L:Lay) (n s:Nat) (c:aK) (x12:Option Cell),Now M L n s c->n+2 * xs.length<=198->s+xs.length<=75->
  ∃c' M' bs y12,eO (aF 12) Jw xs M [some (.dat (ob L.c)),x1,x2,some (.dat (jV c)),x4,x5,x6,x7,x8,x9,x10,x11,x12]=.next [some (.dat (ob L.c)),x1,x2,some (.dat (jV c')),x4,x5,x6,x7,x8,x9,x10,x11,y12] M'/\Now M' { L with bs:=bs } (n+2 * xs.length) (s+xs.length) c'
 |[],M,L,n,s,c,x12,N,_,_=>⟨c,M,L.bs,x12,rfl,N⟩
 |q::xs,M,L,n,s,c,x12,N,h1,h2=>by
  rw[ar6]at h1 h2;obtain⟨c1,M1,bs1,e1,N1⟩:=acL N (by omega) (by omega) x1 x2 x4 x5 x6 x7 x8 x9 x10 x11 (some (.dat q));obtain⟨c',M',bs',y12,e2,N2⟩:=Tv x1 x2 x4 x5 x6 x7 x8 x9 x10 x11 xs M1 { L with bs:=bs1 } (n+2) (s+1) c1 (some (.dat q)) N1 (by omega) (by omega);refine⟨c',M',bs',y12,?_,?_⟩
  ·rw[gW (Z1:=[some (.dat (ob L.c)),x1,x2,some (.dat (jV c)),x4,x5,x6,x7,x8,x9,x10,x11,some (.dat q)]) (by simp) e1];exact e2
  ·rw[ar6,show n+2 * (xs.length+1)=n+2+2 * xs.length by omega,show s+(xs.length+1)=s+1+xs.length by omega];exact N2
def Uc:aK:=⟨0,[],[],[],[],[]⟩
theorem ahg{M:Mo}{L:Lay}(a:At M L Uc)(cells:List Int)(hl:cells.length<=43)(head:Int):∃c M' L',L'.c=L.c/\CV M [ob L.c,lI cells,.int head]=.ok (jV c) M'/\Now M' L' 99 71 c:=by
 have hb:=Wf (head / 512);have h1:=adP M (head / 512);have h2:=adQ M head;have N0:Now M L 0 0 Uc:=⟨a,alj,.nil⟩;have hen:pB 0 (cells.map PyData.int)=(cells.mapIdx λi x=>(i,x)).map λ(q:Nat×Int)=>PyData.tuple [.int q.1,.int q.2]:=by unfold pB;apply asq;intro i;simp;cases cells[i]?<;>simp
 obtain⟨c1,M1,bs1,y6,y7,y8,y9,y10,y11,e1,N1⟩:=VG (some (.dat (lI cells))) head (Jh (head / 512)) hb none (cells.mapIdx λi x=>(i,x)) M L 0 Uc none none none none none none N0 (by simp;omega);simp only[List.length_mapIdx,Nat.zero_add]at N1;have hd:∀z,decide (CDiv z 512)=true:=λz=>decide_eq_true ⟨by decide,by decide⟩;have hd8:∀z,decide (CDiv z 8)=true:=λz=>decide_eq_true ⟨by decide,by decide⟩;have hd64:∀z,decide (CDiv z 64)=true:=λz=>decide_eq_true ⟨by decide,by decide⟩;have hm:∀z,decide (CMul z 4)=true:=λz=>mul_r (by decide);have z0:jV Uc=.tuple [.int 0,.int 0,.int 0]:=rfl;rw[z0]at e1;by_cases hh:head / 8 % 8=1
 ·obtain⟨k,hk,hk2⟩:∃k:Nat,head / 64 % 8 * 4=k/\k<=28:=⟨(head / 64 % 8 * 4).toNat,by omega,by omega⟩;obtain⟨c2,M2,bs2,y12,e2,N2⟩:=Tv (some (.dat (lI cells))) (some (.dat (.int head))) (some (.dat (aJ (Jh (head / 512))))) (some (.dat (.list ((xq head).map Jc)))) y6 y7 y8 y9 y10 y11 (jC 0 k) M1 { L with bs:=bs1 } cells.length cells.length c1 none N1 (by simp[jC];omega) (by simp[jC];omega);refine⟨c2,M2,{ L with bs:=bs2 },rfl,?_,N2.at_,N2.inv.mono (by simp[jC];omega) (by simp[jC];omega),N2.rch.le (by simp[jC];omega)⟩;have k1:(k:Int)<=100000:=by omega
  have k2 : -100000<=(k:Int):=by omega
  simp[CV,Ro,hd,h1,h2,hen,e1,hd8,hh,hd64,hm,hk,k1,k2,e2]
 ·refine⟨c1,M1,{ L with bs:=bs1 },rfl,?_,N1.at_,N1.inv.mono (by omega) (by omega),N1.rch.le (by omega)⟩;simp[CV,Ro,hd,h1,h2,hen,e1,hd8,hh]
def L0:Lay:=⟨0,2,5,7,[],[]⟩
theorem aoi:∃M L,L.c=0/\mV [⟨"Commons",[]⟩] [ob 0]=.ok .none M/\At M L Uc:=by refine⟨_,L0,rfl,by simp[mV,zj,jY,uJ,yR,vB,Bf,zN,Fv];rfl,?_⟩;exact⟨rfl,⟨_,_,rfl⟩,rfl,⟨_,rfl⟩,rfl,λi h b z _=>(by cases z),by decide,λp hp=>(by cases hp)⟩
theorem ac6(n:Nat)(x:List Int):lk (n+1) (aJ x)=true:=by show lk (n+1) (.tuple (x.map PyData.int))=true;rw[lk];exact afm n x
theorem akY(n:Nat)(x:Option (List Int)):lk (n+1) (oY x)=true:=by
 cases x with
 |none=>rw[oY,lk]
 |some e=>exact ac6 n e
theorem amU(n:Nat)(f:Fi):lk (n+2) f.dat=true:=by cases f<;>simp[Fi.dat,lk,wB]
theorem amh(n:Nat)(e:En):lk (n+2) e.dat=true:=by cases e<;>simp[En.dat,lk,wB]
theorem ahk(n:Nat)(b:dD):lk (n+4) (iK b)=true:=by
 have h1:wB (n+2) (b.en.map En.dat)=true:=wH.mpr λd hd=>by
  obtain⟨e,_,rfl⟩:=arY.mp hd;exact amh n e
 have h2:=amU n b.fi;have h3:=akY (n+2) b.sd.due;simp[iK,lk,wB,h1,h2,h3]
theorem ahh(c:aK):lk 9 (eX c)=true:=by
 have h1:∀n,wB (n+2) ((List.range c.al.length).map (Tg c))=true:=λn=>wH.mpr λd hd=>by
  obtain⟨e,_,rfl⟩:=arY.mp hd;simp[Tg,lk,wB]
 have h2:∀n,wB (n+2) (c.held.map fD)=true:=λn=>wH.mpr λd hd=>by
  obtain⟨e,_,rfl⟩:=arY.mp hd;simp[fD,lk,wB]
 have h3:∀n,wB (n+4) (c.bs.map iK)=true:=λn=>wH.mpr λd hd=>by
  obtain⟨e,_,rfl⟩:=arY.mp hd;exact ahk n e
 simp[eX,lk,wB,h1,h2,h3]
theorem Wc(M:Mo)(c:aK):lJ 10 M [eX c,eX c]=.ok (.bool true):=Uq M 9 _ (ahh c)
theorem Now.look{M:Mo}{L:Lay}{n s:Nat}{c:aK}(N:Now M L n s c)(hs:s<=1000):mJ M [ob L.c]=.ok (eX c):=by have:=N.inv.hL;exact abu N.at_ N.inv.gr (by omega) (by omega)
def Spn(M:Mo)(L:Lay)(n s:Nat)(o:bx Dat):Res->Prop
 |.ok d c'=>∃M' L',L'.c=L.c/\o=.ok d M'/\At M' L' c'/\Inv n s c'
 |.no x=>o=.exc x M
theorem alC{M:Mo}{L:Lay}{c:aK}{n s:Nat}(I:Inv n s c)(hn:n<=199){d:bG}{o:bx Dat}(h:Sp M L o (bT c d)):Spn M L (n+1) (s+cost d) o (bT c d):=by
 cases e:bT c d with
 |no x=>
  rw[e]at h;exact h
 |ok r c'=>
  rw[e]at h;obtain⟨M',bs,h1,h2⟩:=h;exact⟨M',{ L with bs:=bs },rfl,h1,h2,Zg I hn e⟩
theorem aiw{M:Mo}{L:Lay}{c:aK}{n s:Nat}(a:At M L c)(I:Inv n s c)(hs:s<=1000):mJ M [ob L.c]=.ok (eX c):=by have:=I.hL;exact abu a I.gr (by omega) (by omega)
theorem aio(l:List Int)(lo hi:Option Int):Rf.cutD (l.map PyData.int) lo hi=(Rf.cutD l lo hi).map PyData.int:=by unfold Rf.cutD;rw[arZ,List.map_take,List.map_drop]
theorem aip{α:Type}(l:List α)(a b:Nat)(h:a<=b):(Rf.cutD l (some (a:Int)) (some (b:Int))).length<=b - a:=by unfold Rf.cutD;rw[HT.sIx_nat,HT.sIx_nat,List.length_take];omega
theorem ai4(M:Mo)(x:Int):∃y,Nr M [.int x]=.ok (.int y):=by
 have hp:decide (CPow 10 30)=true:=decide_eq_true ⟨by decide,by decide,by decide⟩;by_cases h:x < 0
 ·exact⟨_,by simp[Nr,XR,hp,h];rfl⟩
 ·exact⟨_,by simp[Nr,XR,hp,h];rfl⟩
theorem Zb(M:Mo)(v x t:Int):∃y,Ea M [.int v,.int x,.int t]=.ok (.int y):=by
 obtain⟨y,h⟩:=ai4 M (x / 13);have hd:∀z,decide (CDiv z 13)=true:=λz=>decide_eq_true ⟨by decide,by decide⟩;by_cases e:x % 13=t
 ·exact⟨y,by simp[Ea,X3,e,hd,h]⟩
 ·exact⟨v,by simp[Ea,X3,e]⟩
def o9(c:aK)(lo g:Int)(r:Rw):Prop:=(r.1,g,r.2)∈c.held∨∃(i:Nat) (b:dD),c.bs[i]?=some b/\b.sd.al=true/\b.sd.due=some r.2/\b.sd.o=r.1/\b.sd.g=g/\(i:Int)+1≠lo
theorem o9.all{c:aK}{lo g:Int}{r:Rw}(h:o9 c lo g r):o9 c 0 g r:=h.imp id λ⟨i,b,h1,h2,h3,h4,h5,_⟩=>⟨i,b,h1,h2,h3,h4,h5,by omega⟩
theorem afT{c:aK}{lo:Int}{near:List Int}{r:Rw}:r∈inR c near++CW c lo near↔∃g∈near,o9 c lo g r:=by
 constructor
 ·intro h;rcases ar0.mp h with h|h
  ·obtain⟨g,h1,h2⟩:=Ue h;exact⟨g,h2,.inl h1⟩
  ·obtain⟨i,b,h1,h2,h3,h4,h5,h6⟩:=P0 h;exact⟨b.sd.g,h5,.inr ⟨i,b,h1,h4,h3,h2,rfl,h6⟩⟩
 ·rintro⟨g,hg,h|⟨i,b,h1,h2,h3,h4,h5,h6⟩⟩
  ·exact asy _ (arY.mpr ⟨_,ash.mpr ⟨h,by simpa using hg⟩,rfl⟩)
  ·refine asM _ (arY.mpr ⟨(i,b),ash.mpr ⟨?_,?_⟩,?_⟩)
   ·obtain⟨hi,e⟩:=arQ.mp h1;exact List.mem_mapIdx.mpr ⟨i,hi,by rw[e]⟩
   ·have h6':((i:Int)+1==lo)=false:=by simpa using h6
    subst h5;simp[h3,h2,hg,h6']
   ·simp[h3,h4]
theorem Mh{c:aK}{lo x:Int}{r:Rw}:r∈cX c lo x↔∃g∈aH c x,o9 c lo g r:=afT
def NM(c:aK):Prop:=∀x,Vg c x->∀g∈aH c x,∀h∈aH c x,∀r s,o9 c 0 g r->o9 c 0 h s->r.1≠s.1->roomOf c x < eE r.2 s.2
theorem NM.map{c c':aK}(N:NM c)(h1:c'.al=c.al)(h2:c'.ci=c.ci)(f:Int->Int)(h:∀g r,o9 c' 0 g r->∃o,o9 c 0 g (o,r.2)/\r.1=f o):NM c':=λx hx g hg k hk r s hr hs ne=>by
 have e1:aH c' x=aH c x:=by simp[aH,h2]
 have e0:jR c'=jR c:=by funext y;simp[jR,h1]
 have e2:roomOf c' x=roomOf c x:=by unfold roomOf;rw[e1,e0]
 have hx:Vg c x:=by unfold Vg at *;rw[←h1];exact hx
 rw[e1]at hg hk;obtain⟨o,a1,a2⟩:=h g r hr;obtain⟨p,b1,b2⟩:=h k s hs;rw[e2];exact N x hx g hg k hk (o,r.2) (p,s.2) a1 b1 λz=>ne (by rw[a2,b2];exact congrArg f z)
theorem NM.sub{c c':aK}(N:NM c)(h1:c'.al=c.al)(h2:c'.ci=c.ci)(h:∀g r,o9 c' 0 g r->o9 c 0 g r):NM c':=N.map h1 h2 id λg r hr=>⟨r.1,h g r hr,rfl⟩
theorem NM.add{c c':aK}(N:NM c)(i:cW c)(h1:c'.al=c.al)(h2:c'.ci=c.ci){lo g0 o:Int}{m:List Int}(hg0:Vg c g0)(h:∀g r,o9 c' 0 g r->o9 c lo g r∨(g=g0/\r=(o,m)))(hb:∀r∈cX c lo g0,r.1≠o->roomOf c g0 < eE m r.2):NM c':=λx hx g hg k hk r s hr hs ne=>by
 have e1:aH c' x=aH c x:=by simp[aH,h2]
 have e0:jR c'=jR c:=by funext y;simp[jR,h1]
 have e2:roomOf c' x=roomOf c x:=by unfold roomOf;rw[e1,e0]
 have hx:Vg c x:=by unfold Vg at *;rw[←h1];exact hx
 rw[e1]at hg hk;rw[e2];have one:∀k,k∈aH c x->g0∈aH c x->∀s:Rw,o9 c lo k s->s.1≠o->roomOf c x < eE m s.2:=λk hk hg0 s hs ne=>by
  have e:=i.eq hx hg0;have e3:roomOf c x=roomOf c g0:=by unfold roomOf;rw[e]
  rw[e3];exact hb s (Mh.mpr ⟨k,by rw[e];exact hk,hs⟩) ne
 rcases h g r hr with a|⟨rfl,rfl⟩
 ·rcases h k s hs with b|⟨rfl,rfl⟩
  ·exact N x hx g hg k hk r s a.all b.all ne
  ·rw[Jt];exact one g hg hk r a ne
 ·rcases h k s hs with b|⟨_,rfl⟩
  ·exact one k hk hg s b λz=>ne z.symm
  ·exact absurd rfl ne
theorem Ih{o:Int}{e:List Int}{R:List Rw}{room:Int}(h:vO o e (bM R) room=[]):∀r∈R,r.1≠o->room < eE e r.2:=λr hr ne=>by
 unfold vO at h;have:=List.filter_eq_nil_iff.mp h r (eY.mpr (eY.mpr hr));simp[ne]at this;exact this
theorem Ji{o room:Int}{e:List Int}{R:List Rw}{x:Res}{d:Dat}{c':aK}(h:wu o e R room x=.ok d c'):vO o e (bM R) room=[]:=by
 unfold wu at h;split at h
 ·assumption
 ·cases h
theorem abZ{l:List Int}{m:Int}(hne:l≠[])(h:∀a∈l,a<=m):ace l<=m:=by
 cases l with
 |nil=>exact absurd rfl hne
 |cons n ns=>exact h _ (Ed ns n).1
theorem aiI{l:List Int}{a:Int}(h:a∈l):a<=ace l:=by
 cases l with
 |nil=>cases h
 |cons n ns=>exact(Ed ns n).2 a h
theorem abh{c:aK}{x m:Int}(hx:x∈aH c x)(h:∀y∈aH c x,jR c y<=m):roomOf c x<=m:=abZ (λz=>by rw[List.map_eq_nil_iff.mp z]at hx;cases hx) λa ha=>by
 obtain⟨y,hy,rfl⟩:=arY.mp ha;exact h y hy
theorem agB{c:aK}{x y:Int}(hy:y∈aH c x):jR c y<=roomOf c x:=aiI (arY.mpr ⟨y,hy,rfl⟩)
theorem NM.finer{c c':aK}(N:NM c)(h1:c'.al=c.al)(hh:c'.held=c.held)(hbs:c'.bs=c.bs)(hs:∀x,Vg c x->x∈aH c' x/\∀y∈aH c' x,y∈aH c x):NM c':=λx hx g hg k hk r s hr hs' ne=>by
 have hx:Vg c x:=by unfold Vg at *;rw[←h1];exact hx
 obtain⟨a,b⟩:=hs x hx;have e:∀g r,o9 c' 0 g r->o9 c 0 g r:=λg r h=>by unfold o9 at *;rw[←hh,←hbs];exact h
 have:=N x hx g (b g hg) k (b k hk) r s (e g r hr) (e k s hs') ne;have:roomOf c' x<=roomOf c x:=abh a λy hy=>by
  have e2:jR c' y=jR c y:=by simp[jR,h1]
  rw[e2];exact agB (b y hy)
 omega
theorem Wn{T:List Rw}{room:Int}(h:jG T room=[]):∀(i j:Nat) (r s:Rw),i < j->T[i]?=some r->T[j]?=some s->r.1≠s.1->room < eE r.2 s.2:=λi j r s lt hr hs ne=>by
 unfold jG at h;rw[List.flatMap_eq_nil_iff]at h;obtain⟨hi,e⟩:=arQ.mp hr;have h1:=h (i,r) (List.mem_mapIdx.mpr ⟨i,hi,by rw[e]⟩);have h2:=List.filter_eq_nil_iff.mp (List.map_eq_nil_iff.mp h1) s (arW (i:=j - (i+1)) (by rw[List.getElem?_drop,show i+1+(j - (i+1))=j by omega];exact hs));have ne':(r.1==s.1)=false:=by simpa using ne
 simp[ne']at h2;exact h2
theorem adn{T:List Rw}{room:Int}(h:jG T room=[]){r s:Rw}(hr:r∈T)(hs:s∈T)(ne:r.1≠s.1):room < eE r.2 s.2:=by
 obtain⟨i,hi⟩:=List.mem_iff_getElem?.mp hr;obtain⟨j,hj⟩:=List.mem_iff_getElem?.mp hs;rcases Nat.lt_trichotomy i j with lt|rfl|lt
 ·exact Wn h i j r s lt hi hj ne
 ·rw[hi]at hj;cases hj;exact absurd rfl ne
 ·rw[Jt];exact Wn h j i s r lt hj hi λz=>ne z.symm
theorem GP{c:aK}{i:Nat}{e:En}{b0:dD}(hb:c.bs[i]?=some b0){g:Int}{r:Rw}(h:o9 (gq c i e) 0 g r):o9 c ((i:Int)+1) g r∨((go b0.sd e).al=true/\(go b0.sd e).due=some r.2/\(go b0.sd e).o=r.1/\(go b0.sd e).g=g):=by
 rcases h with h|⟨j,b,h1,h2,h3,h4,h5,_⟩
 ·exact .inl (.inl h)
 ·rw[wz]at h1;split at h1
  ·next z=>
   subst z;rw[hb]at h1;cases h1;exact .inr ⟨h2,h3,h4,h5⟩
  ·next z=>exact .inl (.inr ⟨j,b,h1,h2,h3,h4,h5,by omega⟩)
theorem QM{c:aK}{k o g':Int}{lo g:Int}{r:Rw}(h:o9 (wL c k o g') lo g r):o9 c lo g r:=by
 rcases h with h|⟨j,b,h1,h2,h3,h4,h5,h6⟩
 ·exact .inl h
 ·have h1:(c.bs.map λx=>if uN k x&&x.sd.al then qb x (.followed o g') else x)[j]?=some b:=h1;rw[ar5]at h1;obtain⟨x,hx,rfl⟩:=asx.mp h1;cases q:(uN k x&&x.sd.al) with
  |true=>
   rw[q]at h3;have h3:x.sd.due=some r.2:=h3;simp[uN,h3]at q
  |false=>
   rw[q]at h2 h3 h4 h5;exact .inr ⟨j,x,hx,h2,h3,h4,h5,h6⟩
theorem aiv{n s:Nat}{c c':aK}{d:bG}{r:Dat}(I:Inv n s c)(hn:n<=199)(N:NM c)(h:bT c d=.ok r c'):NM c':=by
 have A0:=I.al;have gv:∀{g:Int} {r:Rw} {lo:Int},o9 c lo g r->Vg c g:=λh=>by
  rcases h with h|⟨j,b,h1,h2,_,_,h5,_⟩
  ·exact(I.hE _ h).2.1
  ·rw[←h5];exact(I.alive (arW h1) h2).2.1
 have nobs:∀{f:Fi},(beg f).due=none->∀g (r:Rw),o9 { c with bs:=c.bs++[Dm f] } 0 g r->o9 c 0 g r:=λhf g r h=>by
  rcases h with h|⟨j,b,h1,h2,h3,h4,h5,h6⟩
  ·exact .inl h
  ·by_cases hj:j < c.bs.length
   ·rw[ar3 hj]at h1;exact .inr ⟨j,b,h1,h2,h3,h4,h5,h6⟩
   ·rw[asf (by omega)]at h1;cases hz:j - c.bs.length with
    |zero=>
     rw[hz]at h1;cases h1;have h3:(beg _).due=some r.2:=h3;rw[hf]at h3;cases h3
    |succ q=>
     rw[hz]at h1;simp at h1
 cases d with
 |owner=>
  cases h;exact N.sub rfl rfl λ_ _ h=>h
 |ground x=>
  obtain⟨hx,h⟩:=Ce h;cases h;have hl:=I.gr.len;have e1:∀y,Vg c y->aH { c with al:=c.al++[x],ci:=c.ci++[[(c.al.length:Int)+1]] } y=aH c y:=λy hy=>by
   obtain⟨k,hk,rfl⟩:=rA hy;simp[aH,ar3 (show k < c.ci.length by omega)]
  have e2:∀y,Vg c y->jR { c with al:=c.al++[x],ci:=c.ci++[[(c.al.length:Int)+1]] } y=jR c y:=λy hy=>by
   obtain⟨k,hk,rfl⟩:=rA hy;simp[jR,ar3 hk]
  intro y hy g hg k hk r s hr hs ne;have hy:1<=y/\y<=((c.al++[x]).length:Int):=hy;simp at hy;by_cases hv:Vg c y
  ·rw[e1 y hv]at hg hk;have:roomOf { c with al:=c.al++[x],ci:=c.ci++[[(c.al.length:Int)+1]] } y=roomOf c y:=by
    unfold roomOf;rw[e1 y hv];congr 1;exact List.map_congr_left λz hz=>e2 z (I.gr.mem _ _ (I.gr.at hv) z hz)
   rw[this];exact N y hv g hg k hk r s hr hs ne
  ·have ey:y=(c.al.length:Int)+1:=by unfold Vg at hv;omega
   subst ey;have:aH { c with al:=c.al++[x],ci:=c.ci++[[(c.al.length:Int)+1]] } ((c.al.length:Int)+1)=[(c.al.length:Int)+1]:=by simp[aH,←hl]
   rw[this]at hg;rw[arV.mp hg]at hr;have hr:o9 c 0 ((c.al.length:Int)+1) r:=hr;exact absurd (gv hr) hv
 |enrol o g m=>
  obtain⟨h1,h⟩:=lE h;obtain⟨h2,h⟩:=lO h;obtain⟨h3,h⟩:=Ny h;obtain⟨h4,h⟩:=jQ h;obtain⟨h5,h⟩:=jQ h;have hb:=Ih (Ji h);have h:=wD h;cases h;refine N.add I.gr rfl rfl h2 (λk r hr=>?_) hb;rcases hr with hr|hr
  ·rcases ar0.mp hr with hr|hr
   ·exact .inl (.inl hr)
   ·have:=arV.mp hr;obtain⟨r1,r2⟩:=r;cases this;exact .inr ⟨rfl,rfl⟩
  ·exact .inl (.inr hr)
 |leave o g=>
  obtain⟨h1,h⟩:=lE h;obtain⟨h2,h⟩:=lO h;obtain⟨h3,h⟩:=mF h;obtain⟨h4,h⟩:=jQ h;cases h;exact N.sub rfl rfl λk r hr=>hr.imp (λz=>(ash.mp z).1) id
 |bring o g e=>
  obtain⟨h1,h⟩:=lE h;obtain⟨h2,h⟩:=lO h;obtain⟨h3,h⟩:=Ny h;obtain⟨h4,h⟩:=mF h;cases h;exact N.sub rfl rfl (nobs rfl)
 |bear k=>
  obtain⟨b0,e0,h1,h2,h3,h⟩:=zA h;cases h;exact N.sub rfl rfl (nobs rfl)
 |cut k=>
  obtain⟨b0,h1,h2,h⟩:=zf h;have hb:=Ih (Ji h);have h:=wD h;cases h;obtain⟨q1,q2,q3⟩:=lM h1;refine N.add I.gr rfl rfl (I.alive (arW q1) h2).2.1 (λg r hr=>?_) hb;rcases GP q1 hr with z|⟨_,z2,z3,z4⟩
  ·exact .inl z.all
  ·obtain⟨r1,r2⟩:=r;exact .inr ⟨z4.symm,Prod.ext z3.symm (ase z2).symm⟩
 |tear k p=>
  obtain⟨b0,h1,h2,h⟩:=zf h;obtain⟨h3,h⟩:=Ce h;obtain⟨h4,h⟩:=jQ h;cases h;obtain⟨q1,q2,q3⟩:=lM h1;refine N.sub rfl rfl λg r hr=>?_;rcases GP q1 hr with z|⟨z1,z2,z3,z4⟩
  ·exact z.all
  ·exact .inr ⟨_,b0,q1,z1,z2,z3,z4,by omega⟩
 |sell k o=>
  obtain⟨b0,e0,h1,h2,h3,h⟩:=zA h;obtain⟨h4,h⟩:=lE h;obtain⟨h5,h⟩:=jQ h;obtain⟨h6,h⟩:=mF h;have hb:=Ih (Ji h);have h:=wD h;cases h;obtain⟨q1,q2,q3⟩:=lM h1;refine N.add I.gr rfl rfl (I.alive (arW q1) h2).2.1 (λg r hr=>?_) hb;rcases GP q1 (QM hr) with z|⟨_,z2,z3,z4⟩
  ·rw[show(((k - 1).toNat:Nat):Int)+1=k by omega]at z;exact .inl z
  ·obtain⟨r1,r2⟩:=r;exact .inr ⟨z4.symm,Prod.ext z3.symm (ase z2).symm⟩
 |move k g=>
  obtain⟨b0,e0,h1,h2,h3,h⟩:=zA h;obtain⟨h4,h⟩:=lO h;obtain⟨h5,h⟩:=jQ h;obtain⟨h6,h⟩:=mF h;have hb:=Ih (Ji h);have h:=wD h;cases h;obtain⟨q1,q2,q3⟩:=lM h1;refine N.add I.gr rfl rfl h4 (λg' r hr=>?_) hb;rcases GP q1 (QM hr) with z|⟨_,z2,z3,z4⟩
  ·exact .inl z.all
  ·obtain⟨r1,r2⟩:=r;have z2:b0.sd.due=some r2:=z2;rw[h3]at z2;exact .inr ⟨z4.symm,Prod.ext z3.symm (ase z2).symm⟩
 |die k=>
  obtain⟨b0,h1,h2,h⟩:=zf h;cases h;obtain⟨q1,q2,q3⟩:=lM h1;refine N.sub rfl rfl λg r hr=>?_;rcases GP q1 hr with z|⟨z1,_⟩
  ·exact z.all
  ·cases z1
 |xP x y=>
  obtain⟨hy,h⟩:=lO h;obtain⟨hx,h⟩:=lO h;obtain⟨hn',h⟩:=jQ h;split at h
  ·cases h
  next hcl=>
  cases h;have hm:∀z∈sortI (aH c x++aH c y),Vg c z:=λz hz=>by
   rcases ar0.mp (Ek.mp hz) with hz|hz
   ·exact I.gr.mem _ _ (I.gr.at hx) z hz
   ·exact I.gr.mem _ _ (I.gr.at hy) z hz
  intro z hz g hg k hk r s hr hs ne;have hz:Vg c z:=hz;have ez:aH { c with ci:=encl c.ci (sortI (aH c x++aH c y)) } z=if z∈sortI (aH c x++aH c y) then sortI (aH c x++aH c y) else aH c z:=by
   obtain⟨j,hj,rfl⟩:=rA hz;have h1:=zu c.ci (sortI (aH c x++aH c y)) j (λy hy=>(hm y hy).1);have hj':j < c.ci.length:=by rw[I.gr.len];exact hj
   have e:aH { c with ci:=encl c.ci (sortI (aH c x++aH c y)) } ((j:Int)+1)=((encl c.ci (sortI (aH c x++aH c y)))[j]?).getD []:=by simp[aH]
   rw[e,h1];by_cases q:(j:Int)+1∈sortI (aH c x++aH c y)
   ·rw[if_pos ⟨q,hj'⟩,if_pos q];rfl
   ·rw[if_neg (λz=>q z.1),if_neg q];simp[aH]
  have hr:o9 c 0 g r:=hr;have hs:o9 c 0 k s:=hs;by_cases q:z∈sortI (aH c x++aH c y)
  ·rw[if_pos q]at ez;have hle:roomOf { c with ci:=encl c.ci (sortI (aH c x++aH c y)) } z<=qK c x y:=abh (by rw[ez];exact q) λw hw=>by
    have e2:jR { c with ci:=encl c.ci (sortI (aH c x++aH c y)) } w=jR c w:=rfl;rw[ez]at hw;rw[e2];unfold qK;rcases ar0.mp (Ek.mp hw) with hw|hw<;>(have:=agB hw;split<;>omega)
   rw[ez]at hg hk;have mem:∀{g:Int} {r:Rw},g∈sortI (aH c x++aH c y)->o9 c 0 g r->r∈bM (BJ c x y):=λhg hr=>by
    rw[eY];unfold BJ;rcases ar0.mp (Ek.mp hg) with hg|hg
    ·exact asy _ (eY.mpr (Mh.mpr ⟨_,hg,hr⟩))
    ·exact asM _ (eY.mpr (Mh.mpr ⟨_,hg,hr⟩))
   have:=adn hcl (mem hg hr) (mem hk hs) ne;omega
  ·rw[if_neg q]at ez;have:roomOf { c with ci:=encl c.ci (sortI (aH c x++aH c y)) } z=roomOf c z:=by
    unfold roomOf;rw[ez];rfl
   rw[this];rw[ez]at hg hk;exact N z hz g hg k hk r s hr hs ne
 |part x=>
  obtain⟨hx,h⟩:=lO h;obtain⟨h1,h⟩:=jQ h;cases h;have hl:∀y∈lW c x,y∈aH c x:=λy hy=>(ash.mp hy).1;have hv:∀y∈lW c x,1<=y:=λy hy=>(I.gr.mem _ _ (I.gr.at hx) y (hl y hy)).1;refine N.finer rfl rfl rfl λz hz=>?_;have hself:=I.gr.self hz;obtain⟨j,hj,rfl⟩:=rA hz;have hj':j < c.ci.length:=by rw[I.gr.len];exact hj
  have e:aH { c with ci:=encl (encl c.ci [x]) (lW c x) } ((j:Int)+1)=((encl (encl c.ci [x]) (lW c x))[j]?).getD []:=by simp[aH]
  have e1:(encl c.ci [x]).length=c.ci.length:=vZ [x] [x] c.ci;rw[e,zu _ _ j hv,zu c.ci [x] j (λy hy=>by rw[arV.mp hy];exact hx.1),e1];by_cases q:(j:Int)+1∈lW c x
  ·rw[if_pos ⟨q,hj'⟩];refine⟨q,λy hy=>?_⟩;rw[I.gr.eq hx (hl _ q)];exact hl y hy
  ·rw[if_neg λz=>q z.1];by_cases q2:(j:Int)+1=x
   ·rw[if_pos ⟨by simp[q2],hj'⟩];refine⟨by simp[q2],λy hy=>?_⟩;have hy:y=x:=by simpa using hy
    rw[hy,←q2];exact hself
   ·rw[if_neg λz=>q2 (by simpa using z.1)];have:(c.ci[j]?).getD []=aH c ((j:Int)+1):=by simp[aH]
    rw[this];exact⟨hself,λy hy=>hy⟩
 |pass e h'=>
  obtain⟨h1,h⟩:=lE h;obtain⟨h2,h⟩:=lE h;obtain⟨h3,h⟩:=jQ h;cases h;refine N.map rfl rfl (λo=>if o=e then h' else o) λg r hr=>?_;rcases hr with hr|⟨j,b,k1,k2,k3,k4,k5,_⟩
  ·have hr:(r.1,g,r.2)∈handed c e h':=hr;unfold handed at hr;rcases(Ik _ _).mp hr with z|z
   ·cases z
   ·obtain⟨w,hw,hw2⟩:=arY.mp z;obtain⟨w1,w2,w3⟩:=w;unfold zH at hw2;simp only[Prod.mk.injEq]at hw2;obtain⟨z1,z2,z3⟩:=hw2;subst z2 z3;exact⟨w1,.inl hw,z1.symm⟩
  ·have k1:(c.bs.map λb=>if (b.sd.o==e)&&b.sd.al then qb b (.passed h') else b)[j]?=some b:=k1;rw[ar5]at k1;obtain⟨x,hx,rfl⟩:=asx.mp k1;cases q:((x.sd.o==e)&&x.sd.al) with
   |true=>
    rw[q]at k2 k3 k4 k5;have q':x.sd.o=e:=by rw[arP]at q;exact eq_of_beq q.1
    have k4:h'=r.1:=k4;exact⟨x.sd.o,.inr ⟨j,x,hx,k2,k3,rfl,k5,by omega⟩,by rw[if_pos q',k4]⟩
   |false=>
    rw[q]at k2 k3 k4 k5;have k2:x.sd.al=true:=k2;have q':¬x.sd.o=e:=λz=>by simp[z,k2]at q
    have k4:x.sd.o=r.1:=k4;exact⟨x.sd.o,.inr ⟨j,x,hx,k2,k3,rfl,k5,by omega⟩,by rw[if_neg q',k4]⟩
 |heir e g x=>
  obtain⟨h1,h⟩:=lE h;obtain⟨h2,h⟩:=lO h;obtain⟨h3,h⟩:=Ce h;obtain⟨h4,h⟩:=mF h;split at h
  ·next mk hf=>
   cases h;have hfr:=List.find?_some hf;refine N.add I.gr rfl rfl (lo:=0) (o:=c.count+1) (m:=mk) h2 (λk r hr=>?_) λr hr _=>?_
   ·rcases hr with hr|hr
    ·rcases ar0.mp hr with hr|hr
     ·exact .inl (.inl hr)
     ·have:=arV.mp hr;obtain⟨r1,r2⟩:=r;cases this;exact .inr ⟨rfl,rfl⟩
    ·exact .inl (.inr hr)
   ·unfold nM at hfr;rw[ar9,List.any_eq_false]at hfr;have:=hfr r (eY.mpr hr);simpa using this
  ·cases h
theorem nmZ:NM Uc:=λx hx=>by
 have h:1<=x/\x<=((0:Nat):Int):=hx;omega
theorem JX.ok{n:Nat}{c:aK}(h:JX n c):n<=200->Inv n n c/\NM c:=by
 induction h with
 |nil=>exact λ_=>⟨alj,nmZ⟩
 | @step n c d r hf ih=>
  intro hn;obtain⟨I,N⟩:=ih (by omega);refine⟨(Y6 I d (by omega)).mono (asn _) (by have:=abG d;omega),?_⟩;unfold qF;cases e:bT c d with
  |ok _ c'=>exact aiv I (by omega) N e
  |no _=>exact N
 |le _ h ih=>
  intro hn;obtain⟨I,N⟩:=ih (by omega);exact⟨I.mono h h,N⟩
def Dq(c:aK):Res->Dat
 |.ok d c'=>.tuple [.str "",d,eX c']
 |.no x=>.tuple [.str x.cls,.none,eX c]
def Spt(M:Mo)(L:Lay)(n s:Nat)(o:bx Dat):Res->Prop
 |.ok d c'=>∃M' L',L'.c=L.c/\o=.ok (.tuple [.str "",d]) M'/\At M' L' c'/\Inv n s c'
 |.no x=>o=.ok (.tuple [.str x.cls,.none]) M
@[simp]theorem aqc (c:aK):aP (eX c) (.int 0)=.ok (lI c.own):=rfl
@[simp]theorem apv (c:aK):aP (eX c) (.int 1)=.ok (.list ((List.range c.al.length).map (Tg c))):=rfl
@[simp]theorem aph (c:aK):aP (eX c) (.int 2)=.ok (.list (c.held.map fD)):=rfl
@[simp]theorem apC (c:aK):aP (eX c) (.int 3)=.ok (.list (c.bs.map iK)):=rfl
theorem eq_nil(xs:List Dat)(h:lZ 11 xs=true):bW (.list xs) (.list [])=.ok (.bool xs.isEmpty)/\uZ (.list xs) (.list [])=.ok (.bool (!xs.isEmpty)):=by
 have e:eqB (.list xs) (.list [])=.ok xs.isEmpty:=by
  show Out.when (okd 12 (.list xs)&&okd 12 (.list [])) (.ok (PyData.eqv (.list xs) (.list [])))=_;rw[okd,okd,h,alK];cases xs with
  |nil=>rfl
  |cons a r=>rw[ahJ];rfl
 exact⟨by unfold bW;rw[e];rfl,by unfold uZ;rw[e];rfl⟩
theorem afx(M:Mo)(w:Str)(x head n0 n1 n2:Int){d:Dat}(h:dd M w ((rowOf x 14 10).getD 2 0 * 10+(rowOf x 14 10).getD 3 0) ((rowOf x 14 10).getD 4 0 * 10+(rowOf x 14 10).getD 5 0) (rowOf x 14 10) (Jh (head / 512)) n0 n1 n2=.ok d):Cy M [.str w,.int x,.tuple [.int n0,.int n1,.int n2],.int head]=.ok d:=by have h1:vD M [.int x,.int 14,.int 10]=.ok (lI (rowOf x 14 10)):=ZJ M x 14 10 (by decide) (by decide) (by decide);have h2:=adP M (head / 512);obtain⟨r2,_⟩:=u6 x 2 (by decide);obtain⟨r3,_⟩:=u6 x 3 (by decide);obtain⟨r4,_⟩:=u6 x 4 (by decide);obtain⟨r5,_⟩:=u6 x 5 (by decide);generalize rowOf x 14 10=p at *;generalize p.getD 2 0=d2 at *;generalize p.getD 3 0=d3 at *;generalize p.getD 4 0=d4 at *;generalize p.getD 5 0=d5 at *;have hm:∀z,decide (CMul z 10)=true:=λz=>mul_r (by decide);have hd:∀z,decide (CDiv z 512)=true:=λz=>decide_eq_true ⟨by decide,by decide⟩;simp only[show((2:Nat):Int)=2 from rfl,show((3:Nat):Int)=3 from rfl,show((4:Nat):Int)=4 from rfl,show((5:Nat):Int)=5 from rfl]at r2 r3 r4 r5;unfold dd at h;simp[Cy,Uj,h1,h2,r2,r3,r4,r5,hm,hd,h]
theorem played(ns:List Int):∃(c:aK) (M1:Mo) (L1:Lay) (head:Int) (M0:Mo),L1.c=0/\mV [⟨"Commons",[]⟩] [ob 0]=.ok .none M0/\u5 M0 [lI ns,.int 0]=.ok (.int (ns.getD 0 0))/\head=(if ns.getD 0 0 < 0 then -(ns.getD 0 0) else ns.getD 0 0)/\CV M0 [ob 0,.list (Rf.cutD (ns.map PyData.int) (some 2) (some 44)),.int head]=.ok (jV c) M1/\Now M1 L1 99 71 c/\u5 M1 [lI ns,.int 1]=.ok (.int (ns.getD 1 0)):=by obtain⟨M0,L,hL,h0,a0⟩:=aoi;have cell0:u5 M0 [lI ns,.int 0]=_:=abe M0 ns 0;have hl:=aip ns 2 44 (by decide);obtain⟨c,M1,L1,hL1,h1,N1⟩:=ahg a0 (Rf.cutD ns (some ((2:Nat):Int)) (some ((44:Nat):Int))) (by omega) (if ns.getD 0 0 < 0 then -(ns.getD 0 0) else ns.getD 0 0);have cell1:u5 M1 [lI ns,.int 1]=_:=abe M1 ns 1;refine⟨c,M1,L1,_,M0,hL1.trans hL,h0,cell0,rfl,?_,N1,cell1⟩;rw[aio];rw[hL]at h1;exact h1
theorem RK(M:Mo)(c:aK)(g:Int):pW M [eX c,.int g]=.ok (.bool (decide (Vg c g))):=by by_cases h:1<=g<;>simp[pW,yX,h,Vg]
theorem aaU(M:Mo)(c:aK)(hf:c.held.length<=50000)(o g:Int):uH M [eX c,.int o,.int g]=.ok (.list ((bF c o g).map aJ)):=by
 have key:=fP (tg:=aF 3) (tt:=jK (bh (aA bW (aA aP (ao 3) (qC (.int 0))) (ao 1))) (bh (aA bW (aA aP (ao 3) (qC (.int 1))) (ao 2)))) (te:=aA aP (ao 3) (qC (.int 2))) (M:=M) (Z:=[some (.dat (eX c)),some (.dat (.int o)),some (.dat (.int g)),none]) fD (λr=>(r.1==o)&&(r.2.1==g)) (λr=>aJ r.2.2) c.held λr _=>⟨[some (.dat (eX c)),some (.dat (.int o)),some (.dat (.int g)),some (.dat (fD r))],by simp,by
  by_cases h:r.1=o<;>simp[fD,h],λ_=>by simp[fD]⟩
 simp[uH,Ju,key,hf,bF]
@[simp]theorem apB (b:dD):aP (iK b) (.int 0)=.ok (.int b.sd.o):=rfl
@[simp]theorem apW (b:dD):aP (iK b) (.int 1)=.ok (.int b.sd.g):=rfl
@[simp]theorem aqQ (b:dD):aP (iK b) (.int 2)=.ok (oY b.sd.due):=rfl
@[simp]theorem apj (b:dD):aP (iK b) (.int 3)=.ok (aJ b.sd.ear):=rfl
@[simp]theorem apM (b:dD):aP (iK b) (.int 4)=.ok (.bool b.sd.al):=rfl
@[simp]theorem aqM (b:dD):aP (iK b) (.int 5)=.ok (.int b.mo):=rfl
@[simp]theorem aqF (b:dD):aP (iK b) (.int 6)=.ok (.tuple (b.fi.dat::b.en.map En.dat)):=rfl
theorem acX{c:aK}{x:Int}(h:Vg c x):atI ((List.range c.al.length).map (Tg c)) (x - 1)=some (.tuple [.int (jR c x),aJ (aH c x)]):=by obtain⟨k,hk,rfl⟩:=rA h;rw[show(k:Int)+1 - 1=(k:Int) by omega,afH];simp[hk,Tg]
theorem ajV(neg:Bool)(y:Int)(l:List Int)(h:l.length<=1000):inD neg (.int y) (aJ l)=.ok (.bool (neg ^^ decide (y∈l))):=by
 have:=any_ints y l;have h2:(Eo (PyData.int y)&&l.all (Eo ∘ PyData.int))=true:=by simp[Eo,asi]
 simp[inD,inB,this,h2]
theorem acp(M:Mo)(c:aK)(i:cW c)(x:Int)(h:Vg c x):zY M [eX c,.int x]=.ok (.int (roomOf c x)):=by
 have h1:=acX h;have hc:=i.at h;have hl:(aH c x).length<=50000:=by have:=i.clen hc;omega
 have hne:(aH c x).map (jR c)≠[]:=λz=>by
  have:=i.self h;rw[List.map_eq_nil_iff.mp z]at this;cases this
 have key:=eZ (tg:=aF 2) (te:=aA aP (aA aP (aA aP (ao 0) (qC (.int 1))) (aA kY (ao 2) (qC (.int 1)))) (qC (.int 0))) (M:=M) (Z:=[some (.dat (eX c)),some (.dat (.int x)),none]) PyData.int (λy=>.int (jR c y)) (aH c x) λy hy=>⟨[some (.dat (eX c)),some (.dat (.int x)),some (.dat (.int y))],by simp,by
  have:=acX (i.mem _ _ hc y hy);simp[this]⟩
 have hm:=maxD_ints hne;rw[asr]at hm;simp[asi]at hm;simp[zY,M5,h1,key,hl,hm,roomOf]
theorem up_eq:∀{S T:List Rw},Ear.Hl S->Ear.Hl T->(∀r,r∈S↔r∈T)->S=T
 |[],[],_,_,_=>rfl
 |[],t::T,_,_,m=>by have:=(m t).mpr arU;cases this
 |s::S,[],_,_,m=>by have:=(m s).mp arU;cases this
 |s::S,t::T,hs,ht,m=>by
  have hs':=List.pairwise_cons.mp hs;have ht':=List.pairwise_cons.mp ht;have e:s=t:=by
   rcases ar4.mp ((m s).mp arU) with h1|h1
   ·exact h1
   rcases ar4.mp ((m t).mpr arU) with h2|h2
   ·exact h2.symm
   exact absurd (List.lt_trans (ht'.1 s h1) (hs'.1 t h2)) (List.lt_irrefl _)
  subst e;congr 1;refine up_eq hs'.2 ht'.2 λr=>⟨λh=>?_,λh=>?_⟩
  ·rcases ar4.mp ((m r).mp (arS _ h)) with z|z
   ·subst z;exact absurd (hs'.1 _ h) (List.lt_irrefl _)
   ·exact z
  ·rcases ar4.mp ((m r).mpr (arS _ h)) with z|z
   ·subst z;exact absurd (ht'.1 _ h) (List.lt_irrefl _)
   ·exact z
theorem ajX(r s:Rw):uZ (Ear.rD r) (Ear.rD s)=.ok (.bool (!decide (r=s))):=by
 have e:PyData.eqv (Ear.rD r) (Ear.rD s)=decide (r=s):=by rw[asQ];simp[Ear.rD,Ear.dT,Prod.ext_iff]
 have:eqB (Ear.rD r) (Ear.rD s)=.ok (decide (r=s)):=by show Out.when (okd 12 (Ear.rD r)&&okd 12 (Ear.rD s)) (.ok (PyData.eqv (Ear.rD r) (Ear.rD s)))=_;rw[Lz 10,Lz 10,e];rfl
 unfold uZ;rw[this];rfl
theorem atI_last{α:Type}(l:List α)(a:α):atI (l++[a]) (-1)=some a:=by
 unfold atI ixN;have:(-1+((l.length:Int)+1)).toNat=l.length:=by omega
 have h2:(1:Int)<=l.length+1:=by omega
 simp[this,h2]
def qO(acc:List Rw)(r:Rw):List Rw:=if acc.getLast?=some r then acc else acc++[r]
theorem aeU(M:Mo)(x0:Option Cell)(acc:List Rw)(r:Rw)(h:acc.length<=5000):yK M [x0,some (.mut (acc.map Ear.rD)),some (.dat (Ear.rD r))]=.next [x0,some (.mut ((qO acc r).map Ear.rD)),some (.dat (Ear.rD r))] M:=by
 have h1:=(eq_nil (acc.map Ear.rD) (abJ 9 acc)).1;have h0:acc.length < 100000:=by omega
 rcases List.eq_nil_or_concat acc with rfl|⟨l,a,rfl⟩
 ·simp at h1;simp[yK,h1,qO]
 ·have h2:((l++[a]).map Ear.rD).isEmpty=false:=by simp
  rw[List.concat_eq_append]at *;rw[h2]at h1;rw[List.map_append]at h1 ⊢;have h3:=ajX a r;have h4:=atI_last (l.map Ear.rD) (Ear.rD a);simp at h0;by_cases e:a=r
  ·subst e;simp at h1 h4 h3;simp[yK,h1,h4,h3,qO]
  ·simp[e]at h1 h4 h3;simp[yK,h1,h4,h3,qO,e,h0]
theorem WK(M:Mo)(x0:Option Cell):∀(R acc:List Rw) (x2:Option Cell),acc.length+R.length<=5000->∃y2,eO (aF 2) yK (R.map Ear.rD) M [x0,some (.mut (acc.map Ear.rD)),x2]=.next [x0,some (.mut ((R.foldl qO acc).map Ear.rD)),y2] M
 |[],acc,x2,_=>⟨x2,rfl⟩
 |r::R,acc,x2,h=>by
  rw[ar6]at h;have hl:(qO acc r).length<=acc.length+1:=by
   unfold qO
   split<;>simp
  obtain⟨y2,h2⟩:=WK M x0 R (qO acc r) (some (.dat (Ear.rD r))) (by omega);exact⟨y2,by rw[arT,gW (Z1:=[x0,some (.mut (acc.map Ear.rD)),some (.dat (Ear.rD r))]) (by simp) (aeU M x0 acc r (by omega))];exact h2⟩
theorem Vz:∀(R acc:List Rw),Ear.Hl acc->R.Pairwise (λa b=>Ear.rk a<=Ear.rk b)->(∀a∈acc,∀r∈R,Ear.rk a<=Ear.rk r)->Ear.Hl (R.foldl qO acc)/\∀x,x∈R.foldl qO acc↔x∈acc∨x∈R
 |[],acc,ha,_,_=>⟨ha,by simp⟩
 |r::R,acc,ha,hR,hb=>by
  have hR':=List.pairwise_cons.mp hR;rw[asY];by_cases e:acc.getLast?=some r
  ·have e1:qO acc r=acc:=by rw[qO,if_pos e]
   rw[e1];obtain⟨k1,k2⟩:=Vz R acc ha hR'.2 λa m x hx=>hb a m x (arS _ hx);have mr:r∈acc:=List.mem_of_getLast? e;refine⟨k1,λx=>?_⟩;rw[k2,ar4];constructor
   ·rintro(h|h)
    ·exact .inl h
    ·exact .inr (.inr h)
   ·rintro(h|h|h)
    ·exact .inl h
    ·subst h;exact .inl mr
    ·exact .inr h
  ·have e1:qO acc r=acc++[r]:=by rw[qO,if_neg e]
   rw[e1];have hup:Ear.Hl (acc++[r]):=by
    rcases List.eq_nil_or_concat acc with rfl|⟨l,a,rfl⟩
    ·exact List.pairwise_singleton _ _
    ·rw[List.concat_eq_append]at *;have ne:a≠r:=λz=>e (by simp[z]);have lt:Ear.rk a < Ear.rk r:=by
      have:=hb a (by simp) r arU;by_cases c:Ear.rk a < Ear.rk r
      ·exact c
      ·exact absurd (Ear.Zk (List.le_antisymm this (List.not_lt.mp c))) ne
     refine List.pairwise_append.mpr ⟨ha,List.pairwise_singleton _ _,λx hx y hy=>?_⟩;rw[arV.mp hy];rcases ar0.mp hx with hx|hx
     ·exact List.lt_trans ((List.pairwise_append.mp ha).2.2 x hx a (by simp)) lt
     ·rw[arV.mp hx];exact lt
   obtain⟨k1,k2⟩:=Vz R (acc++[r]) hup hR'.2 λa m x hx=>by
    rcases ar0.mp m with m|m
    ·exact hb a m x (arS _ hx)
    ·rw[arV.mp m];exact hR'.1 x hx
   refine⟨k1,λx=>?_⟩;rw[k2,ar0,arV,ar4,or_assoc]
theorem afE(R:List Rw):(pA R).Pairwise λa b=>Ear.rk a<=Ear.rk b:=by unfold pA;have srt:=atb (le:=λa b:Ear.Rw=>decide (Ear.rk a<=Ear.rk b)) (λa b c k1 k2=>by rw[ato]at *;exact List.le_trans k1 k2) (λa b=>by rw[atd,ato,ato];exact List.le_total _ _) R;exact srt.imp λh=>by simpa using h
theorem acK(R:List Rw):zQ (.list (R.map Ear.rD))=.ok (.list ((pA R).map Ear.rD)):=by
 cases R with
 |nil=>simp[zQ,intsOf,sortI,pA]
 |cons r R=>
  have h1:intsOf ((r::R).map Ear.rD)=none:=by simp[intsOf,Ear.rD]
  show(match intsOf ((r::R).map Ear.rD) with
   |some l=>Out.ok (PyData.list ((sortI l).map PyData.int))
   |none=>match BK ((r::R).map Ear.rD) with
    |some R=>.ok (.list ((pA R).map Ear.rD))
    |none=>.bad)=_
  rw[h1,Lw]
theorem ail(M:Mo)(R:List Rw)(h:R.length<=5000):KZ M [.list (R.map Ear.rD)]=.ok (.list ((bM R).map Ear.rD)):=by
 have hl:(pA R).length=R.length:=by simp[pA]
 obtain⟨y2,h1⟩:=WK M (some (.dat (.list (R.map Ear.rD)))) (pA R) [] none (by simp;omega);have h2:=Vz (pA R) [] List.Pairwise.nil (afE R) (by simp);have e:(pA R).foldl qO []=bM R:=up_eq h2.1 (QC R) λx=>by
  rw[h2.2,eY];simp[pA]
 rw[e]at h1;simp only[as5]at h1;simp[KZ,aav,acK,h1]
theorem adW(M:Mo)(x0 x2:Option Cell)(x6 x7 x8:Option Cell)(nD:Dat)(near:List Int)(hn:∀y,inD false (.int y) nD=.ok (.bool (decide (y∈near))))(lo:Int)(acc:List Rw)(i:Int)(b:dD)(h:acc.length<=5000) :
  mD M [x0,some (.dat nD),some (.dat (.int lo)),some (.mut (acc.map Ear.rD)),some (.dat (.int i)),some (.dat (iK b)),x6,x7,x8]=.next [x0,some (.dat nD),some (.dat (.int lo)),some (.mut ((acc++if (b.sd.due.isSome&&!((i+1)==lo))&&(decide (b.sd.g∈near)&&b.sd.al) then[(b.sd.o,b.sd.due.getD [])] else[]).map Ear.rD)),some (.dat (.int i)),some (.dat (iK b)),x6,x7,x8] M:=by
 have h0:acc.length < 100000:=by omega
 have h1:=hn b.sd.g;cases e1:b.sd.al with
 |false=>simp[mD,e1]
 |true=>
  cases e2:b.sd.due with
  |none=>simp[mD,e1,e2,oY,j9]
  |some e=>
   by_cases e3:b.sd.g∈near
   ·by_cases e4:i+1=lo
    ·simp[mD,e1,e2,oY,j9,h1,e3,e4]
    ·simp[mD,e1,e2,oY,j9,h1,e3,e4,h0,Ear.rD,Ear.dT]
   ·simp[mD,e1,e2,oY,j9,h1,e3]
theorem Wd(M:Mo)(x0:Option Cell)(x6 x7 x8:Option Cell)(nD:Dat)(near:List Int)(hn:∀y,inD false (.int y) nD=.ok (.bool (decide (y∈near))))(lo:Int):∀(xs:List (Nat×dD)) (acc:List Rw) (x4 x5:Option Cell),acc.length+xs.length<=5000->∃y4 y5,
  eO (bH [4,5]) mD (xs.map λx=>.tuple [.int (x.1:Int),iK x.2]) M [x0,some (.dat nD),some (.dat (.int lo)),some (.mut (acc.map Ear.rD)),x4,x5,x6,x7,x8]=.next [x0,some (.dat nD),some (.dat (.int lo)),some (.mut ((acc++((xs.filter λx=>(x.2.sd.due.isSome&&!(((x.1:Int)+1)==lo))&&(decide (x.2.sd.g∈near)&&x.2.sd.al)).map λx=>(x.2.sd.o,x.2.sd.due.getD []))).map Ear.rD)),y4,y5,x6,x7,x8] M
 |[],acc,x4,x5,_=>⟨x4,x5,by simp[eO]⟩
 |x::xs,acc,x4,x5,h=>by
  rw[ar6]at h;have hs:=adW M x0 (some (.dat (.int lo))) x6 x7 x8 nD near hn lo acc (x.1:Int) x.2 (by omega);generalize hz:(if (x.2.sd.due.isSome&&!(((x.1:Int)+1)==lo))&&(decide (x.2.sd.g∈near)&&x.2.sd.al) then[(x.2.sd.o,x.2.sd.due.getD [])] else[])=z at hs;have hl:z.length<=1:=by rw[←hz];split<;>simp
  obtain⟨y4,y5,h2⟩:=Wd M x0 x6 x7 x8 nD near hn lo xs (acc++z) (some (.dat (.int x.1))) (some (.dat (iK x.2))) (by rw[asF];omega);refine⟨y4,y5,?_⟩;rw[arT,gW (Z1:=[x0,some (.dat nD),some (.dat (.int lo)),some (.mut (acc.map Ear.rD)),some (.dat (.int x.1)),some (.dat (iK x.2)),x6,x7,x8]) (by simp) hs,h2,←hz];congr 6;rw[asI]
  split<;>simp
theorem ac4(c:aK):pB 0 (c.bs.map iK)=(c.bs.mapIdx λi b=>(i,b)).map λx=>.tuple [.int (x.1:Int),iK x.2]:=by unfold pB;apply asq;intro j;simp only[ar5,asN];cases c.bs[j]?<;>simp
theorem ab8(M:Mo)(c:aK)(hh:c.held.length<=2000)(hb:c.bs.length<=2000)(nD:Dat)(near:List Int)(hn:∀y,inD false (.int y) nD=.ok (.bool (decide (y∈near))))(lo:Int):Ar M [eX c,nD,.int lo]=.ok (.list ((bM (inR c near++CW c lo near)).map Ear.rD)):=by
 have k1:=fP (tg:=bH [6,7,8]) (tt:=bh (aA (inD false) (ao 7) (ao 1))) (te:=bB (ak (aq 6) (ak (aq 8) au))) (M:=M) (Z:=[some (.dat (eX c)),some (.dat nD),some (.dat (.int lo)),none,none,none,none,none,none]) fD (λr=>decide (r.2.1∈near)) (λr=>Ear.rD (r.1,r.2.2)) c.held λr _=>⟨[some (.dat (eX c)),some (.dat nD),some (.dat (.int lo)),none,none,none,some (.dat (.int r.1)),some (.dat (.int r.2.1)),some (.dat (aJ r.2.2))],by simp[fD],by simp[hn],λ_=>by simp[Ear.rD,Ear.dT]⟩;have e1:((c.held.filter λr=>decide (r.2.1∈near)).map λr=>Ear.rD (r.1,r.2.2))=(inR c near).map Ear.rD:=by simp[inR,asi]
 rw[e1]at k1;have l1:(inR c near).length<=2000:=by unfold inR;rw[arZ];exact asl (ar7 _ _) hh
 obtain⟨y4,y5,k2⟩:=Wd M (some (.dat (eX c))) none none none nD near hn lo (c.bs.mapIdx λi b=>(i,b)) (inR c near) none none (by simp;omega);rw[←ac4]at k2;have e2:((c.bs.mapIdx λi b=>(i,b)).filter λx=>(x.2.sd.due.isSome&&!(((x.1:Int)+1)==lo))&&(decide (x.2.sd.g∈near)&&x.2.sd.al)).map (λx=>(x.2.sd.o,x.2.sd.due.getD []))=CW c lo near:=rfl;rw[e2]at k2;have l2:(CW c lo near).length<=2000:=by unfold CW;rw[arZ];exact asl (ar7 _ _) (by simp;omega)
 have k3:=ail M (inR c near++CW c lo near) (by simp;omega);have h5:c.held.length<=50000:=by omega
 simp[-List.map_append,Ar,Ml,k1,h5,k2,k3]
theorem Ws:∀(l:List (Int×Int)),(l.map λp=>if p.2 - p.1 > 0 then p.2 - p.1 else 0).sum=((l.filter λp=>decide (p.1 < p.2)).map λp=>p.2 - p.1).sum
 |[]=>rfl
 |p::l=>by
  rw[arT,List.sum_cons,Ws l,asI];by_cases h:p.1 < p.2
  ·rw[if_pos (by omega),if_pos (by simpa using h),arT,List.sum_cons]
  ·rw[if_neg (by omega),if_neg (by simpa using h)];omega
theorem aaq(M:Mo)(x y:List Int)(h:x.length<=1000):Cm M [aJ x,aJ y]=.ok (.int (vf x y)):=by
 have key:=eZ (tg:=bH [2,3]) (te:=aA qL (qC (.int 0)) (aA kY (ao 3) (ao 2))) (M:=M) (Z:=[some (.dat (aJ x)),some (.dat (aJ y)),none,none]) pD (λp=>.int (if p.2 - p.1 > 0 then p.2 - p.1 else 0)) (x.zip y) λp _=>⟨[some (.dat (aJ x)),some (.dat (aJ y)),some (.dat (.int p.1)),some (.dat (.int p.2))],by simp[pD],by simp⟩;have hs:=Xb ((x.zip y).map λp=>if p.2 - p.1 > 0 then p.2 - p.1 else 0);rw[Ws,asr]at hs;have hz2:min x.length y.length<=50000:=by omega
 simp[Cm,Us,Di,key,hz2];simp[asi]at hs;simp[hs,vf]
theorem ak1(M:Mo)(x y:List Int)(h:x.length<=1000)(h2:y.length<=1000):NQ M [aJ x,aJ y]=.ok (.int (eE x y)):=by simp[NQ,acY,aaq M x y h,aaq M y x h2,eE]
theorem afp{c c':aK}{d:bG}{r:Dat}(e:bT c d=.ok r c')(h:∀a∈c.al,a<=9):∀a∈c'.al,a<=9:=by
 cases d<;>simp only[bT,oW,uo,Jp,jL,wu,wg,markB]at e<;>(repeat' split at e)<;>cases e<;>first | exact h | skip
 rename_i hx;intro a ha;rcases ar0.mp ha with z|z
 ·exact h a z
 ·rw[arV.mp z];exact hx.2
theorem JX.al9{n:Nat}{c:aK}(h:JX n c):∀a∈c.al,a<=9:=by
 induction h with
 |nil=>exact λ_ b=>nomatch b
 | @step n c d r hf ih=>
  unfold qF;cases e:bT c d with
  |ok _ c'=>exact afp e ih
  |no _=>exact ih
 |le _ h ih=>exact ih
theorem ai9{n:Nat}{c:aK}(h:JX n c)(i:cW c){x:Int}(v:Vg c x):roomOf c x<=9:=by
 unfold roomOf;have hne:(aH c x).map (jR c)≠[]:=λz=>by
  have:=i.self v;rw[List.map_eq_nil_iff.mp z]at this;cases this
 refine abZ hne λa ha=>?_;obtain⟨y,_,rfl⟩:=arY.mp ha;unfold jR;cases q:c.al[(y - 1).toNat]? with
 |none=>simp
 |some a=>exact h.al9 a (arW q)
theorem foldl_min:∀(l:List Int) (n:Int),l.foldl min n∈n::l/\∀y∈n::l,l.foldl min n<=y
 |[],n=>⟨by simp,by simp⟩
 |z::l,n=>by
  obtain⟨h1,h2⟩:=foldl_min l (min n z);rw[asY];refine⟨?_,λy hy=>?_⟩
  ·rcases ar4.mp h1 with e|m
   ·rw[e];by_cases q:n<=z
    ·rw[Int.min_eq_left q];simp
    ·rw[Int.min_eq_right (by omega)];simp
   ·exact arS _ (arS _ m)
  ·have h0:=h2 _ arU;rcases ar4.mp hy with e|hy
   ·omega
   ·rcases ar4.mp hy with e|hy
    ·omega
    ·exact h2 y (arS _ hy)
theorem af3(l:List Int)(space:Int)(h:space < 99):∃m,N8 (.list (l.map PyData.int)) (.int 99)=.ok (.int m)/\decide (m > space)=l.all λa=>decide (space < a):=by
 cases l with
 |nil=>exact⟨99,rfl,by simp;omega⟩
 |cons n l=>
  obtain⟨h1,h2⟩:=foldl_min l n;refine⟨l.foldl min n,?_,?_⟩
  ·show(match intsOf ((n::l).map PyData.int) with
    |some []=>_
    |some (n::ns)=>Out.ok (PyData.int (ns.foldl min n))
    |none=>ZD _)=_
   rw[xV]
  ·rw[asQ,ato,asj];constructor
   ·intro q a ha;have:=h2 a ha;simp;omega
   ·intro q;have:=q _ h1;simpa using this
theorem ab5(M:Mo)(x0 x1 x2 x3:Option Cell)(T:List Rw)(hT:qP T)(hl:T.length<=50000)(room:Int)(hr:room < 99)(e:List Int)(he:e.length=6):qu M [x0,x1,x2,x3,some (.dat (.list (T.map Ear.rD))),some (.dat (.int room)),some (.dat (aJ e)),none]=if nM T room e then .ret (aJ e) M else .next [x0,x1,x2,x3,some (.dat (.list (T.map Ear.rD))),some (.dat (.int room)),some (.dat (aJ e)),none] M:=by
 have key:=eZ (tg:=aF 7) (te:=aV NQ (ak (aA aP (ao 7) (qC (.int 1))) (ak (aq 6) au))) (M:=M) (Z:=pF [x0,x1,x2,x3,some (.dat (.list (T.map Ear.rD))),some (.dat (.int room)),some (.dat (aJ e)),none]) Ear.rD (λr=>.int (eE e r.2)) T λr hr=>⟨pF [x0,x1,x2,x3,some (.dat (.list (T.map Ear.rD))),some (.dat (.int room)),some (.dat (aJ e)),some (.dat (Ear.rD r))],by simp,by
  have h3:=ak1 M r.2 e (by rw[hT r hr];decide) (by omega);rw[Jt]at h3;have i1:aP (Ear.rD r) (.int 1)=.ok (aJ r.2):=rfl;simp[i1,h3]⟩
 obtain⟨m,h1,h2⟩:=af3 (T.map λr=>eE e r.2) room hr;rw[asr]at h1;have h1:N8 (.list (T.map λr=>PyData.int (eE e r.2))) (.int 99)=_:=h1;have ef:nM T room e=decide (m > room):=by rw[h2];unfold nM;rw[List.all_map,List.any_eq_not_all_not,Bool.not_not];congr 1;funext r;simp only[Function.comp_apply];rw[asQ];simp
 have hlm:(T.map Ear.rD).length=T.length:=by simp
 rw[ef];generalize T.map Ear.rD=R at *;generalize (T.map λr=>PyData.int (eE e r.2))=D at *;simp at key;by_cases q:m > room
 ·simp[qu,hlm,hl,key,h1,q]
 ·simp[qu,hlm,hl,key,h1,q]
theorem R8(M:Mo)(x0 x1 x2 x3:Option Cell)(T:List Rw)(hT:qP T)(hl:T.length<=50000)(room:Int)(hr:room < 99):∀(es:List (List Int)) (o:Option Cell),(∀e∈es,e.length=6)->
  match es.find? (nM T room) with
   |some e=>eO (aF 6) qu (es.map aJ) M [x0,x1,x2,x3,some (.dat (.list (T.map Ear.rD))),some (.dat (.int room)),o,none]=.ret (aJ e) M
   |none=>∃Z',eO (aF 6) qu (es.map aJ) M [x0,x1,x2,x3,some (.dat (.list (T.map Ear.rD))),some (.dat (.int room)),o,none]=.next Z' M
 |[],o,_=>⟨_,rfl⟩
 |e::es,o,he=>by
  have h1:=ab5 M x0 x1 x2 x3 T hT hl room hr e (he e arU);have ih:=R8 M x0 x1 x2 x3 T hT hl room hr es (some (.dat (aJ e))) λy hy=>he y (arS _ hy);rw[List.find?_cons];cases hf:nM T room e with
  |true=>
   rw[hf,if_pos rfl]at h1;show eO _ _ _ _ _=_;rw[arT,eO];simp[h1]
  |false=>
   rw[hf,if_neg (by decide)]at h1;have e1:eO (aF 6) qu ((e::es).map aJ) M [x0,x1,x2,x3,some (.dat (.list (T.map Ear.rD))),some (.dat (.int room)),o,none]=eO (aF 6) qu (es.map aJ) M [x0,x1,x2,x3,some (.dat (.list (T.map Ear.rD))),some (.dat (.int room)),some (.dat (aJ e)),none]:=by rw[arT,gW (by simp) h1]
   rw[e1];exact ih
def Zu:Option (List Int)->Dat
 |none=>.none
 |some e=>aJ e
theorem afQ(M:Mo){n s:Nat}(c:aK)(I:Inv n s c)(hs:s<=76)(g:Int)(v:Vg c g)(h9:roomOf c g<=9)(mk:List Int)(hm:cY mk=true)(x:Int)(hx:1<=x/\x<=3):Cg M [eX c,.int g,aJ mk,.int x]=.ok (Zu ((zE mk x).find? (nM (bM (cX c 0 g)) (roomOf c g)))):=by
 have f0:=I.hL;have hci:=I.gr.at v;have hcl:(aH c g).length<=1000:=by have:=I.gr.clen hci;omega
 have r1:=acX v;have r2:=ab8 M c (by omega) (by omega) (aJ (aH c g)) (aH c g) (λy=>by have:=ajV false y _ hcl;simpa using this) 0;have es:inR c (aH c g)++CW c 0 (aH c g)=cX c 0 g:=rfl;rw[es]at r2;have r3:=acp M c I.gr g v;have h1:=KY M mk x hm (by omega);have hlT:(bM (cX c 0 g)).length<=50000:=by rw[ql];exact asl (I.few λr hr=>oN hr) (by omega)
 have lp:=R8 M (some (.dat (eX c))) (some (.dat (.int g))) (some (.dat (aJ mk))) (some (.dat (.int x))) (bM (cX c 0 g)) (wI I.Mp) hlT (roomOf c g) (by omega) (zE mk x) none λe h=>gD (Kw hm (by omega) (ash.mp h).1);cases hf:(zE mk x).find? (nM (bM (cX c 0 g)) (roomOf c g)) with
 |some e=>
  rw[hf]at lp;generalize (bM (cX c 0 g)).map Ear.rD=T at *;generalize (zE mk x).map aJ=E at *;simp[Cg,Nt,r1,r2,r3,h1,lp,Zu]
 |none=>
  rw[hf]at lp;obtain⟨Z,lp⟩:=lp;generalize (bM (cX c 0 g)).map Ear.rD=T at *;generalize (zE mk x).map aJ=E at *;simp[Cg,Nt,r1,r2,r3,h1,lp,Zu]
theorem ak5(M:Mo){n s:Nat}(c:aK)(I:Inv n s c)(R:JX n c)(hs:s<=76)(hn:n<=199)(e g x:Int):w6 M [eX c,.int e,.int g,.int x,.int (c.count+1)]=.ok (Dq c (bT c (.heir e g x))):=by
 have f0:=I.hL;have h1:=Cr true e c.own;have h2:=RK M c g;have h3:=aaU M c (by omega) e g;have h4:=(eq_nil ((bF c e g).map aJ) (Dh.mpr λd hd=>by
  obtain⟨e,_,rfl⟩:=arY.mp hd;exact Cz 10 e)).1
 have e4:((bF c e g).map aJ).isEmpty=decide (bF c e g=[]):=by cases bF c e g<;>simp
 rw[e4]at h4;simp only[bT,oW,uo,jL];by_cases q1:e∈c.own;rotate_left
 ·rw[if_neg q1];rw[decide_eq_false q1]at h1;simp[w6,BR,Dq,h1]
 rw[if_pos q1];rw[decide_eq_true q1]at h1;by_cases q2:Vg c g;rotate_left
 ·rw[if_neg q2];rw[decide_eq_false q2]at h2;simp[w6,BR,Dq,h1,h2]
 rw[if_pos q2];rw[decide_eq_true q2]at h2;by_cases q3:1<=x/\x<=3;rotate_left
 ·rw[if_neg q3];by_cases w:1<=x
  ·have w2:¬x<=3:=λz=>q3 ⟨w,z⟩;simp[w6,BR,Dq,h1,h2,w,w2]
  ·simp[w6,BR,Dq,h1,h2,w]
 rw[if_pos q3];by_cases q4:bF c e g=[]
 ·rw[if_pos q4];rw[decide_eq_true q4]at h4;simp[w6,BR,Dq,h1,h2,q3.1,q3.2,h3,h4]
 rw[if_neg q4];rw[decide_eq_false q4]at h4;obtain⟨ms,hm,he⟩:=I.mk1 q4;have h5:=afQ M c I hs g q2 (ai9 R I.gr q2) (firstM c e g) he x q3;have h6:atI ((bF c e g).map aJ) ((0:Nat):Int)=some (aJ (firstM c e g)):=atI_nat (by rw[hm];rfl);simp only[Int.natCast_zero]at h6;have ol:c.own.length+1<=100000:=by have:=I.ownL;omega
 have hl:c.held.length+1<=100000:=by omega
 generalize (bF c e g).map aJ=K at *;cases hf:(zE (firstM c e g) x).find? (nM (bM (cX c 0 g)) (roomOf c g)) with
 |none=>
  rw[hf]at h5;simp[w6,BR,Dq,h1,h2,q3.1,q3.2,h3,h4,h6,h5,Zu,j9]
 |some mk=>
  rw[hf]at h5;have h7:j9 .none (aJ mk)=false:=rfl;have e6:eX { c with count:=c.count+1,own:=c.own++[c.count+1],held:=c.held++[(c.count+1,g,mk)] }=.tuple [lI (c.own++[c.count+1]),.list ((List.range c.al.length).map (Tg c)),.list ((c.held++[(c.count+1,g,mk)]).map fD),.list (c.bs.map iK)]:=rfl;show _=Out.ok (PyData.tuple [.str "",.tuple [.int (c.count+1),aJ mk],eX { c with count:=c.count+1,own:=c.own++[c.count+1],held:=c.held++[(c.count+1,g,mk)] }])
  rw[e6];simp[w6,BR,h1,h2,q3.1,q3.2,h3,h4,h6,h5,Zu,h7,ol,hl,fD]
theorem aii{M:Mo}{L:Lay}{n s:Nat}{c:aK}(a:At M L c)(I:Inv n s c)(hs:s<=76)(hn:n<=199)(e g x:Int):Spt M L (n+1) (s+1) (Gy M [ob L.c,.int e,.int g,.int x]) (bT c (.heir e g x)):=by
 have hc:=a.hc;have h1:=alC I hn (adK a I hs (by omega) e g x);cases q:bT c (.heir e g x) with
 |ok r c'=>
  rw[q]at h1;obtain⟨M',L',hL,h1,h2,h3⟩:=h1;exact⟨M',L',hL,by simp[Gy,Tq,hc,aO,fU,h1],h2,h3⟩
 |no y=>
  rw[q]at h1;have h1:_=_:=h1;have hx:y.cls="NoOwner"∨y.cls="NoGround"∨y.cls="BadExtra"∨y.cls="NoRight"∨y.cls="NoneFree":=by
   simp only[bT,oW,uo,jL]at q
   (repeat' split at q)<;>cases q<;>simp
  show _=_;rcases hx with hx|hx|hx|hx|hx<;>simp[Gy,Tq,hc,aO,fU,h1,hx,Jb,Fo,Fw,JH,FP]
theorem acq(M:Mo)(c:aK)(hc:0<=c.count)(x head:Int):∃a b y,Cy M [.str "heir",.int x,jV c,.int head]=.ok (.tuple [.str "heir",.int a,.int b,.int y]):=by have P:=abf x (Wf (head / 512));obtain⟨_,_,_,_,_,d5,_⟩:=aan M P ((rowOf x 14 10).getD 2 0 * 10+(rowOf x 14 10).getD 3 0) ((rowOf x 14 10).getD 4 0 * 10+(rowOf x 14 10).getD 5 0) c.count c.al.length c.bs.length hc (by omega) (by omega);exact⟨_,_,_,afx M _ x head _ _ _ d5⟩
theorem afb(ns:List Int)(h:ns.length<=63):∃M,Je [] [.list (ns.map PyData.int)]=.ok (.bool true) M:=by
 obtain⟨c,M1,L1,head,M0,hL,h0,c0,hh,h1,N,c1⟩:=played ns;generalize ns.getD 0 0=x0 at *;generalize ns.getD 1 0=x at *;have I:=N.inv;obtain⟨a,b,y0,h2⟩:=acq M1 c I.cnt.1 x head;obtain⟨e,h3⟩:=Zb M1 a x 3;obtain⟨g,h4⟩:=Zb M1 b x 4;have hd5:∀z,decide (CDiv z 5)=true:=λz=>decide_eq_true ⟨by decide,by decide⟩;obtain⟨y,h7⟩:=Zb M1 (if x % 5=1 then x / 5 % 7 - 1 else y0) x 5;have l1:=N.look (by decide);have hc1:=N.at_.hc;have h5:=ak5 M1 c I N.rch (by decide) (by decide) e g y;have h6:=aii N.at_ I (by decide) (by decide) e g y;rw[hL]at l1 hc1 h6;have i0:aP (jV c) (.int 0)=.ok (.int c.count):=rfl;cases q:bT c (.heir e g y) with
 |ok d c'=>
  rw[q]at h5 h6;obtain⟨M2,L2,hL2,h6,a2,I2⟩:=h6;have hd:lk 8 d=true:=by
   simp only[bT,oW,uo,jL]at q
   (repeat' split at q)<;>cases q
   simp[lk,wB,ac6]
  have k1:lJ 10 M2 [.tuple [.str "",d],.tuple [.str "",d]]=.ok (.bool true):=Uq M2 9 _ (by simp[lk,wB,hd])
  have k2:=Wc M2 c';have l2:=aiw a2 I2 (by decide);have hc2:=a2.hc;rw[hL2,hL]at l2 hc2;refine⟨M2,?_⟩;have z:Rf.cutD [PyData.str "",d,eX c'] none (some 2)=[PyData.str "",d]:=rfl
  by_cases w:x % 5=1
  ·rw[if_pos w]at h7;simp[Je,M9,h0,c0,←hh,h1,c1,h2,h3,h4,hd5,w,h7,hc1,aO,jx,l1,i0,h5];simp[h6,hc2,aO,l2,Dq,z,k1,k2]
  ·rw[if_neg w]at h7;simp[Je,M9,h0,c0,←hh,h1,c1,h2,h3,h4,w,h7,hc1,aO,jx,l1,i0,h5];simp[h6,hc2,aO,l2,Dq,z,k1,k2]
 |no y'=>
  rw[q]at h5 h6;have h6:_=_:=h6;have k1:lJ 10 M1 [.tuple [.str y'.cls,.none],.tuple [.str y'.cls,.none]]=.ok (.bool true):=Uq M1 9 _ (by simp[lk,wB]);have k2:=Wc M1 c;refine⟨M1,?_⟩;have z:Rf.cutD [PyData.str y'.cls,.none,eX c] none (some 2)=[PyData.str y'.cls,.none]:=rfl;by_cases w:x % 5=1
  ·rw[if_pos w]at h7;simp[Je,M9,h0,c0,←hh,h1,c1,h2,h3,h4,hd5,w,h7,hc1,aO,jx,l1,i0,h5];simp[h6,hc1,aO,l1,Dq,z,k1,k2]
  ·rw[if_neg w]at h7;simp[Je,M9,h0,c0,←hh,h1,c1,h2,h3,h4,w,h7,hc1,aO,jx,l1,i0,h5];simp[h6,hc1,aO,l1,Dq,z,k1,k2]
end Pr
open PySem PySem.W PySem.Calls PyProof.Rows
set_option maxHeartbeats 0 in
theorem PySem.Challenge.cw_earmarks_k44_heirs_come_holds : PySem.Challenge.rw_earmarks_k44_heirs_come.Holds := by
 w_on;o_law
 refine HandSHeadRun.head_any (r:=OpenLaw.row PySem.Challenge.rw_earmarks_k44_heirs_come) (q:=view (OpenLaw.row PySem.Challenge.rw_earmarks_k44_heirs_come).prog [95]) (H:=Pr.hkE) (ob:=Pr.obE) (M:=40000) (loose:=Pr.nm) (d:=HandSHeadRun.topDef (OpenLaw.row PySem.Challenge.rw_earmarks_k44_heirs_come).prog 95) (kwd:=[]) Pr.ajL (by kernel_rfl) (λs=>by kernel_rfl) Pr.run (by kernel_rfl) (by kernel_rfl) (by kernel_rfl) (by rfl) (by first | assumption | decide +kernel) (by decide +kernel) ⟨rfl,rfl,rfl,rfl,rfl,by decide +kernel⟩ ?hw ?hc
 case hw=>w_witness2
 case hc=>
  refine L2.walk_ofE (l:=PySem.Challenge.rw_earmarks_k44_heirs_come) (n:=63) (k:=13) (x:="_law_script") (CX:=L2.CX0) rfl (by decide) (by kernel_rfl) ⟨rfl,by decide,by decide⟩ ?F (λ_ _ _ _ z=>z)
  intro w mg fa h Y G hmg0;obtain⟨K,KX,c⟩:=Y;have hmg:mg ("law" : PySem.Str)=some (.ref fa):=by
   have e:(HandSHeadRun.topDef (OpenLaw.row PySem.Challenge.rw_earmarks_k44_heirs_come).prog 95).name=("law" : PySem.Str):=by kernel_rfl
   rw[←e];exact hmg0
  have T:Pr.Top w K mg:=⟨⟨h,KX,G⟩,c⟩;have e:=hmg.symm.trans (T.glo 107);cases e;obtain⟨fd,F⟩:=T.c.WD 107;have b:=L2.FunD.bindsA (ps:=["_law_script"]) F λ_ _ _ _ _ _ us hl=>match us,hl with|[_],_=>rfl
  exact⟨K,fd,λvs H Q _=>Rf.J9 K (Pr.aj w K) 1 Pr.Je vs H Q λ_ _ _=>False,KX,λs v=>b s [v] rfl,λH a ns hl _ hS=>(Pr.afb ns hl).elim λ_ z=>Rf.amv rfl hS z,λbase _ _=>Rf.ach (Pr.alU T F)⟩
